import PyProof.Rows.All
import Wide.All
import OpenK.AllK
import Wide.FinOn
import Lean
import PyProof.EqAt
import PyProof.EqKinds
import PyProof.TupleCall
import PySem.Challenge.RW_bandwright_k36_along_refused
set_option Elab.async false
set_option linter.all false
set_option maxRecDepth 100000
abbrev da:=@decide_eq_false
abbrev r6:=@beq_eq_false_iff_ne
abbrev BS:=@List.getElem?_eq_none_iff
abbrev aq:=@if_pos
abbrev ak:=@if_neg
abbrev bL:=@PySem.Heap.lt_size
abbrev dJ:=@Nat.lt_of_lt_of_le
abbrev eV:=@Nat.lt_irrefl
abbrev cV:=@Nat.ne_of_lt
abbrev yz:=@PySem.W.hideAll_get
abbrev r9:=@List.mem_filter
abbrev gS:=@List.mem_range
abbrev a8:=@Nat.le_trans
abbrev yA:=@List.filterMap_cons
abbrev kA:=@List.mem_cons_self
abbrev gT:=@List.mem_cons_of_mem
abbrev cM:=@List.mem_cons
abbrev jB:=@List.mem_append
abbrev yB:=@List.mem_append_left
abbrev bV:=@List.getElem?_eq_some_iff
abbrev BU:=@List.getElem?_set_self
abbrev bM:=@PySem.wpAny_mono
abbrev mG:=@PySem.wpAny_truthy_bool
abbrev gU:=@congrArg
abbrev oB:=@PySem.wpAny_execs_nil
abbrev yC:=@PySem.wpAny_execs_cons
abbrev b9:=@PySem.wpAny_bind
abbrev wF:=@PySem.wpAny_standAt
abbrev eG:=@PySem.wpAny_pure
abbrev wG:=@PySem.wpAny_newObj_type
abbrev cu:=@PySem.Heap.get?_push_of_some
abbrev oC:=@PySem.wpAny_passesOwn
abbrev cW:=@Bool.false_ne_true
abbrev gu:=@Int.mul_one
abbrev yE:=@PySem.wpAny_pyIter_list
abbrev eJ:=@PySem.Heap.get?_push_size
abbrev aN:=@Nat.le_refl
abbrev r_:=@PyProof.Rows.callWith_type1
abbrev dX:=@List.mem_append_right
abbrev b_:=@Nat.zero_le
abbrev oE:=@Bool.eq_iff_iff
abbrev kB:=@beq_iff_eq
abbrev eK:=@List.length_cons
abbrev yF:=@PySem.W.looks_findIn
abbrev cQ:=@List.map_cons
abbrev bg:=@List.length_map
abbrev yG:=@Nat.lt_succ_self
abbrev iP:=@PySem.W.kia_one
abbrev yH:=@List.append_nil
abbrev wH:=@PySem.codeAny_mono
abbrev wI:=@PySem.wpAny_Call_Name_kw
abbrev yI:=@PySem.W.callWith_K
abbrev jC:=@List.nodup_cons
abbrev jc:=@List.length_take
abbrev kC:=@PySem.mem_of_lookup
abbrev mH:=@List.getElem?_append_right
abbrev mI:=@List.getElem?_append_left
abbrev cw:=@List.getElem?_map
abbrev yJ:=@List.take_sublist
abbrev gv:=@List.mem_of_getElem?
abbrev cR:=@List.length_append
abbrev fg:=@Int.toNat_natCast
abbrev oF:=@List.length_drop
abbrev cX:=@List.size_toArray
abbrev si:=@List.replicate_succ
abbrev wJ:=@List.flatten_cons
abbrev oG:=@PySem.call_meets
abbrev BV:=@List.length_singleton
abbrev dc:=@decide_eq_true
abbrev a_:=@PySem.W.mg_of
abbrev kD:=@Nat.lt_of_le_of_lt
abbrev oH:=@PySem.wpAny_loadPart_at
abbrev BW:=@PySem.F.typeOf_object_class
abbrev mJ:=@Nat.not_lt_zero
abbrev BX:=@List.range_succ_eq_map
abbrev wK:=@List.all_eq_true
abbrev yK:=@List.forall_mem_nil
abbrev yL:=@PySem.wpAny_comprehension_free
abbrev yM:=@PySem.wpAny_newFunctionEnv
abbrev jd:=@PySem.lookup_relabel_local
abbrev yN:=@PySem.wpAny_tests_nil
abbrev yO:=@PySem.wpAny_tests_one
abbrev yP:=@PySem.codeAny_compStart_list
abbrev ir:=@List.getD_eq_getElem?_getD
abbrev iu:=@List.mem_singleton
abbrev dj:=@List.length_range
abbrev je:=@List.getElem?_range
abbrev oI:=@Nat.gcd_pos_of_pos_right
abbrev lP:=@Int.natAbs_pos
abbrev wL:=@Int.natAbs_natCast
abbrev yQ:=@Int.mul_le_mul_of_nonneg_left
abbrev iw:=@Int.mul_zero
abbrev kG:=@Int.gcd_dvd_left
abbrev jD:=@Int.gcd_dvd_right
abbrev fK:=@Int.natAbs_mul
abbrev jE:=@Int.dvd_trans
abbrev jF:=@Int.mul_ediv_cancel_left
abbrev dM:=@Int.mul_comm
abbrev mK:=@Int.mul_assoc
abbrev yR:=@Int.dvd_mul_left
abbrev sj:=@Int.natAbs_neg
abbrev iQ:=@Int.dvd_refl
abbrev BY:=@Int.emod_add_mul_ediv
abbrev gW:=@Int.emod_lt_of_pos
abbrev gw:=@Int.emod_nonneg
abbrev wM:=@Int.mul_emod
abbrev oJ:=@Int.emod_eq_of_lt
abbrev wN:=@List.any_cons
abbrev kH:=@List.take_length
abbrev mL:=@List.not_mem_nil
abbrev jf:=@Int.zero_dvd
abbrev oK:=@Int.mul_eq_zero
abbrev BZ:=@Int.dvd_of_emod_eq_zero
abbrev mM:=@Int.mul_neg
abbrev yS:=@Int.mul_ediv_add_emod
abbrev oM:=@Int.one_mul
abbrev eW:=@Int.zero_mul
abbrev oN:=@Int.zero_add
abbrev gz:=@Nat.mul_le_mul
abbrev mO:=@Int.sub_zero
abbrev wO:=@Classical.byContradiction
abbrev eX:=@List.ext_getElem
abbrev oO:=@List.range_succ
abbrev kI:=@List.map_append
abbrev jg:=@List.map_congr_left
abbrev B0:=@List.length_filter_le
abbrev jG:=@List.mem_map
abbrev yT:=@List.find?_cons
abbrev wQ:=@decide_eq_true_iff
abbrev fh:=@of_decide_eq_true
abbrev iR:=@List.map_map
abbrev yU:=@List.nodup_append
abbrev yV:=@List.nodup_range
abbrev fY:=@List.getElem_map
abbrev gX:=@List.getElem_range
abbrev mP:=@List.take_of_length_le
abbrev gY:=@List.getElem_mem
abbrev cN:=@List.getElem?_eq_getElem
abbrev wR:=@Nat.min_eq_left
abbrev oP:=@Int.dvd_zero
abbrev mQ:=@Int.sub_self
abbrev du:=@List.sum_cons
abbrev B1:=@Int.dvd_mul_of_dvd_left
abbrev yW:=@Nat.min_eq_right
abbrev eY:=@dif_pos
abbrev sk:=@List.map_singleton
abbrev jH:=@Nat.le_mul_of_pos_left
abbrev yX:=@Int.ediv_nonneg
abbrev dB:=@PySem.PassesOwn.never
abbrev fj:=@PySem.boot_len
abbrev lQ:=@PySem.F.excBase_ValueError
abbrev wU:=@PySem.F.plainAttrs_list
abbrev wV:=@Int.eq_ofNat_of_zero_le
abbrev wW:=@List.set_cons_zero
abbrev wX:=@List.set_cons_succ
abbrev fL:=@PySem.W.mg_none_of
abbrev fZ:=List (List (Int×Int))
abbrev cx:=List (Int×Int)
abbrev aS:=Nat→Nat→Int
abbrev cG:=PySem.Str→Option PySem.Value
abbrev aR:=PySem.Value→PySem.Shared→Prop
abbrev aD:=PySem.W.Frag
abbrev aU:=List (PySem.Addr×PySem.Obj)
namespace L2
open PySem PySem.Spec PyProof.Rows
abbrev Key:=Sum Int Str
def oQ:Key→Value→Bool
 | .inl k,v=>Value.isInt k v
 | .inr x,v=>Value.isStrOf x v
def NQ(w:World):Key→Int
 | .inl k=>hashInt k
 | .inr x=>hashStr w x
theorem kJ:∀{k:Key} {v:Value},oQ k v=true→(∃i t,k=Sum.inl i∧v=Value.int i t)∨(∃x t,k=Sum.inr x∧v=Value.str x t)
 | .inl i,v,h=>by obtain ⟨t,e⟩:=Value.isInt_shape (k:=i) (v:=v) h;exact .inl ⟨i,t,rfl,e⟩
 | .inr x,v,h=>by obtain ⟨t,e⟩:=Value.isStrOf_shape (x:=x) (v:=v) h;exact .inr ⟨x,t,rfl,e⟩
theorem NR(i:Int)(t:Tok):oQ (.inl i) (.int i t)=true:=by simp [oQ,Value.isInt]
theorem NS(x:Str)(t:Tok):oQ (.inr x) (.str x t)=true:=by simp [oQ,Value.isStrOf]
theorem NT(a b:Int):decide ((Sum.inl a:Key)=Sum.inl b)=(a == b):=by
 by_cases e:a=b;·subst e;simp
 ·have h:¬(Sum.inl a:Key)=Sum.inl b:=fun q=>e (Sum.inl.inj q)
  rw [da h];exact (r6.mpr e).symm
theorem NU(a b:Str):decide ((Sum.inr a:Key)=Sum.inr b)=decide (a=b):=by
 by_cases e:a=b;·subst e;simp
 ·have h:¬(Sum.inr a:Key)=Sum.inr b:=fun q=>e (Sum.inr.inj q)
  rw [da h,da e]
theorem NV(a:Int)(b:Str):decide ((Sum.inl a:Key)=Sum.inr b)=false:=da (fun q=>nomatch q)
theorem NW(a:Str)(b:Int):decide ((Sum.inr a:Key)=Sum.inl b)=false:=da (fun q=>nomatch q)
def iy(prog:Program)(w:World):PySem.KeyKind prog w Key where
 is:=oQ
 hash:=NQ w
 inj:=fun v a b ha hb=>by
  rcases kJ ha with ⟨i,t,rfl,rfl⟩ | ⟨x,t,rfl,rfl⟩
  ·rcases kJ hb with ⟨j,u,rfl,e⟩ | ⟨y,u,rfl,e⟩
   ·injection e with e1 _;rw [e1]
   ·exact nomatch e
  ·rcases kJ hb with ⟨j,u,rfl,e⟩ | ⟨y,u,rfl,e⟩
   ·exact nomatch e
   ·injection e with e1 _;rw [e1]
 byValue:=fun k v h=>by
  rcases kJ h with ⟨i,t,rfl,rfl⟩ | ⟨x,t,rfl,rfl⟩ <;> rfl
 pyHash:=fun hv h=>by
  rcases kJ hv with ⟨i,t,rfl,rfl⟩ | ⟨x,t,rfl,rfl⟩
  ·exact wpAny_pyHash_int h
  ·exact wpAny_pyHash_str h
 eqBool:=fun hu hv h=>by
  rcases kJ hu with ⟨i,t,rfl,rfl⟩ | ⟨x,t,rfl,rfl⟩
  ·rcases kJ hv with ⟨j,u,rfl,rfl⟩ | ⟨y,u,rfl,rfl⟩
   ·rw [NT] at h;exact wpAny_eqBool_int h
   ·rw [NV] at h;exact SeqAt.EqAt.int_str i t y u _ _ _ _ h
  ·rcases kJ hv with ⟨j,u,rfl,rfl⟩ | ⟨y,u,rfl,rfl⟩
   ·rw [NW] at h;exact SeqAt.EqAt.str_int x t j u _ _ _ _ h
   ·rw [NU] at h;exact wpAny_eqBool_str h
 «strs»:=fun k x t v h=>by
  rcases kJ h with ⟨i,u,rfl,e⟩ | ⟨y,u,rfl,e⟩
  ·exact nomatch e
  ·injection e with e1 _
   subst e1
   cases v <;> rfl
theorem NX(prog:Program)(w:World)(i:Int)(t:Tok):(iy prog w).is (.inl i) (.int i t)=true:=NR i t
theorem NY(prog:Program)(w:World)(x:Str)(t:Tok):(iy prog w).is (.inr x) (.str x t)=true:=NS x t
inductive V where
 | aF | bl (b:Bool) | int (i:Int) | str (x:Str) | jh (b:Array UInt8) | oR (b:UInt64) | ref (a:Addr) | ty (n:String)
 deriving DecidableEq
def RelV:V→Value→Prop
 | .aF,u=>u=Value.none
 | .bl b,u=>u=Value.bool b
 | .int i,u=>∃t,u=Value.int i t
 | .str x,u=>∃t,u=Value.str x t
 | .jh b,u=>∃t,u=Value.bytes b t
 | .oR b,u=>∃t,u=Value.float b t
 | .ref a,u=>u=Value.ref a
 | .ty n,u=>u=Value.type n
abbrev Vals:List V→List Value→Prop:=Paired RelV
variable {xs:List V} {us:List Value}
theorem Vals.length(r:Vals xs us):xs.length=us.length:=Paired.length r
theorem Vals.get:∀{xs:List V} {us:List Value} {i:Nat} {x:V},Vals xs us→xs[i]?=some x→∃u,us[i]?=some u∧RelV x u
 | _,_,_,_,.nil,e=>by simp at e
 | _,_,0,_,.cons r _,e=>by simp at e;subst e;exact ⟨_,rfl,r⟩
 | _,_,i+1,x,.cons _ t,e=>by
  obtain ⟨u,h1,h2⟩:=Vals.get (i:=i) (x:=x) t (by simpa using e)
  exact ⟨u,by simpa using h1,h2⟩
theorem Vals.set{x:V}{u:Value}(r:RelV x u):∀{xs:List V} {us:List Value} (i:Nat),Vals xs us→Vals (xs.set i x) (us.set i u)
 | _,_,_,.nil=>.nil
 | _,_,0,.cons _ t=>.cons r t
 | _,_,i+1,.cons q t=>.cons q (Vals.set r i t)
theorem Vals.append:∀{xs ys:List V} {us ws:List Value},Vals xs us→Vals ys ws→Vals (xs++ys) (us++ws)
 | _,_,_,_,.nil,s=>s
 | _,_,_,_,.cons r t,s=>.cons r (Vals.append t s)
theorem Vals.take:∀{xs:List V} {us:List Value} (n:Nat),Vals xs us→Vals (xs.take n) (us.take n)
 | _,_,0,_=>.nil
 | _,_,_+1,.nil=>.nil
 | _,_,n+1,.cons r t=>.cons r (Vals.take n t)
theorem Vals.drop:∀{xs:List V} {us:List Value} (n:Nat),Vals xs us→Vals (xs.drop n) (us.drop n)
 | _,_,0,r=>r
 | _,_,_+1,.nil=>.nil
 | _,_,n+1,.cons _ t=>Vals.drop n t
theorem Vals.none_of:∀{xs:List V} {us:List Value} {i:Nat},Vals xs us→xs[i]?=none→us[i]?=none:=fun{xs us i} r e=>by have h1:=r.length;have h2:xs.length≤i:=BS.mp e;exact BS.mpr (by lia)
def iS:Option V→Option Value→Prop
 | some v,some u=>RelV v u
 | none,none=>True
 | _,_=>False
def KV{κ:Type}:List (κ×V)→List (κ×Value)→Prop:=Paired fun(p:κ×V) (q:κ×Value)=>p.1=q.1∧RelV p.2 q.2
def kV:Key→V
 | .inl i=>.int i
 | .inr x=>.str x
inductive HO where
 | lst (xs:List V)
 | tup (xs:List V)
 | dK (ao:List (Key×V)) | dT (ao:List (List Key×V))
 | set (S:Int→Bool) (n:Nat)
 | ins (C dx:Addr) (fs:List (Str×V))
 | own (x:Addr)
 | xd (fs:List (Str×V))
 | met (f x:Addr)
 | mR (lo hi:Int)
 | cp (o:Obj) (u:HO)
 | kK (ps:Array Value)
 | ext (φ:Heap→Prop)
abbrev Hp:=Addr→Option HO
def upd(H:Hp)(a:Addr)(o:HO):Hp:=fun b=>if b=a then some o else H b
variable {H:Hp} {a:Addr} {o:HO}
theorem au:upd H a o a=some o:=by unfold upd;rw [aq rfl]
variable {b:Addr}
theorem aO(h:b≠a):upd H a o b=H b:=by unfold upd;rw [ak h]
theorem NZ{u:HO}(h:H a=some o)(h':H b=some u)(d:o≠u):a≠b:=by intro e;subst e;rw [h] at h';exact d (Option.some.inj h')
theorem fk(h:H a=some o)(h':H b=none):a≠b:=by intro e;subst e;rw [h] at h';cases h'
section
variable (P:Program) (w:World)
def cy(H:Hp)(h:Heap)(a:Addr):HO→Prop
 | .lst xs=>xs.length≤sizeLine∧∃(ah:List Value) (n:Nat),Vals xs ah∧h.get? a=some {cls:=.type "list",data:=.seq ah.toArray n}
 | .tup xs=>xs.length≤sizeLine∧∃ah:List Value,Vals xs ah∧IsTup h a ah.toArray
 | .dK ao=>ao.length≤sizeLine∧(a == sysModules)=false∧∃vs,KV ao vs∧h.DictOf (iy P w) a vs
 | .dT ao=>ao.length≤sizeLine∧(a == sysModules)=false∧∃xs:List (List Key×Addr×Value),
   Paired (fun(p:List Key×V) (q:List Key×Addr×Value)=>p.1=q.1∧H q.2.1=some (.tup (p.1.map kV))∧RelV p.2 q.2.2) ao xs ∧
   ∃o es ep,h.get? a=some o∧o.ExactDict∧o.data=.dict es ep∧es.toList=xs.map (entryOfKey (tupleKind (iy P w)))∧(xs.map (·.1)).Nodup
 | .set S n=>h.SetOf (intKind P w) a S n
 | .ins C dx fs=>H dx=some (.own a)∧fs.length≤1000∧dx≠a∧h.get? a=some (PySem.W.instObj C dx) ∧
   ∃mA,h.Ns1 dx mA∧(∀f,iS (fs.lookup f) (mA f))∧PySem.Within mA (fs.map (·.1))
 | .own _=>∃o,h.get? a=some o
 | .xd fs=>∃mA,h.Ns1 a mA∧∀f,iS (fs.lookup f) (mA f)
 | .mR lo hi=>∃t u v,h.get? a=some {cls:=.type "range",data:=.fields #[.int lo t,.int hi u,.int 1 v]}
 | .cp o u=>h.get? a=some o∧cy H h a u
 | .kK ps=>h.get? a=some {cls:=.none,data:=.fields ps}
 | .met f x=>h.get? a=some (PySem.W.methodObj (.ref f) (.ref x))
 | .ext φ=>φ h∧(∃o,h.get? a=some o)∧∀h1 h2:Heap,φ h1→(∀o,h1.get? a=some o→h2.get? a=some o)→φ h2
def bW(H:Hp)(h:Heap):Prop:=∀a o,H a=some o→cy P w H h a o
end
section
variable {P:Program} {w:World} {H H':Hp} {h h':Heap} {a:Addr} {o:HO}
theorem cy.lt(x:cy P w H h a o):a<h.objs.size:=by
 cases o with
 | lst xs=>obtain ⟨_,_,_,_,e⟩:=x;exact bL e
 | tup xs=>obtain ⟨_,_,_,p⟩:=x;exact p.lt
 | dK ao=>obtain ⟨_,_,_,_,o,_,_,e,_⟩:=x;exact bL e
 | dT ao=>obtain ⟨_,_,_,_,o,_,_,e,_⟩:=x;exact bL e
 | set S n=>obtain ⟨o,_,_,_,e,_⟩:=x;exact bL e
 | ins C dx fs=>obtain ⟨_,_,_,e,_⟩:=x;exact bL e
 | own y=>obtain ⟨_,e⟩:=x;exact bL e
 | xd fs=>obtain ⟨_,⟨_,_,_,e,_⟩,_⟩:=x;exact bL e
 | mR lo hi=>obtain ⟨_,_,_,e⟩:=x;exact bL e
 | cp ob u=>obtain ⟨e,_⟩:=x;exact bL e
 | kK ps=>exact bL (show h.get? a=some _ from x)
 | met f y=>exact bL (show h.get? a=some _ from x)
 | ext φ=>obtain ⟨_,⟨_,e⟩,_⟩:=x;exact bL e
theorem Paired.B2{α β:Type}{F G:α→β→Prop}:∀{l₁:List α} {l₂:List β},Paired F l₁ l₂→(∀a b,F a b→G a b)→Paired G l₁ l₂
 | _,_,.nil,_=>.nil
 | _,_,.cons r t,f=>.cons (f _ _ r) (Paired.B2 t f)
theorem cy.iz(x:cy P w H h a o)(k:∀b u,(b=a∨H b=some (.own a))→h.get? b=some u→h'.get? b=some u)
  (ho:∀b,H b=some (.own a)→H' b=some (.own a)) (ht:∀b xs,H b=some (.tup xs)→H' b=some (.tup xs)):cy P w H' h' a o:=by
 induction o with
 | lst xs=>obtain ⟨z,ah,n,r,e⟩:=x;exact ⟨z,ah,n,r,k _ _ (.inl rfl) e⟩
 | tup xs=>obtain ⟨z,ah,r,ob,e,c⟩:=x;exact ⟨z,ah,r,ob,k _ _ (.inl rfl) e,c⟩
 | dK ao=>obtain ⟨z,y,vs,r,ob,es,ep,e,c⟩:=x;exact ⟨z,y,vs,r,ob,es,ep,k _ _ (.inl rfl) e,c⟩
 | dT ao=>obtain ⟨z,y,xs,r,ob,es,ep,e,c⟩:=x;exact ⟨z,y,xs,Paired.B2 r fun p q z=>⟨z.1,ht _ _ z.2.1,z.2.2⟩,ob,es,ep,k _ _ (.inl rfl) e,c⟩
 | set S n=>obtain ⟨ob,es,ep,t,e,c⟩:=x;exact ⟨ob,es,ep,t,k _ _ (.inl rfl) e,c⟩
 | ins C dx fs=>obtain ⟨d,z,ne,e,mA,⟨od,es,ep,e2,c⟩,r⟩:=x;exact ⟨ho _ d,z,ne,k _ _ (.inl rfl) e,mA,⟨od,es,ep,k _ _ (.inr d) e2,c⟩,r⟩
 | own y=>obtain ⟨ob,e⟩:=x;exact ⟨ob,k _ _ (.inl rfl) e⟩
 | xd fs=>obtain ⟨mA,⟨od,es,ep,e,c⟩,r⟩:=x;exact ⟨mA,⟨od,es,ep,k _ _ (.inl rfl) e,c⟩,r⟩
 | mR lo hi=>obtain ⟨t,u,v,e⟩:=x;exact ⟨t,u,v,k _ _ (.inl rfl) e⟩
 | cp ob u ih=>obtain ⟨e,q⟩:=x;exact ⟨k _ _ (.inl rfl) e,ih q⟩
 | kK ps=>have e:h.get? a=some {cls:=.none,data:=.fields ps}:=x;show h'.get? a=some {cls:=.none,data:=.fields ps};exact k a _ (.inl rfl) e
 | met f y=>have e:h.get? a=some (PySem.W.methodObj (.ref f) (.ref y)):=x;show h'.get? a=some (PySem.W.methodObj (.ref f) (.ref y));exact k a _ (.inl rfl) e
 | ext φ=>obtain ⟨p,⟨o,e⟩,st⟩:=x;exact ⟨st _ _ p fun o q=>k _ _ (.inl rfl) q,⟨o,k _ _ (.inl rfl) e⟩,st⟩
theorem bW.lt(x:bW P w H h)(e:H a=some o):a<h.objs.size:=(x a o e).lt
theorem bW.fresh(x:bW P w H h)(e:h.objs.size≤a):H a=none:=by
 cases q:H a with
 | none=>rfl
 | some u=>exact absurd (dJ (x.lt q) e) (eV _)
theorem bW.kept(x:bW P w H h)(k:∀b u,h.get? b=some u→h'.get? b=some u):bW P w H h':=fun a o e=>(x a o e).iz (fun b u _ q=>k b u q) (fun _ q=>q) fun _ _ q=>q
theorem bW.laid(x:bW P w H h)(k:∀b u,h.get? b=some u→h'.get? b=some u)(hp:h.objs.size≤a)(new:cy P w (upd H a o) h' a o):bW P w (upd H a o) h':=fun b u e=>by
 have hn:=x.fresh hp;by_cases hb:b=a;·subst hb;rw [au] at e;cases e;exact new
 ·rw [aO hb] at e
  exact (x b u e).iz (fun c v _ q=>k c v q) (fun c q=>by rw [aO (fk q hn)];exact q) fun c xs q=>by rw [aO (fk q hn)];exact q
end
def Rd(H:Hp)(a:Addr)(u:HO):Prop:=H a=some u∨∃o,H a=some (.cp o u)
variable {P:Program} {w:World} {h:Heap}
theorem Rd.ok{u:HO}(r:Rd H a u)(x:bW P w H h):cy P w H h a u:=by
 rcases r with r | ⟨o,r⟩;·exact x a u r
 ·obtain ⟨_,q⟩:=x a _ r
  exact q
def wY:Option HO→Prop
 | some (.lst _)=>True
 | some (.dK _)=>True
 | some (.dT _)=>True
 | some (.set _ _)=>True
 | some (.ins _ _ _)=>True
 | some (.ext _)=>True
 | _=>False
section
variable {P:Program} {w:World} {H:Hp} {h h':Heap} {x e:Addr} {o':HO}
theorem bW.write(ok:bW P w H h)(mu:wY (H x))(he:e=x∨H e=some (.own x))(k:∀b u,b≠e→h.get? b=some u→h'.get? b=some u)(sq:∃u,h'.get? e=some u)
  (new:cy P w (upd H x o') h' x o'):bW P w (upd H x o') h':=fun b u q=>by
 have Fn:∀c y,H c=some (.own y)→c≠x:=fun c y r z=>by subst z;rw [r] at mu;exact mu
 have N1:∀c xs,H c=some (.tup xs)→c≠x:=fun c xs r z=>by subst z;rw [r] at mu;exact mu
 by_cases hb:b=x;·subst hb;rw [au] at q;cases q;exact new
 ·rw [aO hb] at q
  by_cases oS:b=e
  ·have q':H b=some (.own x):=by
    rcases he with z | z;·exact absurd (oS.trans z) hb
    ·rw [oS];exact z
   rw [q] at q';cases q';obtain ⟨v,hv⟩:=sq;exact ⟨v,by rw [oS];exact hv⟩
  ·refine (ok b u q).iz (fun c v hc r=>k c v ?_ r) (fun c r=>by rw [aO (Fn c b r)];exact r) fun c xs r=>by rw [aO (N1 c xs r)];exact r
   rcases hc with rfl | hc;·exact oS
   ·rintro rfl
    rcases he with z | z;·exact Fn c b hc z
    ·rw [hc] at z;cases z;exact hb rfl
end
structure Un (fs ex:List Addr) (H H':Hp) (h h':Heap):Prop where
 keep:∀b o,h.get? b=some o→H b=none→b∉fs→b∉ex→h'.get? b=some o
 slot:∀b o,h.get? b=some o→H b=none→b∈fs→b∉ex→∃sl,h'.get? b=some {o with slots:=sl}
 free:∀b o,h.get? b=some o→H b=none→b∉ex→H' b=none
 there:∀b o,h.get? b=some o→b∉ex→∃o',h'.get? b=some o'
 eL:∀b xs,H b=some (.tup xs)→H' b=some (.tup xs)
 d5:∀b o u,H b=some (.cp o u)→H' b=some (.cp o u)
 eN:∀b ps,H b=some (.kK ps)→∃more,H' b=some (.kK (ps++more))
section
variable {fs B3 ex B4:List Addr} {H H1 H2:Hp} {h h1 h2 h':Heap} {a x e:Addr} {o:HO}
theorem Un.any(u:Un fs ex H H1 h h1){ob:Obj}(q:h.get? b=some ob)(n:H b=none)(hx:b∉ex):∃sl,h1.get? b=some {ob with slots:=sl}:=by
 by_cases hb:b∈fs;·exact u.slot b ob q n hb hx
 ·exact ⟨ob.slots,u.keep b ob q n hb hx⟩
theorem Un.kept(k:∀b u,h.get? b=some u→h'.get? b=some u):Un fs ex H H h h':=
 ⟨fun b ob q _ _ _=>k b ob q,fun b ob q _ _ _=>⟨ob.slots,k b ob q⟩,fun _ _ _ n _=>n,fun b ob q _=>⟨ob,k b ob q⟩,fun _ _ q=>q,fun _ _ _ q=>q,fun _ ps q=>⟨#[],by rw [q];simp⟩⟩
theorem Un.refl:Un fs ex H H h h:=Un.kept fun _ _ q=>q
theorem Un.laid(k:∀b u,h.get? b=some u→h'.get? b=some u)(hp:h.objs.size≤a)(hn:H a=none):Un fs ex H (upd H a o) h h' where
 keep:=fun b u q _ _ _=>k b u q
 slot:=fun b u q _ _ _=>⟨u.slots,k b u q⟩
 free:=fun b u q n _=>by rw [aO (cV (dJ (bL q) hp))];exact n
 there:=fun b u q _=>⟨u,k b u q⟩
 eL:=fun b xs q=>by rw [aO (fk q hn)];exact q
 d5:=fun b u xs q=>by rw [aO (fk q hn)];exact q
 eN:=fun b ps q=>⟨#[],by rw [aO (fk q hn),q];simp⟩
theorem Un.write(mu:wY (H x))(he:e=x∨H e=some (.own x))(k:∀b u,b≠e→h.get? b=some u→h'.get? b=some u)(sq:∃u,h'.get? e=some u):Un fs ex H (upd H x o) h h':=by
 have hx:∀b,H b=none→b≠x:=fun b n z=>by subst z;rw [n] at mu;exact mu
 have hb:∀b,H b=none→b≠e:=fun b n z=>by
  subst z;rcases he with r | r;·exact hx b n r
  ·rw [n] at r;cases r
 have hm:∀b u,H b=some u→¬wY (some u)→b≠x:=fun b u q nm z=>by subst z;rw [q] at mu;exact nm mu
 refine ⟨fun b u q n _ _=>k b u (hb b n) q,fun b u q n _ _=>⟨u.slots,k b u (hb b n) q⟩,fun b u q n _=>by rw [aO (hx b n)];exact n,fun b u q _=>?_,
  fun b xs q=>by rw [aO (hm b _ q fun z=>z)];exact q,fun b u xs q=>by rw [aO (hm b _ q fun z=>z)];exact q,fun b ps q=>⟨#[],by rw [aO (hm b _ q fun z=>z),q];simp⟩⟩
 by_cases oS:b=e;·subst oS;exact sq
 ·exact ⟨u,k b u oS q⟩
end
def yY(h:Heap)(H:Hp):List Addr:=(List.range h.objs.size).filter fun a=>(H a).isSome
def lR(h:Heap)(H:Hp):Heap:=PySem.W.hideAll h (yY h H)
theorem N2(h:Heap)(H:Hp):(lR h H).objs.size=h.objs.size:=PySem.W.hideAll_size _ _
theorem N3{o:Obj}(e:h.get? b=some o)(n:H b=none):(lR h H).get? b=some o:=
 yz _ e fun hm=>by have q:(H b).isSome=true:=(r9.mp hm).2;rw [n] at q;simp at q
theorem N4{o:Obj}(e:(lR h H).get? b=some o):h.get? b=some o∧H b=none:=by
 have e':h.get? b=some o:=PySem.W.of_hideAll (yY h H) e;refine ⟨e',?_⟩;cases q:H b with
 | none=>rfl
 | some x=>
  have hm:b∈yY h H:=r9.mpr ⟨gS.mpr (bL e'),by simp [q]⟩
  have z:(lR h H).get? b=none:=PySem.W.hideAll_none (yY h H) hm;rw [z] at e;cases e
structure Mod (K:aD) (mg:cG) (base:Heap):Prop where
 cH:K.In base
 glob:base.Ns mainGlobals mg
 blt:∃mb,base.Ns builtinsNs mb∧∀x:Str,x ≠ "__name__"→mb x=bootBuiltins x
 nolimit:base.NoLimit
structure Cx where
 prog:Program
 w:World
 K:PySem.W.Frag
 mg:Str→Option Value
 base:Heap
 A:Around
 N:List Str
 s₀:Shared
 H₀:Hp
 env:Env
 outer:List Env
 stack:List Env
 ex:List Addr
 fn:Str→Bool
 calm:Bool
 pn:List (Addr×Obj)
 xe:Value→Shared→Prop
def cf(l:List Env):List Addr:=l.filterMap (·.frame)
abbrev Cx.fs (X:Cx):List Addr:=cf X.outer
def mT(sc:Scope)(x:Str):Prop:=sc.names.lookup x=some .local∨sc.names.lookup x=some .cell∨sc.names.lookup x=some .free
def Loc(sc:Scope)(x:Str):Prop:=sc.names.lookup x=some .local∨sc.names.lookup x=some .cell
def Look(env:Env)(h:Heap)(m:cG)(x:Str)(u:Value):Prop:=
 (env.kindOf x=some .local∧m x=some u)∨((env.kindOf x=some .cell∨env.kindOf x=some .free)∧∃c,env.cells.lookup x=some c∧h.IsCell c (some u))
structure Cx.Ok (X:Cx):Prop where
 mod:Mod X.K X.mg X.base
 kind:X.env.scope.kind=.function
 glob:X.env.globals=mainGlobals
 blt:X.env.builtins=builtinsNs
 above:X.s₀.heap.objs.size≤X.env.locals
 inj:∀x y c,X.env.cells.lookup x=some c→X.env.cells.lookup y=some c→x=y
 has:∀x,(X.env.kindOf x=some .cell∨X.env.kindOf x=some .free)→∃c,X.env.cells.lookup x=some c
 su:∀x c,X.fn x=true→X.env.cells.lookup x=some c→X.s₀.heap.objs.size≤c
 hd:X.calm=true→X.A.handled=none
 frames:X.A.frames=some X.stack
 f9:X.stack=X.outer∨(X.stack=X.env::X.outer∧X.env.frame=some X.env.locals)
 B5:∀b∈X.ex,b≠X.env.locals∧∀x c,X.env.cells.lookup x=some c→c≠b
 bs:∀b o,X.base.get? b=some o→X.s₀.heap.get? b=some o∧X.H₀ b=none
 gA:X.base.objs.size≤X.s₀.heap.objs.size
 lS:∀b o,X.base.get? b=some o→b∉X.ex
 lU:∀b∈X.ex,b∉X.fs
 iT:X.s₀.heap.FunFrames X.base X.outer
 kL:∀b∈X.fs,X.H₀ b=none
structure Inv (X:Cx) (pins:aU) (σ:List (Option V)) (H:Hp) (s:Shared):Prop where
 ok:X.Ok
 os:s.os=X.s₀.os
 bare:AllBare s.gens
 base:Un X.fs X.ex X.H₀ H X.s₀.heap s.heap
 loc:∃m,s.heap.Ns X.env.locals m∧∀(i:Nat) (x:Str) (v:V),X.N[i]?=some x→σ[i]?=some (some v)→mT X.env.scope x→∃u,RelV v u∧Look X.env s.heap m x u
 cell:∀x c,X.env.cells.lookup x=some c→∃v,s.heap.IsCell c v
 free:H X.env.locals=none
 gB:∀x c,X.env.cells.lookup x=some c→H c=none
 pin:∀p∈X.pn++pins,s.heap.get? p.1=some p.2∧H p.1=none∧p.1≠X.env.locals∧p.1∉X.fs∧∀v,p.2.data≠.cell v
 ay:bW X.prog X.w H s.heap
 len:σ.length=X.N.length
section
variable {X:Cx} {pins:aU} {σ:List (Option V)} {H H':Hp} {s:Shared} {h':Heap}
theorem Cx.Ok.N5(ok:X.Ok){o:Obj}(e:X.base.get? b=some o):b∉X.fs:=fun hb=>by have:=(ok.iT.mem hb).1;rw [e] at this;cases this
theorem Inv.bs(I:Inv X pins σ H s):∀b o,X.base.get? b=some o→s.heap.get? b=some o∧H b=none:=fun b o e=>⟨I.base.keep b o (I.ok.bs b o e).1 (I.ok.bs b o e).2 (I.ok.N5 e) (I.ok.lS b o e),I.base.free b o (I.ok.bs b o e).1 (I.ok.bs b o e).2 (I.ok.lS b o e)⟩
theorem Inv.bk(I:Inv X pins σ H s):∀b o,X.base.get? b=some o→s.heap.get? b=some o:=fun b o e=>(I.bs b o e).1
theorem Inv.mod(I:Inv X pins σ H s):Mod X.K X.mg X.base:=I.ok.mod
theorem Inv.cS(I:Inv X pins σ H s):X.K.In s.heap:=I.ok.mod.cH.keeps I.bk
theorem Inv.lt(I:Inv X pins σ H s):X.env.locals<s.heap.objs.size:=let ⟨_,hn,_⟩:=I.loc;hn.lt
theorem Inv.sz(I:Inv X pins σ H s):X.s₀.heap.objs.size≤s.heap.objs.size:=a8 I.ok.above (Nat.le_of_lt I.lt)
theorem Inv.N6(I:Inv X pins σ H s)(h:s.heap.objs.size≤a):a∉X.fs:=fun hb=>by obtain ⟨_,o,ho,_⟩:=I.ok.iT.mem hb;exact absurd (dJ (bL ho) (a8 I.sz h)) (eV _)
theorem Inv.jI(I:Inv X pins σ H s):∀x c,X.env.cells.lookup x=some c→c≠X.env.locals:=fun x c e z=>by obtain ⟨v,o,ho,hd⟩:=I.cell x c e;obtain ⟨m,⟨o',es,ep,kM,B6,_⟩,_⟩:=I.loc;rw [z,kM] at ho;cases ho;rw [B6] at hd;cases hd
theorem Inv.iT(I:Inv X pins σ H s):s.heap.FunFrames X.base X.outer:=by
 have all:∀(l:List Env),(∀b∈cf l,b∈X.fs)→X.s₀.heap.FunFrames X.base l→s.heap.FunFrames X.base l:=by
  intro l
  induction l with
  | nil=>intro _ _;trivial
  | cons env r ih=>
   intro hs hl;obtain ⟨hk,⟨L,o,hf,hn,ho,hd⟩,hr⟩:=hl;have hL:L∈X.fs:=hs L (by unfold cf;rw [yA,hf];exact kA)
   obtain ⟨sl,e⟩:=I.base.slot L o ho (I.ok.kL L hL) hL fun z=>I.ok.lU L z hL;exact ⟨hk,⟨L,_,hf,hn,e,hd⟩,ih (fun b hb=>hs b (by unfold cf;rw [yA,hf];exact gT _ hb)) hr⟩
 exact all X.outer (fun _ hb=>hb) I.ok.iT
theorem Inv.stack(I:Inv X pins σ H s):s.heap.FunFrames X.base X.stack:=by
 rcases I.ok.f9 with e | ⟨e,hf⟩;·rw [e];exact I.iT
 ·rw [e]
  obtain ⟨m,hn,_⟩:=I.loc;refine .cons (by rw [I.ok.kind];decide) hf hn ?_ I.iT
  exact Heap.get?_none_of_le (a8 I.ok.gA I.ok.above)
theorem Inv.sv(I:Inv X pins σ H s):∀b∈cf X.stack,b∈X.env.locals::X.fs:=fun b hb=>by
 rcases I.ok.f9 with e | ⟨e,hf⟩;·rw [e] at hb;exact gT _ hb
 ·rw [e] at hb
  unfold cf at hb;rw [yA,hf] at hb;exact hb
theorem Inv.sA(I:Inv X pins σ H s):∀b∈cf X.stack,H b=none:=fun b hb=>by
 rcases cM.mp (I.sv b hb) with e | hb;·rw [e];exact I.free
 ·obtain ⟨_,o,ho,_⟩:=I.ok.iT.mem hb
  exact I.base.free b o ho (I.ok.kL b hb) fun z=>I.ok.lU b z hb
variable {g':Array GenState} {t':Nat} {d':Drawn} {ch:List Addr}
theorem Inv.step(I:Inv X pins σ H s)
  (kN:∀b∈ch,(b∈X.ex∨X.s₀.heap.objs.size≤b)∧b≠X.env.locals∧(∀x c,X.env.cells.lookup x=some c→c≠b)∧∀p∈X.pn++pins,p.1≠b)
  (keep:∀b o,b≠X.env.locals→b∉X.fs→b∉ch→s.heap.get? b=some o→H b=none→h'.get? b=some o)
  (slot:∀b o,b≠X.env.locals→b∈X.fs→b∉ch→s.heap.get? b=some o→H b=none→∃sl,h'.get? b=some {o with slots:=sl}) (free:∀b o,b∉ch→s.heap.get? b=some o→H b=none→H' b=none)
  (there:∀b o,b∉ch→s.heap.get? b=some o→∃o',h'.get? b=some o')
  (eL:∀b xs,H b=some (.tup xs)→H' b=some (.tup xs)) (d5:∀b o u,H b=some (.cp o u)→H' b=some (.cp o u)) (eN:∀b ps,H b=some (.kK ps)→∃more,H' b=some (.kK (ps++more)))
  (ns:∀m,s.heap.Ns X.env.locals m→h'.Ns X.env.locals m) (ay:bW X.prog X.w H' h') (hg:AllBare g') :
  Inv X pins σ H' {s with heap:=h',gens:=g',drawn:=d',toks:=t'}:=by
 have Fs:∀b o,X.s₀.heap.get? b=some o→b≠X.env.locals:=fun b o e=>cV (dJ (bL e) I.ok.above);have yZ:∀b o,X.s₀.heap.get? b=some o→b∉X.ex→b∉ch:=fun b o e hx hb=>by
  rcases (kN b hb).1 with z | z;·exact hx z
  ·exact absurd (dJ (bL e) z) (eV _)
 have cellK:∀x c,X.env.cells.lookup x=some c→∀v,s.heap.IsCell c v→h'.IsCell c v:=fun x c e v ⟨o,ho,hd⟩=>by
  have wZ:c∉ch:=fun z=>(kN c z).2.2.1 x c e rfl;by_cases hc:c∈X.fs
  ·obtain ⟨sl,q⟩:=slot c o (I.jI x c e) hc wZ ho (I.gB x c e)
   exact ⟨_,q,hd⟩
  ·exact ⟨o,keep c o (I.jI x c e) hc wZ ho (I.gB x c e),hd⟩
 refine ⟨I.ok,I.os,hg,⟨fun b o e n hb hx=>?_,fun b o e n hb hx=>?_,fun b o e n hx=>?_,fun b o e hx=>?_,fun b xs e=>eL b xs (I.base.eL b xs e),fun b o xs e=>d5 b o xs (I.base.d5 b o xs e),fun b ps e=>?_⟩,?_,fun x c e=>?_,?_,fun x c e=>?_,fun p hp=>?_,ay,I.len⟩;·exact keep b o (Fs b o e) hb (yZ b o e hx) (I.base.keep b o e n hb hx) (I.base.free b o e n hx)
 ·obtain ⟨sl,e1⟩:=I.base.slot b o e n hb hx
  obtain ⟨N7,e2⟩:=slot b _ (Fs b o e) hb (yZ b o e hx) e1 (I.base.free b o e n hx);exact ⟨N7,e2⟩
 ·obtain ⟨o',e1⟩:=I.base.there b o e hx
  exact free b o' (yZ b o e hx) e1 (I.base.free b o e n hx)
 ·obtain ⟨o',e1⟩:=I.base.there b o e hx
  exact there b o' (yZ b o e hx) e1
 ·obtain ⟨m1,e1⟩:=I.base.eN b ps e
  obtain ⟨m2,e2⟩:=eN b _ e1;exact ⟨m1++m2,by rw [e2,Array.append_assoc]⟩
 ·obtain ⟨m,hn,hl⟩:=I.loc
  refine ⟨m,ns m hn,fun i x v e1 e2 e3=>?_⟩;obtain ⟨u,r,l⟩:=hl i x v e1 e2 e3;refine ⟨u,r,?_⟩;rcases l with l | ⟨k,c,e,z⟩;·exact .inl l
  ·exact .inr ⟨k,c,e,cellK x c e _ z⟩
 ·obtain ⟨v,z⟩:=I.cell x c e
  exact ⟨v,cellK x c e v z⟩
 ·obtain ⟨m,⟨o,_,_,ho,_⟩,_⟩:=I.loc
  exact free _ o (fun z=>(kN _ z).2.1 rfl) ho I.free
 ·obtain ⟨v,o,ho,hd⟩:=I.cell x c e
  exact free c o (fun z=>(kN c z).2.2.1 x c e rfl) ho (I.gB x c e)
 ·obtain ⟨e,n,ne,nf,d⟩:=I.pin p hp
  have wZ:p.1∉ch:=fun z=>(kN p.1 z).2.2.2 p hp rfl;exact ⟨keep p.1 p.2 ne nf wZ e n,free p.1 p.2 wZ e n,ne,nf,d⟩
theorem Inv.un(I:Inv X pins σ H s)(u:Un X.fs [] H H' s.heap h')(ay:bW X.prog X.w H' h'):Inv X pins σ H' {s with heap:=h',toks:=t'}:=by
 obtain ⟨m,⟨o,es,ep,ho,r⟩,_⟩:=id I.loc;obtain ⟨sl,hL⟩:=u.any ho I.free (by simp)
 exact I.step (g':=s.gens) (d':=s.drawn) (ch:=[]) (fun _ z=>nomatch z) (fun b o _ hb _ e n=>u.keep b o e n hb (by simp)) (fun b o _ hb _ e n=>u.slot b o e n hb (by simp)) (fun b o _ e n=>u.free b o e n (by simp)) (fun b o _ e=>u.there b o e (by simp)) u.eL u.d5 u.eN (fun m' hm=>by obtain ⟨o',B7,B8,kM,r'⟩:=hm;rw [ho] at kM;cases kM;exact ⟨_,B7,B8,hL,r'⟩) ay I.bare
theorem Inv.call(I:Inv X pins σ H s)(u:Un (cf X.stack) ch H H' s.heap h')(ay:bW X.prog X.w H' h')(hg:AllBare g')
  (kN:∀b∈ch,(b∈X.ex∨X.s₀.heap.objs.size≤b)∧b≠X.env.locals∧(∀x c,X.env.cells.lookup x=some c→c≠b)∧∀p∈X.pn++pins,p.1≠b) :
  Inv X pins σ H' {s with heap:=h',gens:=g',drawn:=d',toks:=t'}:=by
 obtain ⟨m,⟨o,es,ep,ho,r⟩,_⟩:=id I.loc;obtain ⟨sl,hL⟩:=u.any ho I.free fun z=>(kN _ z).2.1 rfl;exact I.step (ch:=ch) kN (fun b o hL hb hc e n=>u.keep b o e n (fun z=>(cM.mp (I.sv b z)).elim hL hb) hc) (fun b o _ _ hc e n=>u.any e n hc) (fun b o hc e n=>u.free b o e n hc) (fun b o hc e=>u.there b o e hc) u.eL u.d5 u.eN (fun m' hm=>by obtain ⟨o',B7,B8,kM,r'⟩:=hm;rw [ho] at kM;cases kM;exact ⟨_,B7,B8,hL,r'⟩) ay hg
theorem Inv.turned{it:Addr}(I:Inv X pins σ H s)(k:∀b o,b≠it→s.heap.get? b=some o→h'.get? b=some o)(hn:H it=none)(hL:it≠X.env.locals)
  (h1:it∈X.ex∨X.s₀.heap.objs.size≤it) (h2:∀x c,X.env.cells.lookup x=some c→c≠it) (h3:∀p∈X.pn++pins,p.1≠it):Inv X pins σ H {s with heap:=h',toks:=t'}:=by
 have Fu:∀b u,H b=some u→b≠it:=fun b u e z=>by rw [z,hn] at e;cases e
 refine I.step (g':=s.gens) (d':=s.drawn) (ch:=[it]) (fun b hb=>?_) (fun b o _ _ hc e _=>k b o (fun z=>hc (by simp [z])) e) (fun b o _ _ hc e _=>⟨o.slots,k b o (fun z=>hc (by simp [z])) e⟩) (fun _ _ _ _ n=>n)
  (fun b o hc e=>⟨o,k b o (fun z=>hc (by simp [z])) e⟩) (fun _ _ e=>e) (fun _ _ _ e=>e) (fun b ps e=>⟨#[],by rw [e];simp⟩) (fun m hm=>?_) (fun b u e=>?_) I.bare
 ·have e:b=it:=by simpa using hb
  subst e;exact ⟨h1,hL,h2,h3⟩
 ·obtain ⟨o,es,ep,ho,r⟩:=hm
  exact ⟨o,es,ep,k _ o (Ne.symm hL) ho,r⟩
 ·refine (I.ay b u e).iz (fun c v hc q=>k c v ?_ q) (fun _ q=>q) fun _ _ q=>q
  rcases hc with z | z;·rw [z];exact Fu b u e
  ·exact Fu c _ z
theorem Inv.tok(I:Inv X pins σ H s)(t:Nat):Inv X pins σ H {s with toks:=t}:=I.un (h':=s.heap) (t':=t) Un.refl I.ay
theorem Inv.kept(I:Inv X pins σ H s)(k:∀b u,s.heap.get? b=some u→h'.get? b=some u):Inv X pins σ H {s with heap:=h',toks:=t'}:=I.un (Un.kept k) (I.ay.kept k)
theorem Inv.laid(I:Inv X pins σ H s)(k:∀b u,s.heap.get? b=some u→h'.get? b=some u)(hp:s.heap.objs.size≤a)(new:cy X.prog X.w (upd H a o) h' a o) :
  Inv X pins σ (upd H a o) {s with heap:=h',toks:=t'}:=I.un (Un.laid k hp (I.ay.fresh hp)) (I.ay.laid k hp new)
theorem Inv.write{x e:Addr}(I:Inv X pins σ H s)(mu:wY (H x))(he:e=x∨H e=some (.own x))(k:∀b u,b≠e→s.heap.get? b=some u→h'.get? b=some u)(sq:∃u,h'.get? e=some u)
  (new:cy X.prog X.w (upd H x o) h' x o):Inv X pins σ (upd H x o) {s with heap:=h',toks:=t'}:=I.un (Un.write mu he k sq) (I.ay.write mu he k sq new)
theorem Inv.FC{FK:aU}(I:Inv X pins σ H s)(h:∀p∈FK,s.heap.get? p.1=some p.2∧H p.1=none∧p.1≠X.env.locals∧p.1∉X.fs∧∀v,p.2.data≠.cell v):Inv X FK σ H s:=
 ⟨I.ok,I.os,I.bare,I.base,I.loc,I.cell,I.free,I.gB,fun p hp=>(jB.mp hp).elim (fun z=>I.pin p (yB _ z)) (h p),I.ay,I.len⟩
variable {i:Nat} {x:Str}
theorem B9{N:List Str}(hN:N.Nodup){j:Nat}(a:N[i]?=some x)(b:N[j]?=some x):i=j:=by obtain ⟨h1,e1⟩:=bV.mp a;obtain ⟨h2,e2⟩:=bV.mp b;exact (List.getElem_inj hN).mp (e1.trans e2.symm)
variable {M:Model} {A:Around} {E:aR} {v:V} {u:Value} {Q:Unit→Shared→Prop}
theorem B_(I:Inv X pins σ H s)(hN:X.N.Nodup)(hi:X.N[i]?=some x)(hx:Loc X.env.scope x)(r:RelV v u)
  (h:∀s',Inv X pins (σ.set i (some v)) H s'→(∃a,Heap.SameBut a s.heap s'.heap∧(a=X.env.locals∨X.env.cells.lookup x=some a))→Q () s') (hf:X.fn x=true∨X.env.scope.names.lookup x=some .local:=by first | exact .inl rfl | exact .inr rfl | assumption):wpAny M A (storeName X.env x u) Q E s:=by
 obtain ⟨m,hn,hl⟩:=id I.loc;have Ca:(X.env.scope.kind == .class || (X.env.scope.kind == .module && X.env.locals != X.env.globals))=false:=by rw [I.ok.kind];rfl
 have y2:i<σ.length:=by rw [I.len];exact (bV.mp hi).1
 have jI:=I.jI;have tracked:∀{a:Addr} {h':Heap},(∃o,s.heap.get? a=some o∧H a=none)→Heap.SameBut a s.heap h'→bW X.prog X.w H h':=fun{a h'} ha hs b ob e=>by
  obtain ⟨_,_,FR⟩:=ha;refine (I.ay b ob e).iz (fun c w' hc q=>(hs.2 c ?_).trans q) (fun _ q=>q) fun _ _ q=>q;rintro rfl;rcases hc with rfl | hc;·rw [FR] at e;cases e
  ·rw [FR] at hc;cases hc
 rcases hx with hk | hk
 ·refine wpAny_storeName_local hk hn (fun h' Cb hs=>?_) Ca
  obtain ⟨oL,_,_,N8,_⟩:=id hn;refine h _ ⟨I.ok,I.os,I.bare,⟨fun b o e n hb hx=>?_,fun b o e n hb hx=>?_,I.base.free,fun b o e hx=>?_,I.base.eL,I.base.d5,I.base.eN⟩,⟨_,Cb,fun j y v' e1 e2 e3=>?_⟩,fun y c e=>?_,I.free,I.gB,fun p hp=>?_,tracked ⟨oL,N8,I.free⟩ hs,by simpa using I.len⟩ ⟨_,hs,.inl rfl⟩
  ·exact (hs.2 b (cV (dJ (bL e) I.ok.above))).trans (I.base.keep b o e n hb hx)
  ·obtain ⟨sl,e1⟩:=I.base.slot b o e n hb hx
   exact ⟨sl,(hs.2 b (cV (dJ (bL e) I.ok.above))).trans e1⟩
  ·obtain ⟨o',e1⟩:=I.base.there b o e hx
   exact ⟨o',(hs.2 b (cV (dJ (bL e) I.ok.above))).trans e1⟩
  ·by_cases hj:j=i
   ·subst hj
    rw [hi] at e1;cases e1;rw [BU y2] at e2;cases e2;exact ⟨u,r,.inl ⟨hk,by simp⟩⟩
   ·rw [List.getElem?_set_ne (Ne.symm hj)] at e2
    obtain ⟨u',r',q⟩:=hl j y v' e1 e2 e3;refine ⟨u',r',?_⟩;rcases q with ⟨k,e⟩ | ⟨k,c,e,z⟩
    ·refine .inl ⟨k,?_⟩
     have:y≠x:=fun e=>hj (B9 hN e1 (e▸hi));simp [this,e]
    ·exact .inr ⟨k,c,e,z.sameBut hs (jI y c e)⟩
  ·obtain ⟨w',z⟩:=I.cell y c e
   exact ⟨w',z.sameBut hs (jI y c e)⟩
  ·obtain ⟨e,n,ne,nf,d⟩:=I.pin p hp
   exact ⟨(hs.2 p.1 ne).trans e,n,ne,nf,d⟩
 ·have Cc:X.fn x=true:=by
   rcases hf with z | z;·exact z
   ·rw [z] at hk;cases hk
  obtain ⟨c,hc⟩:=I.ok.has x (.inl hk);obtain ⟨w',z⟩:=I.cell x c hc;refine wpAny_storeName_cell I.ok.kind hk hc z (fun h' fm hs=>?_);obtain ⟨oc,FV,N9⟩:=id z;refine h {s with heap:=h'} ⟨I.ok,I.os,I.bare,⟨fun b o e n hb hx=>?_,fun b o e n hb hx=>?_,I.base.free,fun b o e hx=>?_,I.base.eL,I.base.d5,I.base.eN⟩,⟨m,hn.sameBut hs (Ne.symm (jI x c hc)),fun j y v' e1 e2 e3=>?_⟩,fun y c' e=>?_,I.free,I.gB,fun p hp=>?_,tracked ⟨oc,FV,I.gB x c hc⟩ hs,by simpa using I.len⟩ ⟨c,hs,.inr hc⟩
  ·exact (hs.2 b (cV (dJ (bL e) (I.ok.su x c Cc hc)))).trans (I.base.keep b o e n hb hx)
  ·obtain ⟨sl,e1⟩:=I.base.slot b o e n hb hx
   exact ⟨sl,(hs.2 b (cV (dJ (bL e) (I.ok.su x c Cc hc)))).trans e1⟩
  ·obtain ⟨o',e1⟩:=I.base.there b o e hx
   exact ⟨o',(hs.2 b (cV (dJ (bL e) (I.ok.su x c Cc hc)))).trans e1⟩
  ·by_cases hj:j=i
   ·subst hj
    rw [hi] at e1;cases e1;rw [BU y2] at e2;cases e2;exact ⟨u,r,.inr ⟨.inl hk,c,hc,fm⟩⟩
   ·rw [List.getElem?_set_ne (Ne.symm hj)] at e2
    obtain ⟨u',r',q⟩:=hl j y v' e1 e2 e3;refine ⟨u',r',?_⟩;rcases q with q | ⟨k,c',e,z'⟩;·exact .inl q
    ·refine .inr ⟨k,c',e,z'.sameBut hs ?_⟩
     rintro rfl;exact hj (B9 hN e1 (I.ok.inj _ _ _ e hc▸hi))
  ·by_cases FX:c'=c
   ·subst FX;exact ⟨_,fm⟩
   ·obtain ⟨w2,z2⟩:=I.cell y c' e
    exact ⟨w2,z2.sameBut hs FX⟩
  ·obtain ⟨e,n,ne,nf,d⟩:=I.pin p hp
   refine ⟨(hs.2 p.1 ?_).trans e,n,ne,nf,d⟩;intro q;rw [q,FV] at e;have q':oc=p.2:=Option.some.inj e;exact d w' (by rw [←q'];exact N9)
theorem sC(I:Inv X pins σ H s)(hN:X.N.Nodup)(hi:X.N[i]?=some x)(hx:Loc X.env.scope x)(r:RelV v u)
  (h:∀s',Inv X pins (σ.set i (some v)) H s'→Q () s') (hf:X.fn x=true∨X.env.scope.names.lookup x=some .local:=by first | exact .inl rfl | exact .inr rfl | assumption):wpAny M A (storeName X.env x u) Q E s:=
 B_ I hN hi hx r (fun s' I' _=>h s' I') hf
theorem Inv.kP{s':Shared}(I:Inv X pins σ H s)(ho:s'.os=s.os)(u:Un (cf X.stack) ch H H' s.heap s'.heap)(ay:bW X.prog X.w H' s'.heap)(hg:AllBare s'.gens)
  (kN:∀b∈ch,(b∈X.ex∨X.s₀.heap.objs.size≤b)∧b≠X.env.locals∧(∀x c,X.env.cells.lookup x=some c→c≠b)∧∀p∈X.pn++pins,p.1≠b):Inv X pins σ H' s':=by
 obtain ⟨h',g',d',t',o'⟩:=s';have e:o'=s.os:=ho;subst e;exact I.call (g':=g') (t':=t') (d':=d') u ay hg kN
end
abbrev XK:=Value→Option Addr→Hp→Prop
abbrev St:=List (Option V)
abbrev VK:=V→Hp→Prop
abbrev TE:=St→Hp→VK→Prop
abbrev TT:=St→Hp→(Bool→Hp→Prop)→Prop
abbrev TA:=St→Hp→(List V→Hp→Prop)→Prop
structure Ends where
 nx:St→Hp→Prop
 rt:VK
 bk:St→Hp→Prop:=fun _ _=>False
 ct:St→Hp→Prop:=fun _ _=>False
abbrev TS:=Ends→St→Hp→Prop
def EP(X:Cx)(pins:aU)(σ:St)(Q:VK)(u:Value)(s':Shared):Prop:=∃v H',Inv X pins σ H' s'∧RelV v u∧Q v H'
def TP(X:Cx)(pins:aU)(σ:St)(Q:Bool→Hp→Prop)(b:Bool)(s':Shared):Prop:=∃H',Inv X pins σ H' s'∧Q b H'
def AP(X:Cx)(pins:aU)(σ:St)(Q:List V→Hp→Prop)(us:List Value)(s':Shared):Prop:=∃vs H',Inv X pins σ H' s'∧Vals vs us∧Q vs H'
def SP(X:Cx)(pins:aU)(D:Ends)(f:Flow)(s':Shared):Prop:=
 match f with
 | .next=>∃σ' H',Inv X pins σ' H' s'∧D.nx σ' H'
 | .brk=>∃σ' H',Inv X pins σ' H' s'∧D.bk σ' H'
 | .cont=>∃σ' H',Inv X pins σ' H' s'∧D.ct σ' H'
 | .ret u=>∃v σ' H',Inv X pins σ' H' s'∧RelV v u∧D.rt v H'
def PE(X:Cx)(e:Expr)(t:TE):Prop:=
 ∀(pins:aU) (s:Shared) (σ:St) (H:Hp) (Q:VK),Inv X pins σ H s→t σ H Q→wpAny (model X.prog X.w) X.A (eval e X.env) (EP X pins σ Q) X.xe s
def PT(X:Cx)(e:Expr)(t:TT):Prop:=
 ∀(pins:aU) (s:Shared) (σ:St) (H:Hp) (Q:Bool→Hp→Prop),Inv X pins σ H s→t σ H Q→wpAny (model X.prog X.w) X.A (isTrue e X.env (eval e X.env)) (TP X pins σ Q) X.xe s
def PW(X:Cx)(e:Expr)(t:TT):Prop:=
 ∀(whole:Sem Value) (pins:aU) (s:Shared) (σ:St) (H:Hp) (Q:Bool→Hp→Prop),Inv X pins σ H s→t σ H Q→wpAny (model X.prog X.w) X.A (isTrue e X.env whole) (TP X pins σ Q) X.xe s
variable {X:Cx}
theorem PW.pt{e:Expr}{t:TT}(h:PW X e t):PT X e t:=h _
def PA(X:Cx)(es:List Expr)(t:TA):Prop:=
 ∀(pos:Pos) (pins:aU) (s:Shared) (σ:St) (H:Hp) (Q:List V→Hp→Prop),Inv X pins σ H s→t σ H Q→wpAny (model X.prog X.w) X.A (spliced (backTo pos (starEach es X.env))) (AP X pins σ Q) X.xe s
def PS(X:Cx)(st:Stmt)(t:TS):Prop:=
 ∀(pins:aU) (s:Shared) (σ:St) (H:Hp) (D:Ends),Inv X pins σ H s→t D σ H→wpAny (model X.prog X.w) X.A (exec st X.env) (SP X pins D) X.xe s
def dN(X:Cx)(st:List Stmt)(t:TS):Prop:=
 ∀(pins:aU) (s:Shared) (σ:St) (H:Hp) (D:Ends),Inv X pins σ H s→t D σ H→wpAny (model X.prog X.w) X.A (execs st X.env) (SP X pins D) X.xe s
variable {M:Model} {A:Around} {E:aR} {s:Shared}
theorem aK{α:Type}{t:Sem α}{Q Q':α→Shared→Prop}(h:wpAny M A t Q E s)(hQ:∀a s,Q a s→Q' a s):wpAny M A t Q' E s:=bM h hQ fun _ _ x=>x
section
variable {X:Cx}
variable {pins:aU} {σ:St}
theorem bin{a b:Expr}{ta tb:TE}(ha:PE X a ta)(hb:PE X b tb){R:V→V→Hp→Prop}(I:Inv X pins σ H s)(h:ta σ H fun x H1=>tb σ H1 fun y H2=>R x y H2)
  {α:Type} {Q:α→Shared→Prop} {f:Value→Value→Sem α}
  (hf:∀v u s2 x y H2,Inv X pins σ H2 s2→RelV x v→RelV y u→R x y H2→wpAny (model X.prog X.w) X.A (f v u) Q X.xe s2) :
  wpAny (model X.prog X.w) X.A (eval a X.env) (fun v s₁=>wpAny (model X.prog X.w) X.A (eval b X.env) (fun u s₂=>wpAny (model X.prog X.w) X.A (f v u) Q X.xe s₂) X.xe s₁) X.xe s:=by
 refine aK (ha pins s σ H _ I h) fun v s1 ⟨x,H1,I1,r1,q1⟩=>?_;refine aK (hb pins s1 σ H1 _ I1 q1) fun u s2 ⟨y,H2,I2,r2,q2⟩=>?_;exact hf v u s2 x y H2 I2 r1 r2 q2
def jJ(i:Nat):TE:=fun σ H Q=>∃v,σ[i]?=some (some v)∧Q v H
def tC(v:V):TE:=fun _ H Q=>Q v H
variable {x:Str} {pos:Pos}
theorem N_{i:Nat}(hN:X.N[i]?=some x)(hv:mT X.env.scope x)(hd:(x == ("__debug__":Str))=false:=by decide)(fq:(x == ("__classdict__":Str))=false:=by decide):PE X (.Name x pos) (jJ i):=by
 intro pins s σ H Q I h;obtain ⟨v,e,h⟩:=h;obtain ⟨m,hn,hl⟩:=I.loc;obtain ⟨u,r,l⟩:=hl i x v hN e hv;have fin:EP X pins σ Q u s:=⟨v,H,I,r,h⟩;rcases l with ⟨hk,hm⟩ | ⟨hk,c,hc,y4⟩;·exact wpAny_Name (wpAny_loadName_local I.ok.kind hk hn hm fin) hd
 ·rcases hk with hk | hk
  ·exact wpAny_Name (wpAny_loadName_cell I.ok.kind hk hc y4 fin) hd
  ·exact wpAny_Name (wpAny_loadName_free I.ok.kind hk hc y4 fin fq) hd
theorem ag{i j pos}:PE X (.Constant (.int i) j pos) (tC (.int i)):=fun _ _ _ H _ I h=>wpAny_Constant_int ⟨.int i,H,I.tok _,⟨_,rfl⟩,h⟩
theorem iU{b j pos}:PE X (.Constant (.bool b) j pos) (tC (.bl b)):=fun _ _ _ H _ I h=>Constant_bool ⟨.bl b,H,I,rfl,h⟩
theorem jK{j pos}:PE X (.Constant .none j pos) (tC .aF):=fun _ _ _ H _ I h=>Constant_none ⟨.aF,H,I,rfl,h⟩
theorem cz{x j pos}:PE X (.Constant (.str x) j pos) (tC (.str x)):=fun _ _ _ H _ I h=>Calls.Constant_str ⟨.str x,H,I.tok _,⟨_,rfl⟩,h⟩
def Gl(X:Cx)(x:Str):Prop:=X.env.kindOf x=some .globalImplicit
variable {u:Value} {Q:aR}
theorem sD(I:Inv X pins σ H s)(hg:Gl X x)(hm:X.mg x=some u)(h:Q u s)
  (hd:(x == ("__debug__":Str))=false:=by decide):wpAny (model X.prog X.w) X.A (eval (.Name x pos) X.env) Q E s:=
 Calls.Name_function_global I.ok.kind hg (Calls.loadGlobal_global (by rw [I.ok.glob];exact I.mod.glob.keeps I.bk) hm h) hd
theorem mU(I:Inv X pins σ H s)(hg:Gl X x)(hm:X.mg x=none)(hv:bootBuiltins x=some u)(h:Q u s)
  (hn:x ≠ "__name__":=by decide) (hd:(x == ("__debug__":Str))=false:=by decide):wpAny (model X.prog X.w) X.A (eval (.Name x pos) X.env) Q E s:=by
 obtain ⟨mb,h1,h2⟩:=I.mod.blt;exact Calls.Name_function_global I.ok.kind hg (Calls.loadGlobal_builtin (by rw [I.ok.glob];exact I.mod.glob.keeps I.bk) hm (by rw [I.ok.blt];exact h1.keeps I.bk) ((h2 x hn).trans hv) h) hd
variable {v:V}
theorem kT(hg:Gl X x)(hm:X.mg x=some u)(r:RelV v u)(hd:(x == ("__debug__":Str))=false:=by decide):PE X (.Name x pos) (tC v):=
 fun _ _ _ H _ I h=>sD I hg hm ⟨v,H,I,r,h⟩ hd
theorem sE(hg:Gl X x)(hm:X.mg x=none)(hv:bootBuiltins x=some u)(r:RelV v u)(hn:x ≠ "__name__":=by decide)(hd:(x == ("__debug__":Str))=false:=by decide):PE X (.Name x pos) (tC v):=
 fun _ _ _ H _ I h=>mU I hg hm hv ⟨v,H,I,r,h⟩ hn hd
variable {a b:Expr} {ta tb:TE} {pos:Pos}
def PC(X:Cx)(op:CmpOp)(a b:Expr)(t:TE):Prop:=
 ∀(pins:aU) (s:Shared) (σ:St) (H:Hp) (Q:VK),Inv X pins σ H s→t σ H Q→
  wpAny (model X.prog X.w) X.A (eval a X.env) (fun v s₁=>wpAny (model X.prog X.w) X.A (eval b X.env) (fun u s₂=>wpAny (model X.prog X.w) X.A (compareOp op v u) (EP X pins σ Q) X.xe s₂) X.xe s₁) X.xe s
def tB(t:TE):TT:=fun σ H Q=>t σ H fun x H1=>∃c,x=.bl c∧Q c H1
variable {t:TE}
theorem aca{op:CmpOp}(h:PC X op a b t)(h1:behindInMarks op b=false:=by first | exact acb _ (by decide) (by decide) | rfl):PT X (.Compare a [op] [b] pos) (tB t):=by intro pins s σ H Q I hw;refine wpAny_isTrue_Compare1 (aK (h pins s σ H _ I hw) fun v s1 h1=>aK h1 fun u s2 h2=>aK h2 fun c s3 ⟨x,H1,I1,r1,q1⟩=>?_) h1;obtain ⟨d,rfl,q⟩:=q1;cases r1;exact mG ⟨H1,I1,q⟩
theorem mV{e:Expr}(h:PE X e t)(he:∀whole,isTrue e X.env whole=(do let v ←whole;standAt e.pos;holding [v] (truthy v)):=by intro _;rfl):PT X e (tB t):=by
 intro pins s σ H Q I hw
 refine isTrue_plain (aK (h pins s σ H _ I hw) fun v s1 ⟨x,H1,I1,r1,q1⟩=>?_) (he _)
 obtain ⟨d,rfl,q⟩:=q1
 cases r1
 exact mG ⟨H1,I1,q⟩
variable {tA w5:TT} {rest:List Expr}
def Oa(t u:TT):TT:=fun σ H Q=>t σ H fun c H1=>if c=true then u σ H1 Q else Q false H1
def Ob(t u:TT):TT:=fun σ H Q=>t σ H fun c H1=>if c=true then Q true H1 else u σ H1 Q
def GY(t:TT):TT:=fun σ H Q=>t σ H fun c H1=>Q (!c) H1
theorem pw_and1(ha:PT X a tA):PW X (.BoolOp .And [a] pos) tA:=by
 intro wh pins s σ H Q I h;refine isTrue_and (aK (ha pins s σ H Q I h) fun c s1 e=>?_);cases c with
 | true=>exact isTrue_and_nil e
 | false=>exact e
theorem pw_or1(ha:PT X a tA):PW X (.BoolOp .Or [a] pos) tA:=by
 intro wh pins s σ H Q I h;refine isTrue_or (aK (ha pins s σ H Q I h) fun c s1 e=>?_);cases c with
 | false=>exact isTrue_or_nil e
 | true=>exact e
theorem pw_and(ha:PT X a tA)(hb:PW X (.BoolOp .And (b::rest) pos) w5):PW X (.BoolOp .And (a::b::rest) pos) (Oa tA w5):=by
 intro wh pins s σ H Q I h;refine isTrue_and (aK (ha pins s σ H _ I h) fun c s1 ⟨H1,I1,q1⟩=>?_);cases c with
 | true=>exact hb wh pins s1 σ H1 Q I1 q1
 | false=>exact ⟨H1,I1,q1⟩
theorem pw_or(ha:PT X a tA)(hb:PW X (.BoolOp .Or (b::rest) pos) w5):PW X (.BoolOp .Or (a::b::rest) pos) (Ob tA w5):=by
 intro wh pins s σ H Q I h;refine isTrue_or (aK (ha pins s σ H _ I h) fun c s1 ⟨H1,I1,q1⟩=>?_);cases c with
 | true=>exact ⟨H1,I1,q1⟩
 | false=>exact hb wh pins s1 σ H1 Q I1 q1
theorem w9(ha:PT X a tA):PT X (.UnaryOp .Not a pos) (GY tA):=by intro pins s σ H Q I h;exact isTrue_not (ha pins s σ H (fun c H1=>Q (!c) H1) I h)
def Oc(ta tb:TE):TE:=fun σ H Q=>ta σ H fun x H1=>∃c,x=.bl c∧if c=true then tb σ H1 Q else Q (.bl false) H1
def Od(ta:TE):TE:=fun σ H Q=>ta σ H fun x H1=>∃c,x=.bl c∧Q (.bl (!c)) H1
theorem Cd{op}(h:PE X a t):PE X (.BoolOp op [a] pos) t:=fun pins s σ H Q I hw=>BoolOp_one (h pins s σ H Q I hw)
theorem w_(ha:PE X a ta)(hb:PE X (.BoolOp .And (b::rest) pos) tb):PE X (.BoolOp .And (a::b::rest) pos) (Oc ta tb):=by
 intro pins s σ H Q I h;refine BoolOp_and (aK (ha pins s σ H _ I h) fun v s1 ⟨x,H1,I1,r1,q1⟩=>?_);obtain ⟨c,rfl,q1⟩:=q1;cases r1;refine mG ?_;cases c with
 | true=>exact hb pins s1 σ H1 Q I1 q1
 | false=>exact ⟨.bl false,H1,I1,rfl,q1⟩
theorem Oe(ha:PE X a ta):PE X (.UnaryOp .Not a pos) (Od ta):=by intro pins s σ H Q I h;refine UnaryOp_ (aK (ha pins s σ H _ I h) fun v s1 ⟨x,H1,I1,r1,q1⟩=>?_);obtain ⟨c,rfl,q1⟩:=q1;cases r1;exact not_of (mG ⟨.bl (!c),H1,I1,rfl,q1⟩)
def Of(t:TT)(ta tb:TE):TE:=fun σ H Q=>t σ H fun c H1=>if c=true then ta σ H1 Q else tb σ H1 Q
theorem GZ{c:Expr}(hc:PT X c tA)(ha:PE X a ta)(hb:PE X b tb):PE X (.IfExp c a b pos) (Of tA ta tb):=by
 intro pins s σ H Q I h;refine wpAny_IfExp (aK (hc pins s σ H _ I h) fun d s1 ⟨H1,I1,q1⟩=>?_);cases d with
 | true=>exact ha pins s1 σ H1 Q I1 q1
 | false=>exact hb pins s1 σ H1 Q I1 q1
end
def bO(K:aD)(H:Hp)(a:Addr)(xs:List V):Prop:=
 Rd H a (.lst xs) ∨
  ∃(o:Obj) (ah:Array Value) (n:Nat),K.lookup a=some o∧o.cls=.type "list"∧o.dict=none∧o.data=.seq ah n∧ah.size≤sizeLine∧Vals xs ah.toList
def d8(K:aD)(H:Hp)(a:Addr)(xs:List V):Prop:=
 Rd H a (.tup xs) ∨
  ∃(o:Obj) (ah:Array Value) (n:Nat),K.lookup a=some o∧o.cls=.type "tuple"∧o.data=.seq ah n∧ah.size≤sizeLine∧Vals xs ah.toList
def Og:Value→Option V
 | .none=>some .aF
 | .bool b=>some (.bl b)
 | .int i _=>some (.int i)
 | .str x _=>some (.str x)
 | .bytes b _=>some (.jh b)
 | .float b _=>some (.oR b)
 | .ref a=>some (.ref a)
 | .type n=>some (.ty n)
 | _=>none
variable {x:V} {u:Value}
theorem RelV.abs(r:RelV x u):Og u=some x:=by
 cases x with
 | aF=>cases r;rfl
 | bl _=>cases r;rfl
 | int _=>obtain ⟨t,rfl⟩:=r;rfl
 | str _=>obtain ⟨t,rfl⟩:=r;rfl
 | jh _=>obtain ⟨t,rfl⟩:=r;rfl
 | oR _=>obtain ⟨t,rfl⟩:=r;rfl
 | ref _=>cases r;rfl
 | ty _=>cases r;rfl
theorem RelV.inj{y:V}(r:RelV x u)(q:RelV y u):x=y:=Option.some.inj (r.abs.symm.trans q.abs)
theorem Vals.inj:∀{xs ys:List V} {us:List Value},Vals xs us→Vals ys us→xs=ys
 | _,_,_,.nil,.nil=>rfl
 | _,_,_,.cons r t,.cons r' t'=>by rw [r.inj r',Vals.inj t t']
section
variable {X:Cx} {pins:aU} {σ:St} {H:Hp} {s:Shared} {a:Addr} {xs ys:List V}
variable {K:aD}
theorem bO.of(h:H a=some (.lst xs)):bO K H a xs:=.inl (.inl h)
theorem d8.of(h:H a=some (.tup xs)):d8 K H a xs:=.inl (.inl h)
theorem Inv.list(I:Inv X pins σ H s)(h:bO X.K H a xs):∃ah:List Value,Vals xs ah∧PlainL s.heap a ah.toArray∧xs.length≤sizeLine:=by
 rcases h with h | ⟨o,ah,n,hk,hc,hd,hs,hz,r⟩
 ·obtain ⟨z,ah,n,r,e⟩:=h.ok I.ay
  exact ⟨ah,r,⟨_,n,e,rfl,rfl,rfl⟩,z⟩
 ·refine ⟨ah.toList,r,⟨o,n,I.cS a o hk,hc,hd,by simpa using hs⟩,?_⟩
  have e:=r.length;simp only [Array.length_toList] at e;lia
theorem Inv.tuple(I:Inv X pins σ H s)(h:d8 X.K H a xs):∃ah:List Value,Vals xs ah∧IsTup s.heap a ah.toArray∧xs.length≤sizeLine:=by
 rcases h with h | ⟨o,ah,n,hk,hc,hs,hz,r⟩
 ·obtain ⟨z,ah,r,p⟩:=h.ok I.ay
  exact ⟨ah,r,p,z⟩
 ·refine ⟨ah.toList,r,⟨o,I.cS a o hk,hc,n,by simpa using hs⟩,?_⟩
  have e:=r.length;simp only [Array.length_toList] at e;lia
theorem Inv.Ce(I:Inv X pins σ H s)(h:bO X.K H a xs)(h':bO X.K H a ys):xs=ys:=by
 obtain ⟨ah,r,⟨o,n,e,_,_,d⟩,_⟩:=I.list h;obtain ⟨its',r',⟨o',n',e',_,_,d'⟩,_⟩:=I.list h';rw [e] at e';cases e';rw [d] at d';injection d' with d1 _;have:ah=its':=by simpa using gU Array.toList d1
 subst this;exact r.inj r'
theorem Inv.Oh(I:Inv X pins σ H s)(h:d8 X.K H a xs)(h':d8 X.K H a ys):xs=ys:=by
 obtain ⟨ah,r,⟨o,e,_,n,d⟩,_⟩:=I.tuple h;obtain ⟨its',r',⟨o',e',_,n',d'⟩,_⟩:=I.tuple h';rw [e] at e';cases e';rw [d] at d';injection d' with d1 _;have:ah=its':=by simpa using gU Array.toList d1
 subst this;exact r.inj r'
end
abbrev Cx.ji (X:Cx) (E:aR):Cx:={X with xe:=E}
abbrev Cx.jj (X:Cx):Cx:=X.ji fun _ _=>False
theorem Cx.Ok.ji(ok:X.Ok)(E:aR):(X.ji E).Ok:=
 ⟨ok.mod,ok.kind,ok.glob,ok.blt,ok.above,ok.inj,ok.has,ok.su,ok.hd,ok.frames,ok.f9,ok.B5,ok.bs,ok.gA,ok.lS,ok.lU,ok.iT,ok.kL⟩
theorem Cx.Ok.kU(ok:(X.ji E).Ok):X.Ok:=
 ⟨ok.mod,ok.kind,ok.glob,ok.blt,ok.above,ok.inj,ok.has,ok.su,ok.hd,ok.frames,ok.f9,ok.B5,ok.bs,ok.gA,ok.lS,ok.lU,ok.iT,ok.kL⟩
section
variable {X:Cx} {pins:aU} {σ:St} {H:Hp} {s:Shared} {E:aR}
theorem Inv.ji(I:Inv X pins σ H s)(E:aR):Inv (X.ji E) pins σ H s:=⟨I.ok.ji E,I.os,I.bare,I.base,I.loc,I.cell,I.free,I.gB,I.pin,I.ay,I.len⟩
theorem Inv.kU(I:Inv (X.ji E) pins σ H s):Inv X pins σ H s:=⟨I.ok.kU,I.os,I.bare,I.base,I.loc,I.cell,I.free,I.gB,I.pin,I.ay,I.len⟩
theorem SP.kU{D:Ends}{f:Flow}{s':Shared}(h:SP (X.ji E) pins D f s'):SP X pins D f s':=by
 cases f with
 | next=>obtain ⟨σ',H',I,q⟩:=h;exact ⟨σ',H',I.kU,q⟩
 | brk=>obtain ⟨σ',H',I,q⟩:=h;exact ⟨σ',H',I.kU,q⟩
 | cont=>obtain ⟨σ',H',I,q⟩:=h;exact ⟨σ',H',I.kU,q⟩
 | ret u=>obtain ⟨v,σ',H',I,r,q⟩:=h;exact ⟨v,σ',H',I.kU,r,q⟩
theorem dN.jj{st:List Stmt}{t:TS}(h:dN X.jj st t):dN X st t:=fun pins s σ H D I hw=>bM (h pins s σ H D (I.ji _) hw) (fun _ _ q=>q.kU) fun _ _ z=>False.elim z
end
section
variable {X:Cx} {st:Stmt} {rest:List Stmt} {t u:TS} {e:Expr} {te:TE} {pos:Pos}
def Cf:TS:=fun D σ H=>D.nx σ H
def Ci(t u:TS):TS:=fun D σ H=>t {D with nx:=u D} σ H
theorem bZ:dN X [] Cf:=fun _ _ σ H _ I h=>oB ⟨σ,H,I,h⟩
theorem aj(h1:PS X st t)(h2:dN X rest u):dN X (st::rest) (Ci t u):=by
 intro pins s σ H D I h;refine yC (aK (h1 pins s σ H {D with nx:=u D} I h) fun f s1 q=>?_);cases f with
 | next=>obtain ⟨σ',H',I',q⟩:=q;exact h2 pins s1 σ' H' D I' q
 | ret v=>exact q
 | brk=>exact q
 | cont=>exact q
theorem ar(h1:PS X st t):dN X [st] t:=by
 intro pins s σ H D I h;refine yC (aK (h1 pins s σ H D I h) fun f s1 q=>?_);cases f with
 | next=>exact oB q
 | ret v=>exact q
 | brk=>exact q
 | cont=>exact q
theorem Inv.quiet{pins:aU}{σ:St}(I:Inv X pins σ H s):interactive X.env=false:=by simp [interactive,I.ok.kind]
def Oi(te:TE):TS:=fun D σ H=>te σ H fun _ H1=>D.nx σ H1
theorem oU(he:PE X e te)(hs:swapsWith e none pos.line X.env=pure false:=by rfl):PS X (.Expr e pos) (Oi te):=by intro pins s σ H D I h;exact wpAny_Expr_any (aK (he pins s σ H _ I h) fun v s1 ⟨x,H1,I1,r1,q1⟩=>⟨σ,H1,I1,q1⟩) I.quiet hs
def G0(te:TE):TS:=fun D σ H=>te σ H D.rt
theorem aT(he:PE X e te):PS X (.Return (some e) pos) (G0 te):=by intro pins s σ H D I h;exact wpAny_Return_some (aK (he pins s σ H _ I h) fun v s1 ⟨x,H1,I1,r1,q1⟩=>⟨x,σ,H1,I1,r1,q1⟩)
def G1(c:TT)(t u:TS):TS:=fun D σ H=>c σ H fun b H1=>if b=true then t D σ H1 else u D σ H1
theorem bT{c:Expr}{a b:List Stmt}{tc:TT}(hc:PT X c tc)(ha:dN X a t)(hb:dN X b u):PS X (.If c a b pos) (G1 tc t u):=by
 intro pins s σ H D I h;refine wpAny_If (aK (hc pins s σ H _ I h) fun d s1 ⟨H1,I1,q1⟩=>?_);cases d with
 | true=>exact ha pins s1 σ H1 D I1 q1
 | false=>exact hb pins s1 σ H1 D I1 q1
def Oj:TS:=fun _ _ _=>False
theorem Ol{Om:List Stmt}:dN X Om Oj:=fun _ _ _ _ _ _ h=>h.elim
end
abbrev TG:=V→St→Hp→(St→Hp→Prop)→Prop
abbrev oV:=List V→St→Hp→(St→Hp→Prop)→Prop
def PG(X:Cx)(target:Expr)(t:TG):Prop:=
 ∀(pins:aU) (s:Shared) (σ:St) (H:Hp) (v:V) (u:Value) (Q:St→Hp→Prop),Inv X pins σ H s→RelV v u→t v σ H Q→
  wpAny (model X.prog X.w) X.A (assign target X.env u) (fun _ s'=>∃σ' H',Inv X pins σ' H' s'∧Q σ' H') X.xe s
def y6(X:Cx)(ts:List Expr)(t:oV):Prop:=
 ∀(pins:aU) (s:Shared) (σ:St) (H:Hp) (vs:List V) (us:List Value) (Q:St→Hp→Prop),Inv X pins σ H s→Vals vs us→t vs σ H Q→
  wpAny (model X.prog X.w) X.A (assignInOrder ((assignEach ts X.env).map (·.2)) us) (fun _ s'=>∃σ' H',Inv X pins σ' H' s'∧Q σ' H') X.xe s
abbrev Cj:=V→V→V→Hp→(Hp→Prop)→Prop
def G2(X:Cx)(t:Cj):Prop:=
 ∀(pins:aU) (s:Shared) (σ:St) (H:Hp) (o i v:V) (ov iv u:Value) (Q:Hp→Prop),Inv X pins σ H s→RelV o ov→RelV i iv→RelV v u→t o i v H Q→
  wpAny (model X.prog X.w) X.A (setItem ov iv u) (fun _ s'=>∃H',Inv X pins σ H' s'∧Q H') X.xe s
abbrev y7:=V→V→Hp→VK→Prop
def G3(X:Cx)(op:Operator)(t:y7):Prop:=
 ∀(pins:aU) (s:Shared) (σ:St) (H:Hp) (x y:V) (v u:Value) (Q:VK),Inv X pins σ H s→RelV x v→RelV y u→t x y H Q→
  wpAny (model X.prog X.w) X.A (inplaceOp op v u) (EP X pins σ Q) X.xe s
section
variable {X:Cx} {pos:Pos}
def cg(i:Nat):TG:=fun v σ H Q=>Q (σ.set i (some v)) H
variable {i:Nat}
theorem cj{x:Str}(hN:X.N.Nodup)(hi:X.N[i]?=some x)(hx:Loc X.env.scope x)(hf:X.fn x=true∨X.env.scope.names.lookup x=some .local:=by first | exact .inl rfl | exact .inr rfl | assumption):PG X (.Name x pos) (cg i):=by intro pins s σ H v u Q I r h;exact wpAny_assign_Name (sC I hN hi hx r (fun s' I'=>⟨_,H,I',h⟩) hf)
def Ck:oV:=fun vs σ H Q=>vs=[]∧Q σ H
def xa(t:TG)(u:oV):oV:=fun vs σ H Q=>∃v r,vs=v::r∧t v σ H fun σ' H'=>u r σ' H' Q
theorem mW:y6 X [] Ck:=by intro pins s σ H vs us Q I r h;obtain ⟨e,h⟩:=h;subst e;cases r;exact assignInOrder_nil ⟨σ,H,I,h⟩
variable {e:Expr} {es:List Expr}
theorem fM{t:TG}{u:oV}(h1:PG X e t)(h2:y6 X es u)
  (hs:(assignEach (e::es) X.env).map (·.2)=assign e X.env::(assignEach es X.env).map (·.2):=by rfl):y6 X (e::es) (xa t u):=by
 intro pins s σ H vs us Q I r h;obtain ⟨v,vr,e1,h⟩:=h;subst e1;cases r with
 | cons r rr=>rw [hs];refine assignInOrder_cons (aK (h1 pins s σ H _ _ _ I r h) fun _ s1 ⟨σ1,H1,I1,q1⟩=>?_);exact h2 pins s1 σ1 H1 _ _ Q I1 rr q1
def Cm(K:aD)(n:Nat)(t:oV):TG:=fun v σ H Q=>∃a xs,v=.ref a∧d8 K H a xs∧xs.length=n∧t xs σ H Q
theorem mX{k:Nat}{t:oV}{n:Nat}(hc:X.calm=true)(h:y6 X es t)
  (hn:(assignEach es X.env).length=n:=by rfl) (Cn:(assignEach es X.env).findIdx? (·.1)=none:=by rfl):PG X (.Tuple es k pos) (Cm X.K n t):=by
 intro pins s σ H v u Q I r hw;obtain ⟨a,xs,e1,hq,hl,hw⟩:=hw;subst e1;cases r;obtain ⟨ah,rv,ht,hz⟩:=I.tuple hq;refine assign_Tuple_tuple (I.ok.hd hc) ht (by simp [hn,←hl,rv.length]) Cn fun h' hx=>?_
 have I1:Inv X pins σ H {s with heap:=h'}:=I.kept (t':=s.toks) fun b o e=>hx b o (cV (bL e)) e;exact h pins _ σ H xs _ Q I1 (by simpa using rv) hw
def Oo(to ti:TE)(t:Cj):TG:=fun v σ H Q=>to σ H fun o H1=>ti σ H1 fun i H2=>t o i v H2 fun H3=>Q σ H3
theorem iA{o i:Expr}{to ti:TE}{t:Cj}(ho:PE X o to)(hi:PE X i ti)(hs:G2 X t)
  (ha:∀v,assign (.Subscript o i pos) X.env v=(do
   let ov ←holding [v] (eval o X.env)
   let iv ←holding [v,ov] (eval i X.env)
   standAt pos
   holding [v,ov,iv] (setItem ov iv v)
   release [v,ov,iv] []):=by intro _;rfl):PG X (.Subscript o i pos) (Oo to ti t):=by
 intro pins s σ H v u Q I r h
 rw [ha]
 refine b9 (wpAny_holding (aK (ho pins s σ H _ I h) fun ov s1 ⟨x,H1,I1,r1,q1⟩=>?_))
 refine b9 (wpAny_holding (aK (hi pins s1 σ H1 _ I1 q1) fun iv s2 ⟨y,H2,I2,r2,q2⟩=>?_))
 refine b9 (wF (b9 (wpAny_holding (aK (hs pins s2 σ H2 x y v ov iv u _ I2 r1 r2 r q2) fun _ s3 ⟨H3,I3,q3⟩=>?_))))
 exact wpAny_release ⟨σ,H3,I3,q3⟩
def mY(te:TE)(g:TG):TS:=fun D σ H=>te σ H fun x H1=>g x σ H1 D.nx
theorem gC{tg e:Expr}{te:TE}{g:TG}(he:PE X e te)(hg:PG X tg g)(hs:swapsWithSole [tg] e pos.line X.env=pure false:=by rfl)(hw:swappedStores [tg] e X.env=pure none:=by rfl)
  (h1:(assignEach [tg] X.env).map (·.2)=[assign tg X.env]:=by rfl):PS X (.Assign [tg] e pos) (mY te g):=by
 intro pins s σ H D I h;refine wpAny_Assign_stores (aK (he pins s σ H _ I h) fun v s1 ⟨x,H1,I1,r1,q1⟩=>?_) hs hw;rw [h1];exact aK (hg pins s1 σ H1 x v _ I1 r1 q1) fun _ s2 q=>q
variable {te:TE} {pos':Pos}
theorem Oq{x:Str}(hN:X.N.Nodup)(hi:X.N[i]?=some x)(hx:Loc X.env.scope x)(he:PE X e te)(hs:swapsWith e (some (.Name x pos')) pos.line X.env=pure false:=by rfl)(hf:X.fn x=true∨X.env.scope.names.lookup x=some .local:=by first | exact .inl rfl | exact .inr rfl | assumption) :
  PS X (.Assign [.Name x pos'] e pos) (mY te (cg i)):=by
 intro pins s σ H D I h;refine wpAny_Assign_Name (aK (he pins s σ H _ I h) fun v s1 ⟨y,H1,I1,r1,q1⟩=>?_) hs;exact sC I1 hN hi hx r1 (fun s2 I2=>⟨_,H1,I2,q1⟩) hf
def Ot(i j:Nat)(ta:TA):TS:=fun D σ H=>ta σ H fun vs H1=>∃v w,vs=[v,w]∧D.nx ((σ.set i (some v)).set j (some w)) H1
theorem y8{j:Nat}{x y:Str}{a b:Expr}{ta:TA}{px py pt:Pos}{kt k2 Co}(hc:X.calm=true)(hN:X.N.Nodup)(hi:X.N[i]?=some x)(hj:X.N[j]?=some y)(y_:i≠j)
  (hx:X.env.scope.names.lookup x=some .local) (hy:X.env.scope.names.lookup y=some .local) (ha:PA X [a,b] ta)
  (hw:swappedStores [.Tuple [.Name x px,.Name y py] kt pt] (.Tuple [a,b] k2 Co) X.env=pure (some [x,y]))
  (hs:swapsWithSole [.Tuple [.Name x px,.Name y py] kt pt] (.Tuple [a,b] k2 Co) pos.line X.env=pure false:=by rfl) :
  PS X (.Assign [.Tuple [.Name x px,.Name y py] kt pt] (.Tuple [a,b] k2 Co) pos) (Ot i j ta):=by
 intro pins s σ H D I h
 rw [exec_Assign_arm]
 refine b9 (wF ?_)
 rw [hs]
 refine b9 (eG ?_)
 rw [ak (by decide)]
 refine b9 (Tuple_ (aK (ha _ pins s σ H _ I h) fun us s1 ⟨vs,H1,I1,r1,q1⟩=>?_))
 obtain ⟨v,w,e1,q1⟩:=q1
 subst e1
 obtain ⟨u1,u2,rfl,rv,dw⟩:∃u1 u2,us=[u1,u2]∧RelV v u1∧RelV w u2:=by
  cases r1 with
  | cons p q=>
   cases q with
   | cons p' q'=>
    cases q'
    exact ⟨_,_,rfl,p,p'⟩
 refine wG ?_ (by show 2≤sizeLine;decide)
 have I2:Inv X pins σ H1 {s1 with heap:=s1.heap.push {cls:=.type "tuple",data:=.seq [u1,u2].toArray}}:=I1.kept (t':=s1.toks) fun b o e=>cu _ e
 rw [hw]
 refine b9 (eG ?_)
 show wpAny (model X.prog X.w) X.A (do rule "assign.swapped-stores";let items ←unpackItems (.ref s1.heap.objs.size) 2 none;assignInOrder [fun v=>bindName X.env y v,fun v=>bindName X.env x v] items.reverse;pure Flow.next) _ _ _
 refine b9 (wpAny_rule (b9 (unpackItems_tuple (items:=#[u1,u2]) (I.ok.hd hc) (IsTup.new s1.heap _) fun h' G4=>?_)))
 have I3:=I2.kept (h':=h') (t':=s1.toks) fun b o e=>G4 b o (cV (bL e)) e
 show wpAny _ _ (assignInOrder [fun v=>bindName X.env y v,fun v=>bindName X.env x v] [u2,u1] >>= fun _=>pure Flow.next) _ _ _
 refine b9 (assignInOrder_cons (wpAny_bindName (sC I3 hN hj (.inl hy) dw (fun s2 I4=>?_) (.inr hy))))
 refine assignInOrder_cons (wpAny_bindName (sC I4 hN hi (.inl hx) rv (fun s3 I5=>assignInOrder_nil (eG ?_)) (.inr hx)))
 rw [List.set_comm _ _ (Ne.symm y_)] at I5
 exact ⟨_,H1,I5,q1⟩
def Ou(i:Nat)(te:TE)(ti:y7):TS:=fun D σ H=>∃x,σ[i]?=some (some x)∧te σ H fun y H1=>ti x y H1 fun z H2=>D.nx (σ.set i (some z)) H2
theorem Ov{x:Str}{op:Operator}{ti:y7}(hN:X.N.Nodup)(hi:X.N[i]?=some x)(hx:Loc X.env.scope x)(he:PE X e te)(ho:G3 X op ti)(hf:X.fn x=true∨X.env.scope.names.lookup x=some .local:=by first | exact .inl rfl | exact .inr rfl | assumption) :
  PS X (.AugAssign (.Name x pos') op e pos) (Ou i te ti):=by
 intro pins s σ H D I h;obtain ⟨v,e1,h⟩:=h;obtain ⟨m,hn,hl⟩:=I.loc;have Ow:mT X.env.scope x:=by rcases hx with k | k;exact .inl k;exact .inr (.inl k)
 obtain ⟨u,r,l⟩:=hl i x v hi e1 Ow;refine wpAny_AugAssign_Name ?_;have go:wpAny (model X.prog X.w) X.A (eval e X.env) (fun w s₂=>wpAny (model X.prog X.w) X.A (inplaceOp op u w) (fun r s₃=>wpAny (model X.prog X.w) X.A (storeName X.env x r) (fun _=>SP X pins D .next) X.xe s₃) X.xe s₂) X.xe s:=by refine aK (he pins s σ H _ I h) fun w s1 ⟨y,H1,I1,r1,q1⟩=>?_;refine aK (ho pins s1 σ H1 v y u w _ I1 r r1 q1) fun z s2 ⟨zv,H2,I2,r2,q2⟩=>?_;exact sC I2 hN hi hx r2 (fun s3 I3=>⟨_,H2,I3,q2⟩) hf
 rcases l with ⟨hk,hm⟩ | ⟨hk,c,hc,y4⟩;·exact wpAny_loadName_local I.ok.kind hk hn hm go
 ·rcases hk with hk | hk
  ·exact wpAny_loadName_cell I.ok.kind hk hc y4 go
  ·rcases hx with k | k
   ·have:X.env.scope.names.lookup x=some .free:=hk
    rw [k] at this;cases this
   ·have:X.env.scope.names.lookup x=some .free:=hk
    rw [k] at this;cases this
def Ox(f:Int→Int→Int):y7:=fun x y H Q=>∃i j,x=.int i∧y=.int j∧Q (.int (f i j)) H
theorem Oy:G3 X .Add (Ox fun i j=>i+j):=by intro pins s σ H x y v u Q I r1 r2 h;obtain ⟨i,j,e1,e2,q⟩:=h;subst e1;subst e2;obtain ⟨t,rfl⟩:=r1;obtain ⟨t',rfl⟩:=r2;exact iadd_int ⟨.int _,H,I.tok _,⟨_,rfl⟩,q⟩
end
section
variable {X:Cx} {pos:Pos}
def Oz(c:TT)(tb:TS):TS:=fun D σ H=>∃W:Nat→St→Hp→Prop,(∃m,W m σ H)∧∀m σ H,W m σ H→
 c σ H fun b H1=>if b=true then ∃N:St→Hp→Prop,(∀σ' H',N σ' H'→∃m',m'<m∧W m' σ' H')∧tb {D with nx:=N,ct:=N,bk:=D.nx} σ H1 else D.nx σ H1
theorem xb{c:Expr}{body:List Stmt}{tc:TT}{tb:TS}(hp:PassesOwn (model X.prog X.w) X.A X.env X.xe)(hc:PT X c tc)(hb:dN X body tb):PS X (.While c body [] pos) (Oz tc tb):=by
 intro pins s σ H D I h;obtain ⟨W,⟨m0,w0⟩,turn⟩:=h;refine wpAny_While (codeAny_whileLoop (fun n s'=>∃σ' H',Inv X pins σ' H' s'∧W n σ' H') ?_ m0 ⟨σ,H,I,w0⟩);rintro n s1 ⟨σ1,H1,I1,w1⟩;refine oC hp (aK (hc pins s1 σ1 H1 _ I1 (turn n σ1 H1 w1)) fun b s2 ⟨H2,I2,q2⟩=>?_);cases b with
 | true=>
  obtain ⟨N,hN,q2⟩:=q2;rw [aq rfl];refine oC hp (aK (hb pins s2 σ1 H2 _ I2 q2) fun f s3 q3=>?_);cases f with
  | next=>obtain ⟨σ3,H3,I3,n3⟩:=q3;obtain ⟨m',hm,w3⟩:=hN σ3 H3 n3;exact ⟨m',hm,σ3,H3,I3,w3⟩
  | cont=>obtain ⟨σ3,H3,I3,n3⟩:=q3;obtain ⟨m',hm,w3⟩:=hN σ3 H3 n3;exact ⟨m',hm,σ3,H3,I3,w3⟩
  | brk=>exact q3
  | ret v=>exact q3
 | false=>rw [ak cW];exact oB ⟨σ1,H2,I2,q2⟩
end
structure It where
 go:Nat→Hp→Prop
 dY:Nat→Hp→V→Hp→Prop
 stop:Nat→Hp→Prop
def kW(X:Cx)(pins:aU)(H:Hp)(b:Addr):Prop:=
 H b=none∧b≠X.env.locals∧b∉X.fs∧(b∈X.ex∨X.s₀.heap.objs.size≤b)∧(∀x c,X.env.cells.lookup x=some c→c≠b)∧∀p∈X.pn++pins,p.1≠b
variable {σ:St}
theorem Inv.oW{pins:aU}{H':Hp}(I:Inv X pins σ H s)(hb:s.heap.objs.size≤b)(hn:H' b=none):kW X pins H' b:=by
 refine ⟨hn,Nat.ne_of_gt (dJ I.lt hb),I.N6 hb,.inr (a8 I.sz hb),fun x c e z=>?_,fun p hp z=>?_⟩
 ·obtain ⟨v,q⟩:=I.cell x c e
  exact absurd (dJ q.lt (by rw [z];exact hb)) (eV _)
 ·exact absurd (dJ (bL (I.pin p hp).1) (by rw [z];exact hb)) (eV _)
structure Turn (P:Program) (w:World) (K:aD) (tg:Expr) (J:It) (fp:List Addr) (it:Addr) (tn:Nat→Heap→Prop):Prop where
 mem:it∈fp
 obj:∀i h,tn i h→∀b∈fp,∃o,h.get? b=some o∧∀v,o.data≠.cell v
 keep:∀i h h',tn i h→(∀b∈fp,∀o,h.get? b=some o→h'.get? b=some o)→tn i h'
 item:∀(X:Cx),X.prog=P→X.w=w→X.K=K→X.calm=true→∀(i:Nat) (pins:aU) (s:Shared) (σ:St) (H:Hp) (E:aR),Inv X pins σ H s→(∀b∈fp,kW X pins H b)→tn i s.heap→J.go i H→
  wpAny (model P w) X.A (pyNext (.ref it)) (fun r s1=>∃u,r=some u ∧
   wpAny (model P w) X.A (letOwnedTupleGo tg (.ref it) u) (fun _ s2=>∃x H',Inv X pins σ H' s2∧RelV x u∧J.dY i H x H'∧tn (i+1) s2.heap∧∀b∈fp,H' b=none) E s1) E s
 done:∀(X:Cx),X.prog=P→X.w=w→X.K=K→X.calm=true→∀(i:Nat) (pins:aU) (s:Shared) (σ:St) (H:Hp) (E:aR),Inv X pins σ H s→(∀b∈fp,kW X pins H b)→tn i s.heap→J.stop i H→
  wpAny (model P w) X.A (pyNext (.ref it)) (fun r s1=>r=none∧Inv X pins σ H s1) E s
 self:∀(A:Around) (i:Nat) (s:Shared) (Q:aR) (E:aR),tn i s.heap→Q (.ref it) s→wpAny (model P w) A (pyIter (.ref it)) Q E s
abbrev TI:=St→Hp→(It→Hp→Prop)→Prop
def za(X:Cx)(pins:aU)(σ:St)(tg:Expr)(R:It→Hp→Prop)(sF:Value)(s2:Shared):Prop:=
 ∃(it:Addr) (fp:List Addr) (tn:Nat→Heap→Prop) (J:It) (H':Hp),sF=.ref it∧Inv X pins σ H' s2∧Turn X.prog X.w X.K tg J fp it tn∧tn 0 s2.heap∧(∀b∈fp,kW X pins H' b)∧R J H'
def PI(X:Cx)(tg iter:Expr)(wi:TI):Prop:=
 ∀(pins:aU) (s:Shared) (σ:St) (H:Hp) (R:It→Hp→Prop),Inv X pins σ H s→wi σ H R→
  wpAny (model X.prog X.w) X.A (eval iter X.env) (fun v s1=>wpAny (model X.prog X.w) X.A (pyIter v) (za X pins σ tg R) X.xe s1) X.xe s
variable {tg:Expr}
theorem sG{it:Addr}{o:Obj}{n:String}{vs:Array Value}{Q:Unit→Shared→Prop}(ho:s.heap.get? it=some o)(hc:o.cls=.type n)(hd:o.data=.fields vs)
    (hn:["enumerate","zip","dict_itemiterator","dict_reverseitemiterator","odict_iterator","itertools.zip_longest","itertools.pairwise"].contains n=false) (hQ:Q () s):wpAny M A (letOwnedTupleGo tg (.ref it) u) Q E s:=by
  unfold letOwnedTupleGo
  cases tg <;> first
    | exact eG hQ
    | (cases u <;> first
        | exact eG hQ
        | (refine b9 (wpAny_load ho ?_)
           rw [hc,hd];show wpAny M A (if (["enumerate","zip","dict_itemiterator","dict_reverseitemiterator","odict_iterator","itertools.zip_longest","itertools.pairwise"].contains n && vs[0]? == some (rawInt _))=true then _ else _) Q E s
           rw [ak (by intro h;rw [hn,Bool.false_and] at h;cases h)]
           exact eG hQ))
def sI(K:aD)(a:Addr):It:=
 ⟨fun i H=>∃xs x,bO K H a xs∧xs[i]?=some x,fun i H x H'=>H'=H∧∀xs,bO K H a xs→xs[i]?=some x,fun i H=>∃xs,bO K H a xs∧xs.length≤i⟩
def xc(K:aD)(a:Addr):It:=
 ⟨fun i H=>∃xs x,d8 K H a xs∧xs[i]?=some x,fun i H x H'=>H'=H∧∀xs,d8 K H a xs→xs[i]?=some x,fun i H=>∃xs,d8 K H a xs∧xs.length≤i⟩
def lV(lo:Int)(n:Nat):It:=⟨fun i _=>i<n,fun i H x H'=>H'=H∧x=.int (lo+i),fun i _=>n≤i⟩
variable {K:aD}
theorem OA(a it:Addr):Turn P w K tg (sI K a) [it] it (fun i h=>h.IsListIter it a i) where
 mem:=by simp
 obj:=fun i h st b hb=>by
  have e:b=it:=by simpa using hb
  subst e;obtain ⟨o,e,c,d⟩:=st;exact ⟨o,e,fun v z=>by rw [d] at z;cases z⟩
 keep:=fun i h h' st k=>st.at fun o e=>k it (by simp) o e
 item:=by
  intro X hP hw hK hc i pins s σ H E I hf st hg;subst hP hw hK;obtain ⟨xs,x,hq,hx⟩:=hg;obtain ⟨ah,rv,p,hz⟩:=I.list hq;obtain ⟨u,hu,ru⟩:=rv.get hx;obtain ⟨f0,f1,f2,f3,f4,f5⟩:=hf it (by simp)
  refine wpAny_pyNext_list_item st p.isList (x:=u) (by simpa using hu) fun h' f_ sb=>?_
  have I1:Inv X pins σ H {s with heap:=h'}:=I.turned (t':=s.toks) (fun b o hb e=>(sb.2 b hb).trans e) f0 f1 f3 f4 f5;obtain ⟨o,e,c,d⟩:=id f_;exact ⟨u,rfl,sG (s:={s with heap:=h'}) e c d (by decide) ⟨x,H,I1,ru,⟨rfl,fun ys hy=>by rw [I.Ce hy hq];exact hx⟩,f_,fun b hb=>(hf b hb).1⟩⟩
 done:=by
  intro X hP hw hK hc i pins s σ H E I hf st hg;subst hP hw hK;obtain ⟨xs,hq,hx⟩:=hg;obtain ⟨ah,rv,p,hz⟩:=I.list hq;obtain ⟨f0,f1,f2,f3,f4,f5⟩:=hf it (by simp)
  have hl:=rv.length;exact wpAny_pyNext_list_end (I.ok.hd hc) st p.isList (by simp;lia) fun h' eb=>⟨rfl,I.turned (t':=s.toks) (fun b o hb e=>eb b o hb e) f0 f1 f3 f4 f5⟩
 self:=fun _ _ _ _ _ st h=>wpAny_pyIter_listiter st h
theorem OB(a it:Addr):Turn P w K tg (xc K a) [it] it (fun i h=>h.IsTupleIter it a i) where
 mem:=by simp
 obj:=fun i h st b hb=>by
  have e:b=it:=by simpa using hb
  subst e;obtain ⟨o,e,c,d⟩:=st;exact ⟨o,e,fun v z=>by rw [d] at z;cases z⟩
 keep:=fun i h h' st k=>st.at fun o e=>k it (by simp) o e
 item:=by
  intro X hP hw hK hc i pins s σ H E I hf st hg;subst hP hw hK;obtain ⟨xs,x,hq,hx⟩:=hg;obtain ⟨ah,rv,p,hz⟩:=I.tuple hq;obtain ⟨u,hu,ru⟩:=rv.get hx;obtain ⟨f0,f1,f2,f3,f4,f5⟩:=hf it (by simp)
  refine wpAny_pyNext_tuple_item st (show s.heap.IsTuple a ah.toArray from p) (x:=u) (by simpa using hu) fun h' f_ sb=>?_
  have I1:Inv X pins σ H {s with heap:=h'}:=I.turned (t':=s.toks) (fun b o hb e=>(sb.2 b hb).trans e) f0 f1 f3 f4 f5;obtain ⟨o,e,c,d⟩:=id f_;exact ⟨u,rfl,sG (s:={s with heap:=h'}) e c d (by decide) ⟨x,H,I1,ru,⟨rfl,fun ys hy=>by rw [I.Oh hy hq];exact hx⟩,f_,fun b hb=>(hf b hb).1⟩⟩
 done:=by
  intro X hP hw hK hc i pins s σ H E I hf st hg;subst hP hw hK;obtain ⟨xs,hq,hx⟩:=hg;obtain ⟨ah,rv,p,hz⟩:=I.tuple hq;obtain ⟨f0,f1,f2,f3,f4,f5⟩:=hf it (by simp)
  have hl:=rv.length;exact wpAny_pyNext_tuple_end (I.ok.hd hc) st (show s.heap.IsTuple a ah.toArray from p) (by simp;lia) fun h' eb=>⟨rfl,I.turned (t':=s.toks) (fun b o hb e=>eb b o hb e) f0 f1 f3 f4 f5⟩
 self:=fun _ _ _ _ _ st h=>wpAny_pyIter_tupleiter st h
theorem OC(it:Addr)(lo:Int)(n:Nat):Turn P w K tg (lV lo n) [it] it (fun i h=>IsRangeIter h it (lo+(i:Nat)*1) ((n:Int)-(i:Nat)) 1) where
 mem:=by simp
 obj:=fun i h st b hb=>by
  have e:b=it:=by simpa using hb
  subst e;exact ⟨_,st,fun v z=>by have z':Data.fields _=Data.cell v:=z;cases z'⟩
 keep:=fun i h h' st k=>k it (by simp) _ st
 item:=by
  intro X hP hw hK hc i pins s σ H E I hf st hg;subst hP hw hK;obtain ⟨f0,f1,f2,f3,f4,f5⟩:=hf it (by simp)
  have W:=Walks.range (prog:=X.prog) (w:=X.w) (I.ok.hd hc) it lo 1 n;refine W.item i s _ _ hg st fun v h' tk hv f_ kk=>?_;obtain ⟨t,rfl⟩:=hv;have I1:Inv X pins σ H {s with heap:=h',toks:=tk}:=I.turned (fun b o hb e=>kk b o (by simpa using hb) e) f0 f1 f3 f4 f5
  refine ⟨_,rfl,sG (s:={s with heap:=h',toks:=tk}) (n:="range_iterator") f_ rfl rfl (by decide) ⟨.int (lo+i),H,I1,⟨t,?_⟩,⟨rfl,rfl⟩,f_,fun b hb=>(hf b hb).1⟩⟩
  rw [gu]
 done:=by
  intro X hP hw hK hc i pins s σ H E I hf st hg;subst hP hw hK;obtain ⟨f0,f1,f2,f3,f4,f5⟩:=hf it (by simp)
  exact wpAny_pyNext_range_end (I.ok.hd hc) st (by have:n≤i:=hg;lia) fun h' eb=>⟨rfl,I.turned (t':=s.toks) (fun b o hb e=>eb b o hb e) f0 f1 f3 f4 f5⟩
 self:=fun _ _ _ _ _ st h=>wpAny_pyIter_rangeiter st h
section
variable {X:Cx} {tg:Expr}
def OD(K:aD)(tl:TE):TI:=fun σ H R=>tl σ H fun x H1=>∃a,x=.ref a∧(∃xs,bO K H1 a xs)∧R (sI K a) H1
def OE(K:aD)(tl:TE):TI:=fun σ H R=>tl σ H fun x H1=>∃a,x=.ref a∧(∃xs,d8 K H1 a xs)∧R (xc K a) H1
variable {l:Expr} {tl:TE}
theorem gc(hl:PE X l tl):PI X tg l (OD X.K tl):=by
 intro pins s σ H R I h;refine aK (hl pins s σ H _ I h) fun v s1 ⟨x,H1,I1,r1,q1⟩=>?_;obtain ⟨a,e,⟨xs,hq⟩,q⟩:=q1;subst e;cases r1;obtain ⟨ah,rv,p,hz⟩:=I1.list hq;refine yE p.isList ?_;refine ⟨s1.heap.objs.size,[s1.heap.objs.size],_,_,H1,rfl,I1.kept (t':=s1.toks) fun b o e=>cu _ e,OA a _,⟨_,eJ _ rfl,rfl,rfl⟩,fun b hb=>?_,q⟩;have e:b=s1.heap.objs.size:=by simpa using hb
 subst e;exact I1.oW (aN _) (I1.ay.fresh (aN _))
theorem OF(hl:PE X l tl):PI X tg l (OE X.K tl):=by
 intro pins s σ H R I h;refine aK (hl pins s σ H _ I h) fun v s1 ⟨x,H1,I1,r1,q1⟩=>?_;obtain ⟨a,e,⟨xs,hq⟩,q⟩:=q1;subst e;cases r1;obtain ⟨ah,rv,p,hz⟩:=I1.tuple hq;refine wpAny_pyIter_tuple (show s1.heap.IsTuple a ah.toArray from p) ?_;refine ⟨s1.heap.objs.size,[s1.heap.objs.size],_,_,H1,rfl,I1.kept (t':=s1.toks) fun b o e=>cu _ e,OB a _,⟨_,eJ _ rfl,rfl,rfl⟩,fun b hb=>?_,q⟩;have e:b=s1.heap.objs.size:=by simpa using hb
 subst e;exact I1.oW (aN _) (I1.ay.fresh (aN _))
variable {pins:aU}
theorem G5{R:It→Hp→Prop}{lo hi:Int}{t u v:Tok}{tk:Nat}(I:Inv X pins σ H s)(h1:-(2 ^ 62)≤lo)(h2:lo<2 ^ 62)(h3:-(2 ^ 62)≤hi)(h4:hi<2 ^ 62)
  (q:R (lV lo (hi-lo).toNat) H):wpAny (model X.prog X.w) X.A (pyIter (.ref s.heap.objs.size)) (za X pins σ tg R) E {s with heap:=s.heap.push {cls:=.type "range",data:=.fields #[.int lo t,.int hi u,.int 1 v]},toks:=tk}:=by
 refine wpAny_pyIter_range (IsRange.new ..) (small_one h1 h2 h3 h4) ?_;have I1:Inv X pins σ H {s with heap:=s.heap.push {cls:=.type "range",data:=.fields #[.int lo t,.int hi u,.int 1 v]},toks:=tk}:=I.kept fun b o e=>cu _ e
 refine ⟨(s.heap.push {cls:=.type "range",data:=.fields #[.int lo t,.int hi u,.int 1 v]}).objs.size,[(s.heap.push {cls:=.type "range",data:=.fields #[.int lo t,.int hi u,.int 1 v]}).objs.size],_,_,H,rfl,
  I1.kept (t':=tk) fun b o e=>cu _ e,OC _ lo (hi-lo).toNat,?_,fun b hb=>?_,q⟩
 ·have e1:lo+((0:Nat):Int)*1=lo:=by simp
  have e2:(((hi-lo).toNat:Nat):Int)-((0:Nat):Int)=Builtin.Range.rangeSize lo hi 1:=by rw [rangeSize_one];split <;> lia
  show IsRangeIter _ _ (lo+((0:Nat):Int)*1) ((((hi-lo).toNat:Nat):Int)-((0:Nat):Int)) 1;rw [e1,e2];exact eJ _ rfl
 ·have e:b=(s.heap.push {cls:=.type "range",data:=.fields #[.int lo t,.int hi u,.int 1 v]}).objs.size:=by simpa using hb
  subst e;exact I1.oW (aN _) (I1.ay.fresh (aN _))
def OG(ta:TA):TI:=fun σ H R=>ta σ H fun vs H1=>∃j:Int,vs=[.int j]∧-(2 ^ 62)≤j∧j<2 ^ 62∧R (lV 0 j.toNat) H1
def OH(ta:TA):TI:=fun σ H R=>ta σ H fun vs H1=>∃i j:Int,vs=[.int i,.int j]∧(-(2 ^ 62)≤i∧i<2 ^ 62∧-(2 ^ 62)≤j∧j<2 ^ 62)∧R (lV i (j-i).toNat) H1
variable {ta:TA} {p pos:Pos}
theorem kX{a:Expr}(hg:Gl X "range")(hm:X.mg "range"=none)(ha:PA X [a] ta)(hs:starEach [a] X.env=[(false,eval a X.env)]:=by rfl):PI X tg (.Call (.Name "range" p) [a] [] pos) (OG ta):=by
 intro pins s σ H R I h;refine Call_ (mU I hg hm boot_range (r_ (aK (ha pos pins s σ H _ I h) fun us s1 ⟨vs,H1,I1,r1,q1⟩=>?_) hs rfl));obtain ⟨j,e,q1,q2,q⟩:=q1;subst e;cases r1 with
 | cons r rr=>cases rr;obtain ⟨t,rfl⟩:=r;exact call_range_1 (G5 I1 (by lia) (by lia) q1 q2 (by simpa using q))
theorem OI{a b:Expr}(hg:Gl X "range")(hm:X.mg "range"=none)(ha:PA X [a,b] ta)(hs:starEach [a,b] X.env=[(false,eval a X.env),(false,eval b X.env)]:=by rfl)(kY:starEach [b] X.env=[(false,eval b X.env)]:=by rfl) :
  PI X tg (.Call (.Name "range" p) [a,b] [] pos) (OH ta):=by
 intro pins s σ H R I h;refine Call_ (mU I hg hm boot_range (r_ (aK (ha pos pins s σ H _ I h) fun us s1 ⟨vs,H1,I1,r1,q1⟩=>?_) (by rw [hs,kY]) (by rw [kY];rfl)))
 obtain ⟨i,j,e,⟨q1,q2,q3,q4⟩,q⟩:=q1;subst e;cases r1 with
 | cons r rr=>
  cases rr with
  | cons r' rr=>cases rr;obtain ⟨t,rfl⟩:=r;obtain ⟨t',rfl⟩:=r';exact call_range_2 (G5 I1 q1 q2 q3 q4 q)
def OJ(wi:TI)(g:TG)(tb:TS):TS:=fun D σ H=>wi σ H fun J H1=>∃W:Nat→Nat→St→Hp→Prop,(∃m,W 0 m σ H1)∧∀i m σ H,W i m σ H→
 (J.stop i H∧D.nx σ H)∨(J.go i H∧∃N:St→Hp→Prop,(∀σ' H',N σ' H'→∃m',m'<m∧W (i+1) m' σ' H')∧∀x H',J.dY i H x H'→g x σ H' fun σ2 H2=>tb {D with nx:=N,ct:=N,bk:=D.nx} σ2 H2)
def jk(fp:List Addr)(h:Heap):List (Addr×Obj):=fp.filterMap fun b=>(h.get? b).map fun o=>(b,o)
variable {fp:List Addr}
theorem kZ{o:Obj}(hb:b∈fp)(e:h.get? b=some o):(b,o)∈jk fp h:=List.mem_filterMap.mpr ⟨b,hb,by rw [e];rfl⟩
theorem OK{p:Addr×Obj}(hp:p∈jk fp h):p.1∈fp∧h.get? p.1=some p.2:=by
 obtain ⟨b,hb,e⟩:=List.mem_filterMap.mp hp;cases q:h.get? b with
 | none=>rw [q] at e;cases e
 | some o=>rw [q] at e;have e':(b,o)=p:=Option.some.inj e;subst e';exact ⟨hb,q⟩
theorem Inv.pinned(I:Inv X pins σ H s)(hf:∀b∈fp,kW X pins H b)(ho:∀b∈fp,∃o,s.heap.get? b=some o∧∀v,o.data≠.cell v):Inv X (pins++jk fp s.heap) σ H s:=
 I.FC fun p hp=>(jB.mp hp).elim (fun z=>I.pin p (dX _ z)) fun z=>by obtain ⟨hb,e⟩:=OK z;obtain ⟨f0,f1,f2,_⟩:=hf p.1 hb;obtain ⟨o,e',d⟩:=ho p.1 hb;rw [e] at e';cases e';exact ⟨e,f0,f1,f2,d⟩
theorem Inv.oX{pl:aU}(I:Inv X (pins++pl) σ H s):Inv X pins σ H s:=I.FC fun p hp=>I.pin p (dX _ (yB _ hp))
theorem eO{iter:Expr}{body:List Stmt}{wi:TI}{g:TG}{tb:TS}(hp:PassesOwn (model X.prog X.w) X.A X.env X.xe)(hc:X.calm=true)(hi:PI X tg iter wi)(hg:PG X tg g)(hb:dN X body tb)
  (hs:∀x,foldedSetIterable iter X.env x=pure x:=by intro _;rfl):PS X (.For tg iter body [] pos) (OJ wi g tb):=by
 intro pins s σ H D I h;refine wpAny_For (aK (hi pins s σ H _ I h) fun v s1 h1=>aK h1 fun sF s2 h2=>?_) hs;obtain ⟨it,fp,tn,J,H2,e,I2,T,eP,f2,W,⟨m0,w0⟩,turn⟩:=h2;subst e;have ft:∀{H':Hp},(∀b∈fp,H' b=none)→∀b∈fp,kW X pins H' b:=fun hn b hb=>⟨hn b hb,(f2 b hb).2⟩;refine codeAny_forLoop_any (fun n s'=>∃i σ' H',Inv X pins σ' H' s'∧tn i s'.heap∧(∀b∈fp,H' b=none)∧W i n σ' H') ?_ m0 ⟨0,σ,H2,I2,eP,fun b hb=>(f2 b hb).1,w0⟩;rintro n s3 ⟨i,σ3,H3,I3,G6,G7,w3⟩;rcases turn i n σ3 H3 w3 with ⟨stop,qn⟩ | ⟨go,N,hN,step⟩
 ·refine oC hp (aK (T.done X rfl rfl rfl hc i pins s3 σ3 H3 X.xe I3 (ft G7) G6 stop) fun r s4 ⟨hr,I4⟩=>?_)
  subst hr;exact oB ⟨σ3,H3,I4,qn⟩
 ·refine oC hp (aK (T.item X rfl rfl rfl hc i pins s3 σ3 H3 X.xe I3 (ft G7) G6 go) fun r s4 ⟨u,hr,h4⟩=>?_)
  subst hr;refine oC hp (aK h4 fun _ s5 ⟨x,H5,I5,r5,y5,fv,lW⟩=>?_);have lX:=I5.pinned (ft lW) (T.obj _ _ fv);refine oC hp (aK (hg _ s5 σ3 H5 x u _ lX r5 (step x H5 y5)) fun _ s6 ⟨σ6,H6,I6,q6⟩=>?_);refine oC hp (aK (hb _ s6 σ6 H6 _ I6 q6) fun f s7 q7=>?_);have again:∀{σ7:St} {H7:Hp},Inv X (pins++jk fp s5.heap) σ7 H7 s7→N σ7 H7→∃m,m<n∧∃i σ' H',Inv X pins σ' H' s7∧tn i s7.heap∧(∀b∈fp,H' b=none)∧W i m σ' H':=fun{σ7 H7} I7 n7=>by obtain ⟨m',hm,w7⟩:=hN σ7 H7 n7;refine ⟨m',hm,i+1,σ7,H7,I7.oX,T.keep _ _ _ fv fun b hb o e=>(I7.pin (b,o) (dX _ (dX _ (kZ hb e)))).1,fun b hb=>?_,w7⟩;obtain ⟨o,e,d⟩:=T.obj _ _ fv b hb;exact (I7.pin (b,o) (dX _ (dX _ (kZ hb e)))).2.1
  cases f with
  | next=>obtain ⟨σ7,H7,I7,n7⟩:=q7;exact again I7 n7
  | cont=>obtain ⟨σ7,H7,I7,n7⟩:=q7;exact again I7 n7
  | brk=>obtain ⟨σ7,H7,I7,q7⟩:=q7;exact ⟨σ7,H7,I7.oX,q7⟩
  | ret v=>obtain ⟨x7,σ7,H7,I7,r7,q7⟩:=q7;exact ⟨x7,σ7,H7,I7.oX,r7,q7⟩
end
variable {g:TG} {tb:TS} {D:Ends}
theorem k4(Pv:Nat→St→Hp→Prop)(h0:Pv 0 σ H)(hl:∀i σ H,i≤xs.length→Pv i σ H→bO K H a xs)
  (hs:∀i x σ H,xs[i]?=some x→Pv i σ H→g x σ H fun σ2 H2=>tb {D with nx:=Pv (i+1),ct:=Pv (i+1),bk:=D.nx} σ2 H2) (hd:∀σ H,Pv xs.length σ H→D.nx σ H) :
  ∃W:Nat→Nat→St→Hp→Prop,(∃m,W 0 m σ H)∧∀i m σ H,W i m σ H→
   ((sI K a).stop i H∧D.nx σ H)∨((sI K a).go i H∧∃N:St→Hp→Prop,(∀σ' H',N σ' H'→∃m',m'<m∧W (i+1) m' σ' H')∧∀x H',(sI K a).dY i H x H'→g x σ H' fun σ2 H2=>tb {D with nx:=N,ct:=N,bk:=D.nx} σ2 H2):=by
 refine ⟨fun i m σ H=>m=xs.length-i∧i≤xs.length∧Pv i σ H,⟨xs.length,by simp,b_ _,h0⟩,?_⟩
 rintro i m σ H ⟨rfl,hi,p⟩;have q:=hl i σ H hi p;by_cases bP:i<xs.length
 ·refine .inr ⟨⟨xs,xs[i],q,by simp [bP]⟩,Pv (i+1),fun σ' H' p'=>⟨xs.length-(i+1),by lia,rfl,bP,p'⟩,fun x H' y=>?_⟩
  obtain ⟨e,y⟩:=y;subst e;exact hs i x σ _ (y xs q) p
 ·have e:i=xs.length:=by lia
  subst e;exact .inl ⟨⟨xs,q,aN _⟩,hd σ H p⟩
theorem OL(Pv:Nat→St→Hp→Prop)(h0:Pv 0 σ H)(hl:∀i σ H,i≤xs.length→Pv i σ H→d8 K H a xs)
  (hs:∀i x σ H,xs[i]?=some x→Pv i σ H→g x σ H fun σ2 H2=>tb {D with nx:=Pv (i+1),ct:=Pv (i+1),bk:=D.nx} σ2 H2) (hd:∀σ H,Pv xs.length σ H→D.nx σ H) :
  ∃W:Nat→Nat→St→Hp→Prop,(∃m,W 0 m σ H)∧∀i m σ H,W i m σ H→
   ((xc K a).stop i H∧D.nx σ H)∨((xc K a).go i H∧∃N:St→Hp→Prop,(∀σ' H',N σ' H'→∃m',m'<m∧W (i+1) m' σ' H')∧∀x H',(xc K a).dY i H x H'→g x σ H' fun σ2 H2=>tb {D with nx:=N,ct:=N,bk:=D.nx} σ2 H2):=by
 refine ⟨fun i m σ H=>m=xs.length-i∧i≤xs.length∧Pv i σ H,⟨xs.length,by simp,b_ _,h0⟩,?_⟩
 rintro i m σ H ⟨rfl,hi,p⟩;have q:=hl i σ H hi p;by_cases bP:i<xs.length
 ·refine .inr ⟨⟨xs,xs[i],q,by simp [bP]⟩,Pv (i+1),fun σ' H' p'=>⟨xs.length-(i+1),by lia,rfl,bP,p'⟩,fun x H' y=>?_⟩
  obtain ⟨e,y⟩:=y;subst e;exact hs i x σ _ (y xs q) p
 ·have e:i=xs.length:=by lia
  subst e;exact .inl ⟨⟨xs,q,aN _⟩,hd σ H p⟩
variable {n:Nat}
theorem sJ{lo:Int}(Pv:Nat→St→Hp→Prop)(h0:Pv 0 σ H)
  (hs:∀i σ H,i<n→Pv i σ H→g (.int (lo+i)) σ H fun σ2 H2=>tb {D with nx:=Pv (i+1),ct:=Pv (i+1),bk:=D.nx} σ2 H2) (hd:∀σ H,Pv n σ H→D.nx σ H) :
  ∃W:Nat→Nat→St→Hp→Prop,(∃m,W 0 m σ H)∧∀i m σ H,W i m σ H→
   ((lV lo n).stop i H∧D.nx σ H)∨((lV lo n).go i H∧∃N:St→Hp→Prop,(∀σ' H',N σ' H'→∃m',m'<m∧W (i+1) m' σ' H')∧∀x H',(lV lo n).dY i H x H'→g x σ H' fun σ2 H2=>tb {D with nx:=N,ct:=N,bk:=D.nx} σ2 H2):=by
 refine ⟨fun i m σ H=>m=n-i∧i≤n∧Pv i σ H,⟨n,by simp,b_ _,h0⟩,?_⟩
 rintro i m σ H ⟨rfl,hi,p⟩;by_cases bP:i<n
 ·refine .inr ⟨bP,Pv (i+1),fun σ' H' p'=>⟨n-(i+1),by lia,rfl,bP,p'⟩,fun x H' y=>?_⟩
  obtain ⟨e,y⟩:=y;subst e y;exact hs i σ _ bP p
 ·have e:i=n:=by lia
  subst e;exact .inl ⟨aN _,hd σ H p⟩
abbrev R2:=V→V→Hp→VK→Prop
def cq(X:Cx)(f:Value→Value→Sem Value)(r:R2):Prop:=
 ∀(pins:aU) (s:Shared) (σ:St) (H:Hp) (x y:V) (v u:Value) (Q:VK),Inv X pins σ H s→RelV x v→RelV y u→r x y H Q→
  wpAny (model X.prog X.w) X.A (f v u) (EP X pins σ Q) X.xe s
def Cp(X:Cx)(f:Value→Sem Value)(r:V→Hp→VK→Prop):Prop:=
 ∀(pins:aU) (s:Shared) (σ:St) (H:Hp) (x:V) (v:Value) (Q:VK),Inv X pins σ H s→RelV x v→r x H Q→
  wpAny (model X.prog X.w) X.A (f v) (EP X pins σ Q) X.xe s
def fN(X:Cx)(f:Value)(r:List V→Hp→VK→Prop):Prop:=
 ∀(pins:aU) (s:Shared) (σ:St) (H:Hp) (xs:List V) (us:List Value) (Q:VK),Inv X pins σ H s→Vals xs us→r xs H Q→
  wpAny (model X.prog X.w) X.A (call f us) (EP X pins σ Q) X.xe s
def lY(r:R2)(ta tb:TE):TE:=fun σ H Q=>ta σ H fun x H1=>tb σ H1 fun y H2=>r x y H2 Q
def OM(r:V→Hp→VK→Prop)(ta:TE):TE:=fun σ H Q=>ta σ H fun x H1=>r x H1 Q
def rI(C:Int→Int→Prop)(g:Int→Int→V):R2:=fun x y H Q=>∃i j,x=.int i∧y=.int j∧C i j∧Q (g i j) H
def mZ(g:Int→Int→V):R2:=fun x y H Q=>∃i j,x=.int i∧y=.int j∧Q (g i j) H
def rU(g:Int→V):V→Hp→VK→Prop:=fun x H Q=>∃i,x=.int i∧Q (g i) H
section
variable {X:Cx} {a b c:Expr} {ta tb tc:TE} {pos:Pos}
variable {f:Value→Value→Sem Value}
theorem Cq(ha:PE X a ta)(hb:PE X b tb){pins:aU}{R:V→V→Hp→Prop}(I:Inv X pins σ H s)
  (h:ta σ H fun x H1=>tb σ H1 fun y H2=>R x y H2) {Q:aR}
  (hf:∀v u s2 x y H2,Inv X pins σ H2 s2→RelV x v→RelV y u→R x y H2→wpAny (model X.prog X.w) X.A (f v u) Q X.xe s2) :
  wpAny (model X.prog X.w) X.A (eval a X.env) (fun v s₁=>wpAny (model X.prog X.w) X.A (eval b X.env) (fun u s₂=>wpAny (model X.prog X.w) X.A (f v u) Q X.xe s₂) X.xe s₁) X.xe s:=by
 refine aK (ha pins s σ H _ I h) fun v s1 ⟨x,H1,I1,r1,q1⟩=>?_;refine aK (hb pins s1 σ H1 _ I1 q1) fun u s2 ⟨y,H2,I2,r2,q2⟩=>?_;exact hf v u s2 x y H2 I2 r1 r2 q2
theorem ax{op:Operator}{r:R2}(ho:cq X (binaryOp op) r)(ha:PE X a ta)(hb:PE X b tb):PE X (.BinOp a op b pos) (lY r ta tb):=by intro pins s σ H Q I h;exact wpAny_BinOp (Cq ha hb I h fun v u s2 x y H2 I2 rx ry q=>ho pins s2 σ H2 x y v u Q I2 rx ry q)
theorem m4{op:UnaryOp}{r:V→Hp→VK→Prop}(ho:Cp X (unaryOp op) r)(ha:PE X a ta):PE X (.UnaryOp op a pos) (OM r ta):=by intro pins s σ H Q I h;exact UnaryOp_ (aK (ha pins s σ H _ I h) fun v s1 ⟨x,H1,I1,r1,q1⟩=>ho pins s1 σ H1 x v Q I1 r1 q1)
theorem m5{C:Int→Int→Prop}{g:Int→Int→Int}
  (rule:∀(i j:Int) (t u:Tok) (s:Shared) (Q:aR) (E:aR),C i j→Q (.int (g i j) s.toks) {s with toks:=s.toks+1}→wpAny (model X.prog X.w) X.A (f (.int i t) (.int j u)) Q E s) :
  cq X f (rI C fun i j=>.int (g i j)):=by
 intro pins s σ H x y v u Q I rx ry h;obtain ⟨i,j,rfl,rfl,hc,q⟩:=h;obtain ⟨t,rfl⟩:=rx;obtain ⟨t',rfl⟩:=ry;exact rule i j t t' s _ _ hc ⟨.int (g i j),H,I.tok _,⟨_,rfl⟩,q⟩
theorem G8{g:Int→Int→Int}
  (rule:∀(i j:Int) (t u:Tok) (s:Shared) (Q:aR) (E:aR),Q (.int (g i j) s.toks) {s with toks:=s.toks+1}→wpAny (model X.prog X.w) X.A (f (.int i t) (.int j u)) Q E s) :
  cq X f (mZ fun i j=>.int (g i j)):=by
 intro pins s σ H x y v u Q I rx ry h;obtain ⟨i,j,rfl,rfl,q⟩:=h;obtain ⟨t,rfl⟩:=rx;obtain ⟨t',rfl⟩:=ry;exact rule i j t t' s _ _ ⟨.int (g i j),H,I.tok _,⟨_,rfl⟩,q⟩
theorem zb{g:Int→Int→Bool}
  (rule:∀(i j:Int) (t u:Tok) (s:Shared) (Q:aR) (E:aR),Q (.bool (g i j)) s→wpAny (model X.prog X.w) X.A (f (.int i t) (.int j u)) Q E s) :
  cq X f (mZ fun i j=>.bl (g i j)):=by
 intro pins s σ H x y v u Q I rx ry h;obtain ⟨i,j,rfl,rfl,q⟩:=h;obtain ⟨t,rfl⟩:=rx;obtain ⟨t',rfl⟩:=ry;exact rule i j t t' s _ _ ⟨.bl (g i j),H,I,rfl,q⟩
def ON(i j:Int):Prop:=0<j∧j<1073741824
def OO(i j:Int):Prop:=0≤j∧j≤1000000∧i.natAbs<2 ^ 64
def Cr(i j:Int):Prop:=(-(2 ^ 64)<i∧i<2 ^ 64)∨(-(2 ^ 64)<j∧j<2 ^ 64)
theorem Cr.ok{i j:Int}(h:Cr i j):IntMulOk i j:=by
 rcases h with ⟨h1,h2⟩ | ⟨h1,h2⟩;·exact .of_left (intBits_le_64 h1 h2)
 ·exact .of_right (intBits_le_64 h1 h2)
theorem eQ:cq X (binaryOp .Add) (mZ fun i j=>.int (i+j)):=G8 fun _ _ _ _ _ _ _ q=>add_int q
theorem k6:cq X (binaryOp .Sub) (mZ fun i j=>.int (i-j)):=G8 fun _ _ _ _ _ _ _ q=>sub_int q
theorem fO:cq X (binaryOp .Mult) (rI Cr fun i j=>.int (i*j)):=m5 fun _ _ _ _ _ _ _ hc q=>mul_int q hc.ok
theorem zc:cq X (binaryOp .FloorDiv) (rI ON fun i j=>.int (i / j)):=m5 fun i j _ _ _ _ _ hc q=>by have h1:(0:Int)<j:=hc.1;have h2:j<1073741824:=hc.2;exact floordiv_int (by lia) (by rw [Int.fdiv_eq_ediv_of_nonneg i (by lia)];exact q) (.inl (PyProof.noPylong_small (by lia)))
theorem gf:cq X (binaryOp .Mod) (rI (fun _ j=>0<j) fun i j=>.int (i % j)):=m5 fun i j _ _ _ _ _ hc q=>by have h1:(0:Int)<j:=hc;exact mod_int' (by lia) (by rw [Int.fmod_eq_emod_of_nonneg i (by lia)];exact q)
theorem OP:cq X (binaryOp .Mod) (rI (fun _ j=>j≠0) fun i j=>.int (i.fmod j)):=m5 fun _ _ _ _ _ _ _ hc q=>mod_int' hc q
theorem OQ:cq X (binaryOp .Pow) (rI OO fun i j=>.int (i ^ j.toNat)):=m5 fun _ _ _ _ _ _ _ hc q=>pow_int_small hc.1 hc.2.1 hc.2.2 q
theorem OR{f:Value→Sem Value}{g:Int→Int}
  (rule:∀(i:Int) (t:Tok) (s:Shared) (Q:aR) (E:aR),Q (.int (g i) s.toks) {s with toks:=s.toks+1}→wpAny (model X.prog X.w) X.A (f (.int i t)) Q E s) :
  Cp X f (rU fun i=>.int (g i)):=by
 intro pins s σ H x v Q I rx h;obtain ⟨i,rfl,q⟩:=h;obtain ⟨t,rfl⟩:=rx;exact rule i t s _ _ ⟨.int (g i),H,I.tok _,⟨_,rfl⟩,q⟩
theorem m6:Cp X (unaryOp .USub) (rU fun i=>.int (-i)):=OR fun _ _ _ _ _ q=>neg_int q
end
def Cs:V→V→Bool
 | .aF,.aF=>true | .aF,.int _=>true | .int _,.aF=>true | .aF,.bl _=>true | .bl _,.aF=>true | .aF,.str _=>true | .str _,.aF=>true
 | .int _,.int _=>true | .bl _,.bl _=>true | .str _,.str _=>true | .jh _,.jh _=>true
 | .int _,.str _=>true | .str _,.int _=>true | .bl _,.str _=>true | .str _,.bl _=>true
 | _,_=>false
def G9:R2:=fun x y H Q=>Cs x y=true∧Q (.bl (decide (x=y))) H
def G_:R2:=fun x y H Q=>Cs x y=true∧Q (.bl (!decide (x=y))) H
theorem Hi{i j:Int}:decide (V.int i=V.int j)=(i == j):=by rw [oE];simp
theorem Hj{i j:Bool}:decide (V.bl i=V.bl j)=(i == j):=by rw [oE];simp
theorem Hk{i j:Str}:decide (V.str i=V.str j)=(i == j):=by rw [oE];simp
theorem Hm{i j:Array UInt8}:decide (V.jh i=V.jh j)=(i.toList == j.toList):=by rw [oE];cases i;cases j;simp
section
variable {X:Cx} {a b c:Expr} {ta tb tc:TE} {pos:Pos}
theorem cI{pins:aU}{Q:VK}{k k':Bool}(I:Inv X pins σ H s)(q:Q (.bl k) H)(e:k=k'):EP X pins σ Q (.bool k') s:=by subst e;exact ⟨.bl k,H,I,rfl,q⟩
theorem fP:cq X (compareOp .Eq) G9:=by
 intro pins s σ H x y v u Q I rx ry h;obtain ⟨hs,q⟩:=h;cases x with
 | aF=>
  cases rx;cases y with
  | aF=>cases ry;exact PySem.EqNone.eq_none_none (cI I q (by simp))
  | bl j=>cases ry;exact PySem.EqNone.eq_none_bool (cI I q (by simp))
  | int j=>obtain ⟨t',rfl⟩:=ry;exact PySem.EqNone.eq_none_int (cI I q (by simp))
  | str j=>obtain ⟨t',rfl⟩:=ry;exact PySem.EqNone.eq_none_str (cI I q (by simp))
  | _=>exact absurd (show false=true from hs) cW
 | bl i=>
  cases rx;cases y with
  | aF=>cases ry;exact PySem.EqNone.eq_bool_none (cI I q (by simp))
  | bl j=>cases ry;exact eq_bool (cI I q Hj)
  | str j=>obtain ⟨t',rfl⟩:=ry;exact PySem.EqMixed.eq_bool_str (cI I q (by simp))
  | _=>exact absurd (show false=true from hs) cW
 | int i=>
  obtain ⟨t,rfl⟩:=rx;cases y with
  | aF=>cases ry;exact PySem.EqNone.eq_int_none (cI I q (by simp))
  | int j=>obtain ⟨t',rfl⟩:=ry;exact eq_int (cI I q Hi)
  | str j=>obtain ⟨t',rfl⟩:=ry;exact PySem.EqMixed.eq_int_str (cI I q (by simp))
  | _=>exact absurd (show false=true from hs) cW
 | str i=>
  obtain ⟨t,rfl⟩:=rx;cases y with
  | aF=>cases ry;exact PySem.EqNone.eq_str_none (cI I q (by simp))
  | bl j=>cases ry;exact PySem.EqMixed.eq_str_bool (cI I q (by simp))
  | int j=>obtain ⟨t',rfl⟩:=ry;exact PySem.EqMixed.eq_str_int (cI I q (by simp))
  | str j=>obtain ⟨t',rfl⟩:=ry;exact eq_str (cI I q Hk)
  | _=>exact absurd (show false=true from hs) cW
 | jh i=>
  obtain ⟨t,rfl⟩:=rx;cases y with
  | jh j=>obtain ⟨t',rfl⟩:=ry;exact PySem.W.eq_bytes (cI I q Hm)
  | _=>exact absurd (show false=true from hs) cW
 | _=>cases y <;> exact absurd (show false=true from hs) cW
theorem fz:cq X (compareOp .NotEq) G_:=by
 intro pins s σ H x y v u Q I rx ry h;obtain ⟨hs,q⟩:=h;cases x with
 | aF=>
  cases rx;cases y with
  | aF=>cases ry;exact PySem.EqNone.ne_none_none (cI I q (by simp))
  | bl j=>cases ry;exact PySem.EqNone.ne_none_bool (cI I q (by simp))
  | int j=>obtain ⟨t',rfl⟩:=ry;exact PySem.EqNone.ne_none_int (cI I q (by simp))
  | str j=>obtain ⟨t',rfl⟩:=ry;exact PySem.EqNone.ne_none_str (cI I q (by simp))
  | _=>exact absurd (show false=true from hs) cW
 | bl i=>
  cases rx;cases y with
  | aF=>cases ry;exact PySem.EqNone.ne_bool_none (cI I q (by simp))
  | bl j=>cases ry;exact ne_bool (cI I q (gU not Hj))
  | str j=>obtain ⟨t',rfl⟩:=ry;exact PySem.EqMixed.ne_bool_str (cI I q (by simp))
  | _=>exact absurd (show false=true from hs) cW
 | int i=>
  obtain ⟨t,rfl⟩:=rx;cases y with
  | aF=>cases ry;exact PySem.EqNone.ne_int_none (cI I q (by simp))
  | int j=>obtain ⟨t',rfl⟩:=ry;exact ne_int (cI I q (gU not Hi))
  | str j=>obtain ⟨t',rfl⟩:=ry;exact PySem.EqMixed.ne_int_str (cI I q (by simp))
  | _=>exact absurd (show false=true from hs) cW
 | str i=>
  obtain ⟨t,rfl⟩:=rx;cases y with
  | aF=>cases ry;exact PySem.EqNone.ne_str_none (cI I q (by simp))
  | bl j=>cases ry;exact PySem.EqMixed.ne_str_bool (cI I q (by simp))
  | int j=>obtain ⟨t',rfl⟩:=ry;exact PySem.EqMixed.ne_str_int (cI I q (by simp))
  | str j=>obtain ⟨t',rfl⟩:=ry;exact ne_str (cI I q (gU not Hk))
  | _=>exact absurd (show false=true from hs) cW
 | jh i=>
  obtain ⟨t,rfl⟩:=rx;cases y with
  | jh j=>obtain ⟨t',rfl⟩:=ry;exact PySem.W.ne_bytes (cI I q (gU not Hm))
  | _=>exact absurd (show false=true from hs) cW
 | _=>cases y <;> exact absurd (show false=true from hs) cW
theorem oY:cq X (compareOp .Lt) (mZ fun i j=>.bl (decide (i<j))):=zb fun _ _ _ _ _ _ _ q=>lt_int q
theorem Ct:cq X (compareOp .LtE) (mZ fun i j=>.bl (decide (i≤j))):=zb fun _ _ _ _ _ _ _ q=>le_int q
theorem sM:cq X (compareOp .Gt) (mZ fun i j=>.bl (decide (j<i))):=zb fun _ _ _ _ _ _ _ q=>gt_int q
theorem OS:cq X (compareOp .GtE) (mZ fun i j=>.bl (decide (j≤i))):=zb fun _ _ _ _ _ _ _ q=>ge_int q
theorem xf:cq X (compareOp .Is) (fun x y H Q=>y=.aF∧Q (.bl (decide (x=.aF))) H):=by
 intro pins s σ H x y v u Q I rx ry h;obtain ⟨rfl,q⟩:=h;cases ry;refine is_none_gen (cI I q ?_)
 cases x <;> first
  | (cases rx;rfl)
  | (obtain ⟨t,rfl⟩:=rx;rfl)
theorem Hn:cq X (compareOp .IsNot) (fun x y H Q=>y=.aF∧Q (.bl (!decide (x=.aF))) H):=by
 intro pins s σ H x y v u Q I rx ry h;obtain ⟨rfl,q⟩:=h;cases ry;refine isnot_none_gen (cI I q ?_)
 cases x <;> first
  | (cases rx;rfl)
  | (obtain ⟨t,rfl⟩:=rx;rfl)
variable {op:CmpOp}
theorem iV(b:Expr)(h:op≠.In:=by decide)(h2:op≠.NotIn:=by decide):behindInMarks op b=false:=by
 have e1:(op == CmpOp.In)=false:=by cases op <;> first | rfl | exact absurd rfl h
 have e2:(op == CmpOp.NotIn)=false:=by cases op <;> first | rfl | exact absurd rfl h2
 cases b <;> simp [behindInMarks,e1,e2]
theorem Ho{op:CmpOp}{r:R2}(ho:cq X (compareOp op) r)(ha:PE X a ta)(hb:PE X b tb)(hm:behindInMarks op b=false):PE X (.Compare a [op] [b] pos) (lY r ta tb):=by intro pins s σ H Q I h;exact wpAny_Compare1 (Cq ha hb I h fun v u s2 x y H2 I2 rx ry q=>ho pins s2 σ H2 x y v u Q I2 rx ry q) hm
theorem sN{r:R2}(ho:cq X (compareOp op) r)(ha:PE X a ta)(hb:PE X b tb)(hm:behindInMarks op b=false:=by exact iV _):PE X (.Compare a [op] [b] pos) (lY r ta tb):=Ho ho ha hb hm
def Hq(t:TE):TT:=fun σ H Q=>t σ H fun x H'=>∃k,x=.bl k∧Q k H'
theorem jL{op:CmpOp}{r:R2}(ho:cq X (compareOp op) r)(ha:PE X a ta)(hb:PE X b tb)(hm:behindInMarks op b=false):PT X (.Compare a [op] [b] pos) (Hq (lY r ta tb)):=by intro pins s σ H Q I h;refine wpAny_isTrue_Compare1 (aK (ha pins s σ H _ I h) fun v s1 ⟨x,H1,I1,r1,q1⟩=>aK (hb pins s1 σ H1 _ I1 q1) fun u s2 ⟨y,H2,I2,r2,q2⟩=>aK (ho pins s2 σ H2 x y v u _ I2 r1 r2 q2) fun c s3 ⟨z,H3,I3,r3,k,e,q3⟩=>?_) hm;subst e;cases r3;exact mG ⟨H3,I3,q3⟩
theorem bN{r:R2}(ho:cq X (compareOp op) r)(ha:PE X a ta)(hb:PE X b tb)(hm:behindInMarks op b=false:=by exact iV _):PT X (.Compare a [op] [b] pos) (Hq (lY r ta tb)):=jL ho ha hb hm
def OT(r r':R2)(ta tb tc:TE):TE:=fun σ H Q=>ta σ H fun x H1=>tb σ H1 fun y H2=>r x y H2 fun z H3=>∃k,z=.bl k ∧
 (if k=true then tc σ H3 fun w' H4=>r' y w' H4 Q else Q (.bl false) H3)
theorem OU{Cu:CmpOp}{r r':R2}(ho:cq X (compareOp op) r)(kM:cq X (compareOp Cu) r')(ha:PE X a ta)(hb:PE X b tb)(hc:PE X c tc)
  (hm:lastMarks [op,Cu] [b,c]=false:=by with_unfolding_all rfl):PE X (.Compare a [op,Cu] [b,c] pos) (OT r r' ta tb tc):=by
 intro pins s σ H Q I h;refine Compare_chain (aK (ha pins s σ H _ I h) fun v s1 ⟨x,H1,I1,r1,q1⟩=>chain_link (aK (hb pins s1 σ H1 _ I1 q1) fun u s2 ⟨y,H2,I2,r2,q2⟩=>aK (ho pins s2 σ H2 x y v u _ I2 r1 r2 q2) fun d s3 ⟨z,H3,I3,r3,k,e,q3⟩=>?_)) hm;subst e;cases r3;refine mG ?_;cases k with
 | false=>exact ite_ff ⟨.bl false,H3,I3,rfl,q3⟩
 | true=>exact ite_tt (chain_last (aK (hc pins s3 σ H3 _ I3 q3) fun w' s4 ⟨z',H4,I4,r4,q4⟩=>kM pins s4 σ H4 y z' u w' Q I4 r2 r4 q4))
theorem zd:(sizeLine:Nat)<2 ^ 63:=by rw [sizeLine_eq];decide
theorem vals1(r:Vals [x] us):∃u,us=[u]∧RelV x u:=by
 cases r with
 | cons r1 r2=>cases r2;exact ⟨_,rfl,r1⟩
theorem vals2{y:V}(r:Vals [x,y] us):∃u w',us=[u,w']∧RelV x u∧RelV y w':=by
 cases r with
 | cons r1 r2=>
  cases r2 with
  | cons r3 r4=>cases r4;exact ⟨_,_,rfl,r1,r3⟩
theorem Cv:fN X (.builtin "abs") (fun xs H Q=>∃i,xs=[.int i]∧Q (.int (if i<0 then -i else i)) H):=by intro pins s σ H xs us Q I r h;obtain ⟨i,rfl,q⟩:=h;obtain ⟨u,rfl,t,rfl⟩:=vals1 r;exact call_abs_int fun u tk=>⟨.int (if i<0 then -i else i),H,I.tok _,⟨_,rfl⟩,q⟩
theorem OV(hc:X.calm=true):fN X (.builtin "max") (fun xs H Q=>∃i j,xs=[.int i,.int j]∧Q (.int (if j>i then j else i)) H):=by
 intro pins s σ H xs us Q I r h;obtain ⟨i,j,rfl,q⟩:=h;obtain ⟨u,w',rfl,⟨t,rfl⟩,⟨t',rfl⟩⟩:=vals2 r;refine max_two_ints (I.ok.hd hc) fun h' tk k=>⟨_,H,I.kept k,?_,q⟩;by_cases hj:j>i;·rw [aq hj,aq hj];exact ⟨_,rfl⟩
 ·rw [ak hj,ak hj];exact ⟨_,rfl⟩
theorem OW(hc:X.calm=true):fN X (.builtin "min") (fun xs H Q=>∃i j,xs=[.int i,.int j]∧Q (.int (if j<i then j else i)) H):=by
 intro pins s σ H xs us Q I r h;obtain ⟨i,j,rfl,q⟩:=h;obtain ⟨u,w',rfl,⟨t,rfl⟩,⟨t',rfl⟩⟩:=vals2 r;refine min_two_ints (I.ok.hd hc) fun h' tk k=>⟨_,H,I.kept k,?_,q⟩;by_cases hj:j<i;·rw [aq hj,aq hj];exact ⟨_,rfl⟩
 ·rw [ak hj,ak hj];exact ⟨_,rfl⟩
theorem Hr:fN X (.type "int") (fun xs H Q=>(∃i,xs=[.int i]∧Q (.int i) H)∨∃k,xs=[.bl k]∧Q (.int (if k then 1 else 0)) H):=by
 intro pins s σ H xs us Q I r h;rcases h with ⟨i,rfl,q⟩ | ⟨k,rfl,q⟩
 ·obtain ⟨u,rfl,t,rfl⟩:=vals1 r
  exact call_int_int ⟨.int i,H,I,⟨_,rfl⟩,q⟩
 ·obtain ⟨u,rfl,r1⟩:=vals1 r
  cases r1;exact call_int_bool ⟨.int (if k then 1 else 0),H,I.tok _,⟨_,rfl⟩,q⟩
end
structure oZ (h:Heap) (x dx C:Addr) (mA:cG):Prop where
 obj:h.get? x=some (PySem.W.instObj C dx)
 ns:h.Ns1 dx mA
 ne:dx≠x
variable {dx:Addr} {mA:cG}
theorem OX(n:h.Ns1 dx mA):∃od,h.get? dx=some od∧∀name,PySem.W.lookIn name od=some (mA name):=by
 obtain ⟨o,es,ep,ho,hd,hk,_,hm⟩:=n;refine ⟨o,ho,fun name=>?_⟩;have e:=hm name;unfold nsFind findBy at e;rw [←Array.find?_toList] at e;unfold PySem.W.lookIn;rw [hd];dsimp only
 split
 ·rename_i y q
  rw [q] at e;exact gU some e
 ·rename_i q
  rw [q] at e;have a:es.toList.any (·.refKey)=false:=by rw [List.any_eq_false];intro y hy;obtain ⟨z,t,OY⟩:=hk y (Array.mem_toList_iff.mp hy);simp [DictEntry.refKey,OY]
  have a':¬es.toList.any (·.refKey)=true:=by rw [a];exact cW
  rw [ak a'];exact gU some e
variable {C:Addr}
theorem oZ.look{x:Addr}(I:oZ h x dx C mA):∃od,PySem.W.InstAt h x (PySem.W.instObj C dx) C (some od)∧∀name,PySem.W.lookIn name od=some (mA name):=
 let ⟨od,ho,hl⟩:=OX I.ns
 ⟨od,⟨I.obj,rfl,rfl,ho⟩,hl⟩
section
variable {prog:Program} {w:World} {A:Around} {E:aR} {s:Shared} {K:aD} {x dx C f:Addr} {mA:cG} {name:Str} {v:Value}
theorem get_map{expr:Bool}{Q:aR}(X:K.In s.heap)(I:oZ s.heap x dx C mA)(hg:PySem.W.plainGet K C name=true)(hh:PySem.W.hasDictIn K C=true)
  (ha:PySem.W.findIn K (.ref C) name=some none) (hv:mA name=some v) (gD:PySem.W.handedIn v=true) (h:Q v {s with toks:=s.toks+1}) :
  wpAny (model prog w) A (getAttr (.ref x) name expr) Q E s:=by
 obtain ⟨od,J,hl⟩:=I.look;exact PySem.W.get_value X J (PySem.W.plainGet_of hg).1 (PySem.W.findObj_own hh ha rfl (by rw [hl,hv])) gD h
theorem OZ{pl:Sem Bool}{Q:Value×List Value→Shared→Prop}(X:K.In s.heap)(I:oZ s.heap x dx C mA)(hg:PySem.W.plainGet K C name=true)
  (hf:PySem.W.findIn K (.ref C) name=some (some (.ref f))) (ht:PySem.W.isFn K (.ref f)=true) (hv:mA name=none) (h:Q (.ref f,[.ref x]) s) :
  wpAny (model prog w) A (getMethod (.ref x) name pl) Q E s:=by
 obtain ⟨od,J,hl⟩:=I.look;exact PySem.W.method_fn X J (PySem.W.plainGet_of hg).1 (PySem.W.plainGet_of hg).2 hf (kB.mp ht) (by show (PySem.W.lookIn name od).map (·.isSome)=some false;rw [hl,hv];rfl) h
theorem O0{ns:List Str}{Q:Unit→Shared→Prop}(X:K.In s.heap)(I:oZ s.heap x dx C mA)
  (hs:PySem.W.findIn K (.ref C) "__setattr__"=some (some (.builtin "object.__setattr__"))) (hp:PySem.W.plainOver K C=true) (ht:PySem.W.takerIn K C name=some none) (hh:PySem.W.hasDictIn K C=true)
  (hw:PySem.Within mA ns) (hsz:ns.length≤sizeLine)
  (h:∀h',oZ h' x dx C (fun y=>if y=name then some v else mA y)→Heap.SameBut dx s.heap h'→Q () {s with heap:=h',toks:=s.toks+2}) :
  wpAny (model prog w) A (setAttr (.ref x) name v) Q E s:=by
 obtain ⟨od,J,hl⟩:=I.look;refine PySem.W.set_plain X J hs (PySem.W.osa_open (s:={s with toks:=s.toks+1}) (r:=none) X J hp ht fun b=>?_);obtain ⟨cd,hc,B6⟩:=PySem.W.any_some hh;have hx:s.heap.get? x=some ⟨.ref C,some dx,.plain,#[]⟩:=I.obj;refine b9 (eG (b9 (b9 (wpAny_loadPart hx (b9 (PySem.W.Looks.here (s:={s with toks:=s.toks+1}) (PySem.W.looks_clsIn X hc) ?_))))));rw [B6];refine eG (a:=some dx) (b9 (eG (b9 ?_)));refine wpAny_nsSet1 (s:={s with toks:=s.toks+1}) I.ns fun h' sO kY=>?_;obtain ⟨oD,esD,epD,O1,O2,O3⟩:=sO.count (PySem.Within.cons name v hw);refine b9 (wpAny_lookBehind O1 (by rw [O2];exact pastItsLine_dict (a8 O3 (by rw [eK];lia))) ?_)
 exact eG (h _ ⟨(kY.2 _ (Ne.symm I.ne)).trans I.obj,sO,I.ne⟩ kY)
theorem O4{R:Result→Shared→Prop}{vs:List Value}{kw:List (Str×Value)}(X:K.In s.heap)(hm:PySem.W.makesIn K C=true)
  (hi:PySem.W.findIn K (.ref C) "__init__"=some (some (.ref f))) (hf:PySem.W.typeIn K (.ref f)=some (.type "function"))
  (h:codeAny (model prog w) (A.under (.builtin "type.__call__" ⟨.ref C::vs,kw⟩)) (.call (.ref f) ⟨.ref (s.heap.objs.size+1)::vs,kw⟩) (PySem.W.InitBack (s.heap.objs.size+1) R)
   {s with heap:=(s.heap.push PySem.W.emptyDict).push (PySem.W.instObj C s.heap.objs.size)}) :
  codeAny (model prog w) A (.call (.ref C) ⟨vs,kw⟩) R s:=by
 obtain ⟨hh,g,d,t,os⟩:=s;exact PySem.W.make_core (PySem.W.makes_of X hm) (yF X hi) (fun self=>PySem.W.bind_fn X self hf) (.inl rfl) h
end
def gE(f:Str)(v:V):List (Str×V)→List (Str×V)
 | []=>[(f,v)]
 | (g,x)::r=>if g=f then (g,v)::r else (g,x)::gE f v r
theorem Hs(f g:Str)(v:V):∀fs:List (Str×V),(gE f v fs).lookup g=if g=f then some v else fs.lookup g
 | []=>by
  show List.lookup g [(f,v)]=_;by_cases h:g=f
  ·have hb:(g == f)=true:=kB.mpr h
   simp only [List.lookup,hb,aq h]
  ·have hb:(g == f)=false:=r6.mpr h
   simp only [List.lookup,hb,ak h]
 | (k,x)::r=>by
  have ih:=Hs f g v r;rw [show gE f v ((k,x)::r)=(if k=f then (k,v)::r else (k,x)::gE f v r) from rfl]
  by_cases hk:k=f
  ·rw [aq hk]
   by_cases h:g=k
   ·have hb:(g == k)=true:=kB.mpr h
    simp only [List.lookup,hb,aq (h.trans hk)]
   ·have hb:(g == k)=false:=r6.mpr h
    simp only [List.lookup,hb,ak (fun e:g=f=>h (e.trans hk.symm))]
  ·rw [ak hk]
   by_cases h:g=k
   ·have hb:(g == k)=true:=kB.mpr h
    simp only [List.lookup,hb,ak (fun e:g=f=>hk (h.symm.trans e))]
   ·have hb:(g == k)=false:=r6.mpr h
    simp only [List.lookup,hb];exact ih
theorem Cw(f:Str)(v:V):∀fs:List (Str×V),f∈(gE f v fs).map (·.1)∧∀g,g∈fs.map (·.1)→g∈(gE f v fs).map (·.1)
 | []=>⟨by simp [gE],fun g h=>by simp at h⟩
 | (k,x)::r=>by
  obtain ⟨i1,i2⟩:=Cw f v r;rw [show gE f v ((k,x)::r)=(if k=f then (k,v)::r else (k,x)::gE f v r) from rfl]
  by_cases hk:k=f
  ·rw [aq hk]
   subst hk;exact ⟨by simp,fun g h=>by simpa using h⟩
  ·rw [ak hk]
   refine ⟨?_,fun g h=>?_⟩
   ·rw [cQ]
    exact gT _ i1
   ·rw [cQ] at h ⊢
    rcases cM.mp h with e | e;·exact cM.mpr (.inl e)
    ·exact gT _ (i2 g e)
theorem Ht(f:Str)(v:V):∀fs:List (Str×V),(gE f v fs).length≤fs.length+1
 | []=>by simp [gE]
 | (k,x)::r=>by
  have ih:=Ht f v r;rw [show gE f v ((k,x)::r)=(if k=f then (k,v)::r else (k,x)::gE f v r) from rfl]
  by_cases hk:k=f;·rw [aq hk,eK,eK];lia
  ·rw [ak hk,eK,eK];lia
variable {v:V}
theorem iS.some_of{o:Option Value}(r:iS (some v) o):∃u,o=some u∧RelV v u:=by
 cases o with
 | none=>exact (show False from r).elim
 | some u=>exact ⟨u,rfl,r⟩
theorem iS.none_of{o:Option Value}(r:iS none o):o=none:=by
 cases o with
 | none=>rfl
 | some u=>exact (show False from r).elim
theorem O5(r:RelV v u):PySem.W.handedIn u=true:=by
 cases v with
 | aF=>cases (show u=Value.none from r);rfl
 | bl b=>cases (show u=Value.bool b from r);rfl
 | int i=>obtain ⟨t,e⟩:=(show ∃t,u=Value.int i t from r);cases e;rfl
 | str x=>obtain ⟨t,e⟩:=(show ∃t,u=Value.str x t from r);cases e;rfl
 | jh b=>obtain ⟨t,e⟩:=(show ∃t,u=Value.bytes b t from r);cases e;rfl
 | oR b=>obtain ⟨t,e⟩:=(show ∃t,u=Value.float b t from r);cases e;rfl
 | ref a=>cases (show u=Value.ref a from r);rfl
 | ty n=>cases (show u=Value.type n from r);rfl
section
variable {P:Program} {w:World} {H H':Hp} {h h':Heap} {a C dx:Addr} {fs B3:List (Str×V)}
theorem ze(ay:bW P w H h)(e:H a=some (.ins C dx fs)):∃mA,oZ h a dx C mA∧(∀f,iS (fs.lookup f) (mA f))∧PySem.Within mA (fs.map (·.1))∧fs.length≤1000∧H dx=some (.own a):=by obtain ⟨d,z,ne,ob,mA,n,r,q⟩:=(show cy P w H h a (.ins C dx fs) from ay a _ e);exact ⟨mA,⟨ob,n,ne⟩,r,q,z,d⟩
end
structure jM (K:aD) (C:Addr):Prop where
 pg:PySem.W.plainGet K C Str.empty=true
 hd:PySem.W.hasDictIn K C=true
 po:PySem.W.plainOver K C=true
 sa:PySem.W.findIn K (.ref C) "__setattr__"=some (some (.builtin "object.__setattr__"))
theorem jM.get{K:aD}{C:Addr}(c:jM K C)(f:Str):PySem.W.plainGet K C f=true:=c.pg
def o9(K:aD)(C:Addr)(f:Str):Prop:=PySem.W.findIn K (.ref C) f=some none
theorem o9.O6{f:Str}(n:o9 K C f):PySem.W.takerIn K C f=some none:=by unfold PySem.W.takerIn;rw [show PySem.W.findIn K (.ref C) f=some none from n];rfl
structure Meth (K:aD) (C:Addr) (m:Str) (f:Addr):Prop where
 at_:PySem.W.findIn K (.ref C) m=some (some (.ref f))
 fn:PySem.W.isFn K (.ref f)=true
 kp:PySem.W.keepIn K (.ref f)=true
section
variable {X:Cx} {pins:aU} {σ:St} {H:Hp} {s:Shared} {a C dx:Addr} {fs:List (Str×V)} {f:Str} {v:V} {A:Around} {E:aR}
variable {Q:aR}
theorem O7{b:Bool}(I:Inv X pins σ H s)(e:H a=some (.ins C dx fs))(c:jM X.K C)(n:o9 X.K C f)(l:fs.lookup f=some v)
  (h:∀u s',Inv X pins σ H s'→RelV v u→Q u s'):wpAny (model X.prog X.w) A (getAttr (.ref a) f b) Q E s:=by
 obtain ⟨mA,O,r,_,_,_⟩:=ze I.ay e;obtain ⟨u,hu,ru⟩:=iS.some_of (v:=v) (o:=mA f) (by rw [←l];exact r f)
 exact get_map I.cS O (c.get f) c.hd n hu (O5 ru) (h u _ (I.tok _) ru)
theorem Hu{m:Str}{g:Addr}{pl:Sem Bool}{Q:Value×List Value→Shared→Prop}(I:Inv X pins σ H s)(e:H a=some (.ins C dx fs))(c:jM X.K C)(k:Meth X.K C m g)(l:fs.lookup m=none)
  (h:Q (.ref g,[.ref a]) s):wpAny (model X.prog X.w) A (getMethod (.ref a) m pl) Q E s:=by
 obtain ⟨mA,O,r,_,_,_⟩:=ze I.ay e;have hn:mA m=none:=iS.none_of (by rw [←l];exact r m)
 exact OZ I.cS O (c.get m) k.at_ k.fn hn h
theorem O8{y:V}{Q:Unit→Shared→Prop}(I:Inv X pins σ H s)(e:H a=some (.ins C dx fs))(c:jM X.K C)(n:o9 X.K C f)(hl:fs.length<1000)(ry:RelV y u)
  (h:∀s',Inv X pins σ (upd H a (.ins C dx (gE f y fs))) s'→Q () s'):wpAny (model X.prog X.w) A (setAttr (.ref a) f u) Q E s:=by
 obtain ⟨mA,O,r,wi,_,ho⟩:=ze I.ay e;have hz:(fs.map (·.1)).length≤sizeLine:=by rw [bg,sizeLine_eq];lia
 refine O0 I.cS O c.sa c.po n.O6 c.hd wi hz fun h' O' sb=>h _ ?_;have hd:∃o,h'.get? dx=some o:=let ⟨o,_,_,e',_⟩:=O'.ns;⟨o,e'⟩
 refine I.write (x:=a) (e:=dx) (by rw [e];exact True.intro) (.inr ho) (fun b q hb z=>(sb.2 b hb).trans z) hd ?_
 refine ⟨by rw [aO O.ne];exact ho,?_,O.ne,O'.obj,_,O'.ns,fun g=>?_,fun g hg=>?_⟩
 ·have:=Ht f y fs;lia
 ·show iS ((gE f y fs).lookup g) (if g=f then some u else mA g)
  rw [Hs];by_cases q:g=f;·rw [aq q,aq q];exact ry
  ·rw [ak q,ak q];exact r g
 ·by_cases q:g=f
  ·rw [q];exact (Cw f y fs).1
  ·refine (Cw f y fs).2 g (wi g fun z=>hg ?_)
   show (if g=f then some u else mA g)=none
   rw [ak q];exact z
theorem Inv.made(I:Inv X pins σ H s):Inv X pins σ (upd (upd H s.heap.objs.size (.own (s.heap.objs.size+1))) (s.heap.objs.size+1) (.ins C s.heap.objs.size []))
  {s with heap:=(s.heap.push PySem.W.emptyDict).push (PySem.W.instObj C s.heap.objs.size)}:=by
 have e1:(s.heap.push PySem.W.emptyDict).get? s.heap.objs.size=some PySem.W.emptyDict:=eJ s.heap rfl;have e2:((s.heap.push PySem.W.emptyDict).push (PySem.W.instObj C s.heap.objs.size)).get? (s.heap.objs.size+1)=some (PySem.W.instObj C s.heap.objs.size):=by
  have:=eJ (s.heap.push PySem.W.emptyDict) (o:=PySem.W.instObj C s.heap.objs.size) rfl
  rwa [Heap.size_push] at this
 have e3:(s.heap.push PySem.W.emptyDict).Ns s.heap.objs.size (fun _=>none):=⟨PySem.W.emptyDict,#[],_,e1,rfl,(fun e he=>absurd he (by simp)),fun _=>rfl⟩
 have I1:=I.laid (a:=s.heap.objs.size) (o:=.own (s.heap.objs.size+1)) (h':=s.heap.push PySem.W.emptyDict) (t':=s.toks) (fun b u q=>cu _ q) (aN _) ⟨_,e1⟩;refine I1.laid (a:=s.heap.objs.size+1) (o:=.ins C s.heap.objs.size []) (t':=s.toks) (fun b u q=>cu _ q) (Nat.le_of_eq (Heap.size_push _ _)) ?_;have ne:s.heap.objs.size≠s.heap.objs.size+1:=cV (yG _);refine ⟨by rw [aO ne,au],b_ _,ne,e2,fun _=>none,(Heap.Ns1.of_empty e3).at fun o q=>cu _ q,fun _=>True.intro,fun y hy=>absurd rfl hy⟩
theorem O9{prog:Program}{env:Env}{e:Expr}{pos:Pos}(hb:attributeBase e f env (eval e env)=eval e env)
  (h:wpAny (model prog w) A (eval e env) (fun o s₁=>wpAny (model prog w) A (getAttr o f true) Q E s₁) E s):wpAny (model prog w) A (eval (.Attribute e f pos) env) Q E s:=
 Attribute_any_ h (by rw [arm_eval_Attribute,hb])
end
def O_(K:aD)(ta:TE)(f:Str):TE:=fun σ H Q=>ta σ H fun x H1=>∃a C dx fs v,x=.ref a∧H1 a=some (.ins C dx fs)∧jM K C∧o9 K C f∧fs.lookup f=some v∧Q v H1
def Pa(K:aD)(ta tv:TE)(f:Str):TS:=fun D σ H=>tv σ H fun y H1=>ta σ H1 fun x H2=>∃a C dx fs,x=.ref a∧H2 a=some (.ins C dx fs)∧jM K C∧o9 K C f∧fs.length<1000 ∧
 D.nx σ (upd H2 a (.ins C dx (gE f y fs)))
section
variable {X:Cx} {o e value:Expr} {f:Str} {pos pos' zf:Pos} {ta tv:TE}
theorem k7(he:PE X e ta)(hb:attributeBase e f X.env (eval e X.env)=eval e X.env):PE X (.Attribute e f pos) (O_ X.K ta f):=by intro pins s σ H Q I h;refine O9 hb (aK (he pins s σ H _ I h) fun u s1 ⟨x,H1,I1,rx,a,C,dx,fs,v,ex,ea,c,n,l,q⟩=>?_);subst ex;obtain rfl:u=Value.ref a:=rx;exact O7 I1 ea c n l fun u' s2 I2 ru=>⟨v,H1,I2,ru,q⟩
theorem Hv(ha:PE X o ta)(hv:PE X value tv)(hs:swapsWith value (some (.Attribute o f pos')) pos.line X.env=pure false):PS X (.Assign [.Attribute o f pos'] value pos) (Pa X.K ta tv f):=by intro pins s σ H D I h;refine plainObj_wpAny_Assign_Attribute (aK (hv pins s σ H _ I h) fun u s1 ⟨y,H1,I1,ry,q⟩=>aK (ha pins s1 σ H1 _ I1 q) fun ov s2 ⟨x,H2,I2,rx,a,C,dx,fs,ex,ea,c,n,l,q2⟩=>?_) hs;subst ex;obtain rfl:ov=Value.ref a:=rx;exact O8 I2 ea c n l ry fun s3 I3=>⟨σ,_,I3,q2⟩
theorem ad_{pl:Sem Bool}{m:Str}{apos:Pos}{args:List Expr}{pins:aU}{Q:aR}{te:TE}(he:PE X e te)(I:Inv X pins σ H s)
  (h:te σ H fun x H1=>∃a C dx fs g,x=.ref a∧H1 a=some (.ins C dx fs)∧jM X.K C∧Meth X.K C m g∧fs.lookup m=none ∧
   ∀s1,Inv X pins σ H1 s1→wpAny (model X.prog X.w) X.A (callWith pos (.ref g) [.ref a] (backTo pos (starEach args X.env)) (backToKw pos (keywordEach [] X.env))) Q X.xe s1)
  (ht:eval (.Call (.Attribute e m apos) args [] pos) X.env=(do
   let ov ←eval e X.env
   standAt apos.atName
   let (f,first) ←holding [ov] (getMethod ov m pl)
   callWith pos f first (backTo pos (starEach args X.env)) (backToKw pos (keywordEach [] X.env)))) :
  wpAny (model X.prog X.w) X.A (eval (.Call (.Attribute e m apos) args [] pos) X.env) Q X.xe s:=by
 refine PySem.W.methodCall_KW (pl:=pl) (aK (he pins s σ H _ I h) fun u s1 ⟨x,H1,I1,rx,a,C,dx,fs,g,ex,ea,c,k,l,q⟩=>?_) ht
 subst ex
 obtain rfl:u=Value.ref a:=rx
 exact Hu I1 ea c k l (q s1 I1)
end
section
variable {X:Cx} {pins:aU} {σ:St} {H:Hp} {s:Shared} {A:Around} {E:aR} {Q:aR} {c:Value} {b:Bool}
inductive iW (K:aD) (H:Hp):V→Value→Prop where
 | aF:iW K H .aF (.type "NoneType")
 | bl (x:Bool):iW K H (.bl x) (.type "bool")
 | int (i:Int):iW K H (.int i) (.type "int")
 | str (x:Str):iW K H (.str x) (.type "str")
 | oR (x:UInt64):iW K H (.oR x) (.type "float")
 | lst {a:Addr} {xs:List V} (e:H a=some (.lst xs)):iW K H (.ref a) (.type "list")
 | cp {a:Addr} {o:Obj} {xs:List V} (e:H a=some (.cp o (.lst xs))):iW K H (.ref a) (.type "list")
 | tup {a:Addr} {xs:List V} (e:H a=some (.tup xs)):iW K H (.ref a) (.type "tuple")
 | dK {a:Addr} {ao:List (Key×V)} (e:H a=some (.dK ao)):iW K H (.ref a) (.type "dict")
 | dT {a:Addr} {ao:List (List Key×V)} (e:H a=some (.dT ao)):iW K H (.ref a) (.type "dict")
 | ins {a C dx:Addr} {fs:List (Str×V)} (e:H a=some (.ins C dx fs)) (cl:jM K C) (ha:PySem.W.findIn K (.ref C) "__class__"=some (some (.builtin "object.__class__")))
   (hn:PySem.W.specialIn K (.builtin "object.__class__") "__get__"=some (some (.builtin "getset_descriptor.__get__"))) (Hw:PySem.W.takesIn K (.builtin "object.__class__")=some true)
   (hm:PySem.W.mroIn K C (.type "object")=some true):iW K H (.ref a) (.ref C)
theorem Pb{t:Value}(I:Inv X pins σ H s)(rx:RelV x u)(ty:iW X.K H x t)(e:PySem.W.kitOne X.K t c=some b)(h:∀tk,Q (.bool b) {s with toks:=tk}) :
  wpAny (model X.prog X.w) A (call (.builtin "isinstance") [u,c]) Q E s:=by
 cases ty with
 | aF=>cases (show u=Value.none from rx);exact iP PySem.W.kitx_none I.cS True.intro e (fun z=>nomatch z) h
 | bl y=>cases (show u=Value.bool y from rx);exact iP PySem.W.kitx_bool I.cS True.intro e (fun z=>nomatch z) h
 | int i=>obtain ⟨t,q⟩:=(show ∃t,u=Value.int i t from rx);cases q;exact iP PySem.W.kitx_int I.cS True.intro e (fun z=>nomatch z) h
 | str y=>obtain ⟨t,q⟩:=(show ∃t,u=Value.str y t from rx);cases q;exact iP PySem.W.kitx_str I.cS True.intro e (fun z=>nomatch z) h
 | oR y=>obtain ⟨t,q⟩:=(show ∃t,u=Value.float y t from rx);cases q;exact iP PySem.W.kitx_float I.cS True.intro e (fun z=>nomatch z) h
 | @lst a xs ea=>cases (show u=Value.ref a from rx);obtain ⟨_,_,n,_,h1⟩:=(show cy X.prog X.w H s.heap a (.lst xs) from I.ay a _ ea);exact iP PySem.W.kitx_list I.cS ⟨_,h1,rfl⟩ e (fun z=>nomatch z) h
 | @cp a ob xs ea=>cases (show u=Value.ref a from rx);obtain ⟨_,_,_,n,_,h1⟩:=(show cy X.prog X.w H s.heap a (.cp ob (.lst xs)) from I.ay a _ ea);exact iP PySem.W.kitx_list I.cS ⟨_,h1,rfl⟩ e (fun z=>nomatch z) h
 | @tup a xs ea=>cases (show u=Value.ref a from rx);obtain ⟨_,_,_,p⟩:=(show cy X.prog X.w H s.heap a (.tup xs) from I.ay a _ ea);obtain ⟨o,h1,h2,_⟩:=p;exact iP PySem.W.kitx_tuple I.cS ⟨o,h1,h2⟩ e (fun z=>nomatch z) h
 | @dK a ao ea=>cases (show u=Value.ref a from rx);obtain ⟨_,_,vs,_,p⟩:=(show cy X.prog X.w H s.heap a (.dK ao) from I.ay a _ ea);obtain ⟨o,es,ep,h1,h2,_⟩:=p;exact iP PySem.W.kitx_dict I.cS ⟨o,h1,h2.1⟩ e (fun z=>nomatch z) h
 | @dT a ao ea=>cases (show u=Value.ref a from rx);obtain ⟨_,_,xs,_,o,es,ep,h1,h2,_⟩:=(show cy X.prog X.w H s.heap a (.dT ao) from I.ay a _ ea);exact iP PySem.W.kitx_dict I.cS ⟨o,h1,h2.1⟩ e (fun z=>nomatch z) h
 | @ins a C dx fs ea cl ha hn Hw hm=>cases (show u=Value.ref a from rx);obtain ⟨mA,O,_⟩:=ze I.ay ea;obtain ⟨od,J,_⟩:=O.look;exact iP (PySem.W.kitx_own (cl.get _) cl.hd ha hn Hw hm) I.cS J e (fun z=>nomatch z) h
end
structure cJ (k:Nat) (A:Around):Prop where
 hd:A.handled=none
 dp:A.depth+3*k+5<recursionLimit
 un:A.units+16*k+200<cLine
variable {k:Nat}
theorem cJ.mono{j:Nat}(r:cJ k A)(h:j≤k):cJ j A:=⟨r.hd,by have:=r.dp;lia,by have:=r.un;lia⟩
theorem cJ.deeper(r:cJ (k+1) A)(env:Env):cJ k (A.deeper env):=
 ⟨r.hd,by have:=r.dp;show A.depth+1+3*k+5<_;lia,by have:=r.un;show A.units+3+16*k+200<_;lia⟩
variable {kw:List (Str×Value)}
theorem Pc:(A.under (.builtin "type.__call__" ⟨.ref C::us,kw⟩)).depth=A.depth+1:=by first | rfl | simp [Around.under,Code.weight,Code.isCreation,Code.isGuard,Code.isCaller,Code.frames,Code.isFrame,guardIds]
theorem Pd:(A.under (.builtin "type.__call__" ⟨.ref C::us,kw⟩)).units=A.units+1:=by first | rfl | simp [Around.under,Code.cUnits,Code.frames,Code.isFrame]
theorem cJ.make(r:cJ (k+1) A)(C:Addr)(us:List Value)(kw:List (Str×Value)):cJ k (A.under (.builtin "type.__call__" ⟨.ref C::us,kw⟩)):=
 ⟨r.hd,by have:=r.dp;rw [Pc];lia,by have:=r.un;rw [Pd];lia⟩
theorem cJ.depth(r:cJ k A):A.depth<recursionLimit:=by have:=r.dp;lia
theorem cJ.units(r:cJ k A):A.units+64<cLine:=by have:=r.un;lia
theorem cJ.sP(r:cJ k A):A.units<cLine:=by have:=r.un;lia
def jN:TA:=fun _ H Q=>Q [] H
def lZ(ta:TE)(tr:TA):TA:=fun σ H Q=>ta σ H fun x H1=>tr σ H1 fun xs H2=>Q (x::xs) H2
section
variable {X:Cx} {e:Expr} {es:List Expr} {te:TE} {t:TA} {pos:Pos}
theorem af:PA X [] jN:=fun _ _ _ _ H Q I h=>Calls.spliced_nil ⟨[],H,I,.nil,h⟩
theorem Pe(ha:PE X e te)(hr:PA X es t)(hs:starEach (e::es) X.env=(false,eval e X.env)::starEach es X.env:=by rfl):PA X (e::es) (lZ te t):=by intro pos pins s σ H Q I h;rw [hs];show wpAny _ _ (spliced ((false,eval e X.env)::backTo pos (starEach es X.env))) _ _ s;refine Calls.spliced_cons (aK (ha pins s σ H _ I h) fun u s1 ⟨x,H1,I1,r1,q1⟩=>?_);exact aK (hr pos pins s1 σ H1 _ I1 q1) fun us s2 ⟨xs,H2,I2,r2,q2⟩=>⟨x::xs,H2,I2,.cons r1 r2,q2⟩
def Pf(t:TA):TE:=fun σ H Q=>t σ H fun xs H1=>xs.length≤sizeLine∧∀p,H1 p=none→Q (.ref p) (upd H1 p (.tup xs))
def xg(t:TA):TE:=fun σ H Q=>t σ H fun xs H1=>xs.length≤sizeLine∧∀p,H1 p=none→Q (.ref p) (upd H1 p (.lst xs))
theorem eZ{x1}(h:PA X es t):PE X (.Tuple es x1 pos) (Pf t):=by
 intro pins s σ H Q I hq;refine wpAny_Tuple_spliced (aK (h pos pins s σ H _ I hq) fun us s1 ⟨xs,H1,I1,r,z,q⟩=>⟨by rw [←r.length];exact z,?_⟩)
 have hf:H1 s1.heap.objs.size=none:=I1.ay.fresh (aN _);refine ⟨.ref s1.heap.objs.size,upd H1 s1.heap.objs.size (.tup xs),I1.laid (t':=s1.toks) (fun b u e=>cu _ e) (aN _) ?_,rfl,q _ hf⟩;exact ⟨z,us,r,⟨_,eJ _ rfl,rfl,_,rfl⟩⟩
theorem cC(h:PA X es t):PE X (.List es pos) (xg t):=by
 intro pins s σ H Q I hq;refine wpAny_List_spliced (aK (h pos pins s σ H _ I hq) fun us s1 ⟨xs,H1,I1,r,z,q⟩=>⟨by rw [←r.length];exact z,?_⟩)
 have hf:H1 s1.heap.objs.size=none:=I1.ay.fresh (aN _);refine ⟨.ref s1.heap.objs.size,upd H1 s1.heap.objs.size (.lst xs),I1.laid (t':=s1.toks) (fun b u e=>cu _ e) (aN _) ?_,rfl,q _ hf⟩;exact ⟨z,us,0,r,eJ _ rfl⟩
end
abbrev Sp:=List V→Hp→VK→XK→Prop
abbrev gZ:=List Env→Hp→Shared→XK→Value→Shared→Prop
structure o_ (P:Program) (w:World) (K:aD) (mg:cG) (base:Heap) (A:Around) (outer:List Env) (s:Shared) (H:Hp):Prop where
 frames:A.frames=some outer
 mod:Mod K mg base
 bs:∀b o,base.get? b=some o→s.heap.get? b=some o∧H b=none
 gA:base.objs.size≤s.heap.objs.size
 iT:s.heap.FunFrames base outer
 kL:∀b∈cf outer,H b=none
 ay:bW P w H s.heap
 bare:AllBare s.gens
def CE(outer:List Env)(P:Program)(w:World)(H:Hp)(s:Shared)(Q:VK)(u:Value)(s':Shared):Prop:=
 ∃v H',s'.os=s.os∧AllBare s'.gens∧Un (cf outer) [] H H' s.heap s'.heap∧bW P w H' s'.heap∧RelV v u∧Q v H'
def CR(CX:gZ)(outer:List Env)(P:Program)(w:World)(H:Hp)(s:Shared)(Q:VK)(E:XK)(r:Result)(s':Shared):Prop:=
 match r with
 | .ok (.ret u)=>CE outer P w H s Q u s'
 | .ok _=>False
 | .error e=>CX outer H s E e s'
structure aV (P:Program) (w:World) (K:aD) (mg:cG) (base:Heap) (CX:gZ) (k:Nat) (f:Addr) (fd:FuncData) (ps:List Str) (sp:Sp):Prop where
 len:∀vs H Q E,sp vs H Q E→vs.length=ps.length
 run:∀(A:Around) (outer:List Env) (s:Shared) (H:Hp) (args:Args) (us:List Value) (vs:List V) (Q:VK) (E:XK),cJ k A→o_ P w K mg base A outer s H→BindsTo s fd args (ps.zip us)→Vals vs us→sp vs H Q E→
  codeAny (model P w) A (.call (.ref f) args) (CR CX outer P w H s Q E) s
variable {mg:cG} {base:Heap} {outer:List Env}
theorem o_.make(e:o_ P w K mg base A outer s H)(C:Addr)(us:List Value)(kw:List (Str×Value)) :
  o_ P w K mg base (A.under (.builtin "type.__call__" ⟨.ref C::us,kw⟩)) outer s H:=⟨by first | exact e.frames | (simpa [Around.under,Code.envs,Code.isFrame,pushEnvs] using e.frames),e.mod,e.bs,e.gA,e.iT,e.kL,e.ay,e.bare⟩
section
variable {X:Cx} {pins:aU} {σ:St} {H:Hp} {s s':Shared}
theorem Inv.Cy(I:Inv X pins σ H s):o_ X.prog X.w X.K X.mg X.base X.A X.stack s H:=
 ⟨I.ok.frames,I.ok.mod,I.bs,a8 I.ok.gA I.sz,I.stack,I.sA,I.ay,I.bare⟩
theorem Inv.after{Q:VK}(I:Inv X pins σ H s)(h:CE X.stack X.prog X.w H s Q u s'):EP X pins σ Q u s':=by obtain ⟨v,H',os,bare,un,ay,r,q⟩:=h;obtain ⟨hh,g,d,t,Pg⟩:=s';obtain rfl:Pg=s.os:=os;exact ⟨v,H',I.call (h':=hh) (g':=g) (d':=d) (t':=t) (ch:=[]) un ay bare (fun b z=>absurd z (by simp)),r,q⟩
end
def Hz(sp:Sp)(cY:List V)(E:XK)(t:TA):TE:=fun σ H Q=>t σ H fun vs H1=>sp (vs++cY) H1 Q E
def Ph(C:Addr)(m:Str)(sp:Sp)(cY:List V)(E:XK)(ta:TE)(t:TA):TE:=fun σ H Q=>ta σ H fun x H1=>∃a dx fs,x=.ref a∧H1 a=some (.ins C dx fs)∧fs.lookup m=none ∧
 t σ H1 fun vs H2=>sp (x::(vs++cY)) H2 Q E
def Pj(C:Addr)(sp:Sp)(cY:List V)(E:XK)(t:TA):TE:=fun σ H Q=>t σ H fun vs H1=>∀x dx,H1 x=none→H1 dx=none→dx≠x→
 sp (.ref x::(vs++cY)) (upd (upd H1 dx (.own x)) x (.ins C dx [])) (fun v H2=>v=.aF∧Q (.ref x) H2) E
def Binds(K:aD)(fd:FuncData)(ps:List Str)(ds:List Value):Prop:=
 ∀(s:Shared) (us:List Value),K.In s.heap→(us++ds).length=ps.length→BindsTo s fd ⟨us,[]⟩ (ps.zip (us++ds))
variable {ps:List Str}
theorem Binds.all{fd:FuncData}(h:∀us:List Value,us.length=ps.length→bindArgs fd ⟨us,[]⟩=pure (ps.zip us)):Binds K fd ps []:=fun s us _ hl=>by rw [yH] at hl ⊢;exact .of_eq (h us hl)
def Passes(CX:gZ)(X:Cx)(E:XK):Prop:=∀(pins:aU) (σ:St) (H:Hp) (s:Shared) (e:Value) (s':Shared),Inv X pins σ H s→CX X.stack H s E e s'→X.xe e s'
section
variable {X:Cx} {CX:gZ} {k:Nat} {f C:Addr} {fd:FuncData} {ps:List Str} {sp:Sp} {cY:List V} {ds:List Value} {E:XK} {x m:Str} {p pos apos:Pos} {e o:Expr} {es:List Expr} {ta:TE} {t:TA}
variable {pins:aU} {Q:VK}
theorem HA{vs:List V}(F:aV X.prog X.w X.K X.mg X.base CX k f fd ps sp)(hr:cJ k X.A)(hb:Binds X.K fd ps ds)(hd:Vals cY ds)(hx:Passes CX X E)
  (I:Inv X pins σ H s) (r:Vals vs us) (h:sp (vs++cY) H Q E):wpAny (model X.prog X.w) X.A (call (.ref f) us) (EP X pins σ Q) X.xe s:=by
 have r2:Vals (vs++cY) (us++ds):=r.append hd;have hl:(us++ds).length=ps.length:=by rw [←r2.length];exact F.len _ _ _ _ h
 refine wpAny_call (wH (F.run X.A X.stack s H ⟨us,[]⟩ (us++ds) (vs++cY) Q E hr I.Cy (hb s us I.cS hl) r2 h) fun r s' hq=>?_);cases r with
 | error e=>exact hx pins σ H s e s' I hq
 | ok fl=>
  cases fl with
  | ret u=>exact I.after hq
  | next=>exact False.elim hq
  | brk=>exact False.elim hq
  | cont=>exact False.elim hq
theorem d9(F:aV X.prog X.w X.K X.mg X.base CX k f fd ps sp)(hr:cJ k X.A)(hg:Gl X x)(hm:X.mg x=some (.ref f))(hk:PySem.W.keepIn X.K (.ref f)=true)(hb:Binds X.K fd ps ds)(hd:Vals cY ds)(hx:Passes CX X E)
  (ha:PA X (e::es) t) (jO:(x == ("__debug__":Str))=false:=by decide) (he:starEach (e::es) X.env=(false,eval e X.env)::starEach es X.env:=by rfl) (iB:(backTo pos (starEach es X.env)).any (·.1)=false:=by rfl) :
  PE X (.Call (.Name x p) (e::es) [] pos) (Hz sp cY E t):=by
 intro pins s σ H Q I h;refine wI (sD I hg hm ?_ jO);refine yI (h₀:=X.base) I.ok.mod.cH hk (aK (ha pos pins s σ H _ I h) fun us s1 ⟨vs,H1,I1,r,q⟩=>⟨I1.cS,?_⟩) he iB;exact HA F hr hb hd hx I1 r q
theorem aW{j:Nat}(F:aV X.prog X.w X.K X.mg X.base CX k f fd ps sp)(hr:cJ j X.A)(hm:X.mg x=some (.ref f))(hk:PySem.W.keepIn X.K (.ref f)=true)(hb:Binds X.K fd ps [])(hx:Passes CX X E)
  (ha:PA X (e::es) t) (hj:k≤j:=by decide) (hg:Gl X x:=by exact rfl) (jO:(x == ("__debug__":Str))=false:=by decide) (he:starEach (e::es) X.env=(false,eval e X.env)::starEach es X.env:=by rfl) (iB:(backTo pos (starEach es X.env)).any (·.1)=false:=by rfl) :
  PE X (.Call (.Name x p) (e::es) [] pos) (Hz sp [] E t):=d9 F (hr.mono hj) hg hm hk hb .nil hx ha jO he iB
theorem g6{pl:Sem Bool}(he:PE X o ta)(c:jM X.K C)(hm:Meth X.K C m f)(F:aV X.prog X.w X.K X.mg X.base CX k f fd ps sp)(hr:cJ k X.A)(hb:Binds X.K fd ps ds)(hd:Vals cY ds)(hx:Passes CX X E)(ha:PA X (e::es) t)
  (Cn:starEach (e::es) X.env=(false,eval e X.env)::starEach es X.env:=by rfl) (iB:(backTo pos (starEach es X.env)).any (·.1)=false:=by rfl)
  (ht:eval (.Call (.Attribute o m apos) (e::es) [] pos) X.env=(do
   let ov ←eval o X.env
   standAt apos.atName
   let (f,first) ←holding [ov] (getMethod ov m pl)
   callWith pos f first (backTo pos (starEach (e::es) X.env)) (backToKw pos (keywordEach [] X.env))):=by rfl) :
  PE X (.Call (.Attribute o m apos) (e::es) [] pos) (Ph C m sp cY E ta t):=by
 intro pins s σ H Q I h
 refine PySem.W.methodCall_KW (pl:=pl) (aK (he pins s σ H _ I h) fun u s1 ⟨x,H1,I1,rx,a,dx,fs,ex,ea,l,q⟩=>?_) ht
 subst ex
 obtain rfl:u=Value.ref a:=rx
 refine Hu I1 ea c hm l ?_
 refine yI (first:=[.ref a]) (h₀:=X.base) I.ok.mod.cH hm.kp (aK (ha pos pins s1 σ H1 _ I1 q) fun us s2 ⟨vs,H2,I2,r,q2⟩=>⟨I2.cS,?_⟩) Cn iB
 exact HA (us:=.ref a::us) (vs:=.ref a::vs) F hr hb hd hx I2 (.cons rfl r) q2
structure Mk (K:aD) (C f:Addr):Prop where
 makes:PySem.W.makesIn K C=true
 init:PySem.W.findIn K (.ref C) "__init__"=some (some (.ref f))
 fn:PySem.W.isFn K (.ref f)=true
 kp:PySem.W.keepIn K (.ref C)=true
theorem Pk{vs:List V}(M:Mk X.K C f)(F:aV X.prog X.w X.K X.mg X.base CX k f fd ps sp)(hr:cJ (k+1) X.A)(hb:Binds X.K fd ps ds)(hd:Vals cY ds)
  (hx:Passes CX X E) (I:Inv X pins σ H s) (r:Vals vs us)
  (h:∀x dx,H x=none→H dx=none→dx≠x→sp (.ref x::(vs++cY)) (upd (upd H dx (.own x)) x (.ins C dx [])) (fun v H2=>v=.aF∧Q (.ref x) H2) E) :
  wpAny (model X.prog X.w) X.A (call (.ref C) us) (EP X pins σ Q) X.xe s:=by
 have hq:=h (s.heap.objs.size+1) s.heap.objs.size (I.ay.fresh (Nat.le_succ _)) (I.ay.fresh (aN _)) (cV (yG _));have I2:=Inv.made (C:=C) I;have r2:Vals (V.ref (s.heap.objs.size+1)::(vs++cY)) (Value.ref (s.heap.objs.size+1)::(us++ds)):=.cons rfl (r.append hd);have hl:(Value.ref (s.heap.objs.size+1)::us++ds).length=ps.length:=by have e:=r2.length;rw [F.len _ _ _ _ hq] at e;exact e.symm
 refine wpAny_call (O4 (f:=f) I.cS M.makes M.init (kB.mp M.fn) (wH (F.run _ X.stack _ _ ⟨Value.ref (s.heap.objs.size+1)::us,[]⟩ (Value.ref (s.heap.objs.size+1)::(us++ds)) _ _ E (hr.make C us [])
  (I2.Cy.make C us []) (hb _ (Value.ref (s.heap.objs.size+1)::us) I2.cS hl) r2 hq) fun r s' eR=>?_))
 cases r with
 | error e=>exact hx pins σ _ _ e s' I2 eR
 | ok fl=>
  cases fl with
  | ret u=>obtain ⟨v,H',I3,rv,ev,q3⟩:=I2.after eR;subst ev;exact ⟨rv,⟨V.ref (s.heap.objs.size+1),H',I3,rfl,q3⟩⟩
  | next=>exact False.elim eR
  | brk=>exact False.elim eR
  | cont=>exact False.elim eR
theorem Pl(M:Mk X.K C f)(F:aV X.prog X.w X.K X.mg X.base CX k f fd ps sp)(hr:cJ (k+1) X.A)(hg:Gl X x)(hm:X.mg x=some (.ref C))(hb:Binds X.K fd ps ds)(hd:Vals cY ds)(hx:Passes CX X E)
  (ha:PA X (e::es) t) (jO:(x == ("__debug__":Str))=false:=by decide) (he:starEach (e::es) X.env=(false,eval e X.env)::starEach es X.env:=by rfl) (iB:(backTo pos (starEach es X.env)).any (·.1)=false:=by rfl) :
  PE X (.Call (.Name x p) (e::es) [] pos) (Pj C sp cY E t):=by
 intro pins s σ H Q I h;refine wI (sD I hg hm ?_ jO);refine yI (h₀:=X.base) I.ok.mod.cH M.kp (aK (ha pos pins s σ H _ I h) fun us s1 ⟨vs,H1,I1,r,q⟩=>⟨I1.cS,?_⟩) he iB;exact Pk M F hr hb hd hx I1 r q
end
section
variable {X:Cx} {CX:gZ} {k:Nat} {f C:Addr} {fd:FuncData} {ps ks:List Str} {sp:Sp} {E:XK} {x m:Str} {p pos apos HB:Pos} {e o:Expr} {es:List Expr} {Pm:List Keyword} {te ta:TE} {t tk:TA} {nm:Option Str}
variable {g:List Value→List Value→List Value} {gV:List V→List V→List V}
end
structure ba (N P:List Str) (sc:Scope):Prop where
 kind:sc.kind=.function
 co:sc.isCoroutine=false
 gen:sc.isGenerator=false
 nd:N.Nodup
 pre:N.take P.length=P
 par:∀x∈P,sc.names.lookup x=some .local∨sc.names.lookup x=some .cell
 Pn:∀y∈sc.names,y.2≠.free
variable {N:List Str} {sc:Scope}
theorem bF{P:List Str}(h1:sc.kind=.function:=by rfl)(h2:sc.isCoroutine=false:=by rfl)(h3:sc.isGenerator=false:=by rfl)(h4:N.Nodup:=by decide +kernel)(h5:N.take P.length=P:=by rfl)(h6:∀x∈P,sc.names.lookup x=some .local∨sc.names.lookup x=some .cell:=by decide +kernel)(h7:∀y∈sc.names,y.2≠.free:=by decide +kernel):ba N P sc:=⟨h1,h2,h3,h4,h5,h6,h7⟩
theorem HC{kindOf:Str→Option NameKind}{x:Str}:∀{binds:List (Str×Value)} {m:cG},(∀v,(x,v)∉binds)→bindL kindOf binds m x=m x
 | [],_,_=>rfl
 | (n,v)::r,m,h=>by
  unfold bindL;rw [HC fun w hw=>h w (gT _ hw)]
  split
  ·have:x≠n:=by rintro rfl;exact h v kA
   simp [this]
  ·rfl
theorem HD{kindOf:Str→Option NameKind}{x:Str}:∀{binds:List (Str×Value)} {m:cG},(∀v,(x,v)∉binds)→bindC kindOf binds m x=m x
 | [],_,_=>rfl
 | (n,v)::r,m,h=>by
  unfold bindC;rw [HD fun w hw=>h w (gT _ hw)]
  split
  ·rfl
  ·have:x≠n:=by rintro rfl;exact h v kA
   simp [this]
theorem HE{kindOf:Str→Option NameKind}{x:Str}{v:Value}:∀{P:List Str} {vs:List Value} {i:Nat} {m:cG},P.Nodup→P[i]?=some x→vs[i]?=some v→kindOf x=some .local→
  bindL kindOf (P.zip vs) m x=some v
 | [],_,_,_,_,h,_,_=>by simp at h
 | _::_,[],_,_,_,_,h,_=>by simp at h
 | p::P,w::vs,0,m,nd,h1,h2,hk=>by simp at h1 h2;subst h1;subst h2;show bindL kindOf ((p,w)::P.zip vs) m p=_;unfold bindL;rw [HC fun v hv=>(jC.mp nd).1 (List.of_mem_zip hv).1,aq hk];simp
 | p::P,w::vs,i+1,m,nd,h1,h2,hk=>by show bindL kindOf ((p,w)::P.zip vs) m x=_;unfold bindL;exact HE (i:=i) (jC.mp nd).2 (by simpa using h1) (by simpa using h2) hk
theorem HF{kindOf:Str→Option NameKind}{x:Str}{v:Value}:∀{P:List Str} {vs:List Value} {i:Nat} {m:cG},P.Nodup→P[i]?=some x→vs[i]?=some v→kindOf x≠some .local→
  bindC kindOf (P.zip vs) m x=some v
 | [],_,_,_,_,h,_,_=>by simp at h
 | _::_,[],_,_,_,_,h,_=>by simp at h
 | p::P,w::vs,0,m,nd,h1,h2,hk=>by simp at h1 h2;subst h1;subst h2;show bindC kindOf ((p,w)::P.zip vs) m p=_;unfold bindC;rw [HD fun v hv=>(jC.mp nd).1 (List.of_mem_zip hv).1,ak hk];simp
 | p::P,w::vs,i+1,m,nd,h1,h2,hk=>by show bindC kindOf ((p,w)::P.zip vs) m x=_;unfold bindC;exact HF (i:=i) (jC.mp nd).2 (by simpa using h1) (by simpa using h2) hk
def start(N:List Str)(vs:List V):St:=vs.map some++List.replicate (N.length-vs.length) none
def iX(CX:gZ)(P:Program)(w:World)(K:aD)(mg:cG)(base:Heap)(N:List Str)(qual:Str)(scope:Scope)(f:Addr)(cd:Value)(A:Around)(outer:List Env)(s:Shared)(H:Hp)(E:XK):Cx where
 prog:=P
 w:=w
 K:=K
 mg:=mg
 base:=base
 A:=A.deeper (envOfC qual scope s.heap.objs.size f cd)
 N:=N
 s₀:=s
 H₀:=H
 env:=envOfC qual scope s.heap.objs.size f cd
 outer:=outer
 stack:=envOfC qual scope s.heap.objs.size f cd::outer
 ex:=[]
 calm:=true
 fn:=fun _=>true
 pn:=[]
 xe:=fun e s'=>wpAny (model P w) (A.deeper (envOfC qual scope s.heap.objs.size f cd)) (leaving (envOfC qual scope s.heap.objs.size f cd) e) (fun _ iY=>CX outer H s E e iY) (fun e' iY=>CX outer H s E e' iY) s'
theorem HG{x:Str}(h:sc.names.lookup x=some .cell):∃c,(cellsFrom n sc.names []).lookup x=some c:=by have q:=PySem.W.cellsFrom_some sc.names n [] (.inl h);exact Option.isSome_iff_exists.mp q
variable {CX:gZ} {qual:Str} {scope:Scope} {f:Addr}
theorem Po{cd:Value}{s1:Shared}{E:XK}{vs:List V}
  (S:ba N ps scope) (hd:A.handled=none) (e0:o_ P w K mg base A outer s H) (hl:vs.length=ps.length) (r:Vals vs us)
  (x:InCallC s s.heap.objs.size (bindL (envOfC qual scope s.heap.objs.size f cd).kindOf (ps.zip us) fun _=>none) (cellsFrom (s.heap.objs.size+1) scope.names []) (bindC (envOfC qual scope s.heap.objs.size f cd).kindOf (ps.zip us) fun _=>none) s1) :
  Inv (iX CX P w K mg base N qual scope f cd A outer s H E) [] (start N vs) H s1:=by
 have iB:ps.length≤N.length:=by have:=gU List.length S.pre;rw [jc] at this;lia
 obtain ⟨h1,tk,rfl,hk⟩:=x.done;have xh:∀b:Addr,b∉(iX CX P w K mg base N qual scope f cd A outer s H E).ex:=fun b z=>absurd (show b∈([]:List Addr) from z) (by simp)
 refine ⟨⟨e0.mod,S.kind,rfl,rfl,aN _,fun y z c h1 h2=>?_,fun y hy=>?_,fun y c _ h=>?_,fun _=>hd,Around.frames_deeper e0.frames,.inr ⟨rfl,rfl⟩,fun b z=>absurd z (xh b),e0.bs,e0.gA,fun b _ _=>xh b,fun b z=>absurd z (xh b),e0.iT,e0.kL⟩,
  rfl,e0.bare,Un.kept hk,⟨_,x.toInCall.ns,fun i y v h1 h2 h3=>?_⟩,fun y c h=>⟨_,x.cell y c h⟩,e0.ay.fresh (aN _),fun y c h=>?_,fun p hp=>absurd (show p∈([]:aU) from hp) (by simp),e0.ay.kept hk,?_⟩
 ·exact name_of_addr x.apart (kC h1) (kC h2)
 ·have hy:scope.names.lookup y=some .cell∨scope.names.lookup y=some .free:=hy
  rcases hy with hy | hy;·exact HG hy
  ·exact absurd rfl (S.Pn _ (kC hy))
 ·exact Nat.le_of_lt (x.above y c (kC h))
 ·have hi:i<vs.length:=by
   unfold start at h2;by_cases hi:i<vs.length;·exact hi
   ·rw [mH (by simpa using hi)] at h2
    rw [List.getElem?_replicate] at h2
    split at h2 <;> cases h2
  have ha:vs[i]?=some v:=by
   unfold start at h2;rw [mI (by simpa using hi),cw] at h2
   cases e:vs[i]? with
   | none=>rw [e] at h2;cases h2
   | some a=>rw [e] at h2;cases h2;rfl
  obtain ⟨u,hu,rv⟩:=r.get ha;have hp:ps[i]?=some y:=by rw [←S.pre,List.getElem?_take_of_lt (by lia)];exact h1
  have HH:ps.Nodup:=by rw [←S.pre];exact S.nd.sublist (yJ _ _)
  refine ⟨u,rv,?_⟩;rcases S.par y (gv hp) with k | k;·exact .inl ⟨k,HE HH hp hu k⟩
  ·obtain ⟨c,e⟩:=HG (n:=s.heap.objs.size+1) k
   refine .inr ⟨.inl k,c,e,?_⟩;have q:=x.cell y c e;rw [HF HH hp hu (by show scope.names.lookup y≠_;rw [k];decide)] at q
   exact q
 ·exact e0.ay.fresh (Nat.le_of_lt (x.above y c (kC h)))
 ·unfold start
  show _=N.length;rw [cR,bg,List.length_replicate];lia
theorem Cz{name:Str}{params:Arguments}{body:List Stmt}{dV kV doc pm aZ ct oc:Value}{an od:Option Addr}
  {fA:Array (Option Value)} {sp:Sp} (lk:K.lookup f=some ⟨oc,od,.func (PySem.W.fnOf name qual params body scope dV kV doc pm an aZ ct),fA⟩) (fq:PySem.W.codeIn K aZ qual=true) (S:ba N ps scope)
  (len:∀vs H Q E,sp vs H Q E→vs.length=ps.length)
  (jP:∀(A:Around) (outer:List Env) (s:Shared) (H:Hp) (vs:List V) (Q:VK) (E:XK),cJ k (A.deeper (envOfC qual scope s.heap.objs.size f aZ))→sp vs H Q E→
   ∃t,dN (iX CX P w K mg base N qual scope f aZ A outer s H E) body t∧t {nx:=fun _ H'=>Q .aF H',rt:=Q} (start N vs) H) :
  aV P w K mg base CX (k+1) f (PySem.W.fnOf name qual params body scope dV kV doc pm an aZ ct) ps sp:=by
 refine ⟨len,fun A outer s H args us vs Q E hr e0 hb r jn=>?_⟩;have hl:=len _ _ _ _ jn;have KX:K.In s.heap:=e0.mod.cH.keeps fun b o e=>(e0.bs b o e).1;have lim:s.heap.NoLimit:=e0.mod.nolimit.keeps fun b o e=>(e0.bs b o e).1;have Pp:∀y∈ps.zip us,scope.names.lookup y.1=some .local∨(scope.names.lookup y.1=some .cell∧((cellsFrom (s.heap.objs.size+1) scope.names []).lookup y.1).isSome=true):=fun⟨n,v⟩ hy=>by
  rcases S.par n (List.of_mem_zip hy).1 with q | q;·exact .inl q
  ·exact .inr ⟨q,PySem.W.cellsFrom_some _ _ _ (.inl q)⟩
 refine codeAny_call_function hr.depth (KX _ _ lk) rfl S.co S.gen rfl (PySem.W.codeRec_of KX fq) (hb _ _ _ _ ?_);refine wpAny_newFunctionEnv_cells S.kind Pp fun env he s1 x=>?_;subst he;refine ⟨lim.keeps x.toInCall.keep,codeAny_func ?_⟩;obtain ⟨t,ht,hq⟩:=jP A outer s H vs Q E (hr.deeper _) jn;have I:Inv (iX CX P w K mg base N qual scope f aZ A outer s H E) [] (start N vs) H s1:=Po S hr.hd e0 hl r x;refine bM (ht [] s1 (start N vs) H _ I hq) (fun fl s' hs=>?_) fun e s' hs=>hs;have fin:∀{σ':St} {H':Hp} {v:V} {u:Value},Inv (iX CX P w K mg base N qual scope f aZ A outer s H E) [] σ' H' s'→RelV v u→Q v H'→CE outer P w H s Q u s':=
  fun{σ' H' v u} J rv q=>⟨v,H',J.os,J.bare,J.base,J.ay,rv,q⟩
 cases fl with
 | ret u=>obtain ⟨v,σ',H',J,rv,q⟩:=hs;exact fin J rv q
 | next=>obtain ⟨σ',H',J,q⟩:=hs;exact fin (v:=V.aF) (u:=Value.none) J rfl q
 | brk=>obtain ⟨_,_,_,q⟩:=hs;exact False.elim q
 | cont=>obtain ⟨_,_,_,q⟩:=hs;exact False.elim q
section
variable {X:Cx} {x:Str} {p pos:Pos} {e:Expr} {es:List Expr} {t:TA} {id T:String} {r:List V→Hp→VK→Prop}
def zg(r:List V→Hp→VK→Prop)(t:TA):TE:=fun σ H Q=>t σ H fun vs H1=>r vs H1 Q
theorem bR(hc:fN X (.builtin id) r)(hg:Gl X x)(hm:X.mg x=none)(hv:bootBuiltins x=some (.builtin id))(ha:PA X (e::es) t)(hn:x ≠ "__name__":=by decide)(jO:(x == ("__debug__":Str))=false:=by decide)
  (he:starEach (e::es) X.env=(false,eval e X.env)::starEach es X.env:=by rfl) (iB:(backTo pos (starEach es X.env)).any (·.1)=false:=by rfl):PE X (.Call (.Name x p) (e::es) [] pos) (zg r t):=by
 intro pins s σ H Q I h;refine wI (mU I hg hm hv ?_ hn jO);exact PyProof.Rows.callWith_builtin1 (aK (ha pos pins s σ H _ I h) fun us s1 ⟨vs,H1,I1,r1,q1⟩=>hc pins s1 σ H1 vs us Q I1 r1 q1) he iB
theorem m7(hc:fN X (.type T) r)(hg:Gl X x)(hm:X.mg x=none)(hv:bootBuiltins x=some (.type T))(ha:PA X (e::es) t)(hn:x ≠ "__name__":=by decide)(jO:(x == ("__debug__":Str))=false:=by decide)
  (he:starEach (e::es) X.env=(false,eval e X.env)::starEach es X.env:=by rfl) (iB:(backTo pos (starEach es X.env)).any (·.1)=false:=by rfl):PE X (.Call (.Name x p) (e::es) [] pos) (zg r t):=by
 intro pins s σ H Q I h;refine wI (mU I hg hm hv ?_ hn jO);exact r_ (aK (ha pos pins s σ H _ I h) fun us s1 ⟨vs,H1,I1,r1,q1⟩=>hc pins s1 σ H1 vs us Q I1 r1 q1) he iB
end
end L2
namespace HT
open PySem PyProof.Rows
section
open PySem.SeqAt
open PySem.AutoSeq1 (wpAny_loadPart')
open PySem.MeetsSeq PySem.MeetsSeq2 PySem.MeetsSeq3
end
section
variable {prog:Program} {w:World} {A:Around} {E:aR} {s:Shared}
def d_(n d:Nat):Option Int→Nat
 | none=>d
 | some v=>if v<0 then (v+(n:Int)).toNat else min v.toNat n
theorem HI(n d:Nat):d_ n d none=d:=rfl
theorem HJ(n d k:Nat):d_ n d (some (k:Int))=min k n:=by
 show (if (k:Int)<0 then ((k:Int)+(n:Int)).toNat else min (k:Int).toNat n)=min k n
 rw [ak (by lia),fg]
end
end HT
namespace L2
open PySem PySem.Spec PyProof.Rows
abbrev TO:=St→Hp→(Option Int→Hp→Prop)→Prop
def PO(X:Cx)(e:Option Expr)(t:TO):Prop:=
 ∀(pins:aU) (s:Shared) (σ:St) (H:Hp) (Q:Option Int→Hp→Prop),Inv X pins σ H s→t σ H Q→
  wpAny (model X.prog X.w) X.A (evalPart e X.env) (fun u s'=>∃o H',Inv X pins σ H' s'∧IsPart u o∧Q o H') X.xe s
def sQ:TO:=fun _ H Q=>Q none H
def Pq(t:TE):TO:=fun σ H Q=>t σ H fun x H1=>∃i,x=.int i∧Q (some i) H1
theorem intsAre_of{ns:List Int}:∀{us:List Value},Vals (ns.map V.int) us→IntsAre us ns:=by
 induction ns with
 | nil=>intro us r;rw [List.map_nil] at r;cases r;exact .nil
 | cons n ns ih=>
  intro us r;rw [cQ] at r;cases r with
  | cons r1 r2=>obtain ⟨t,e⟩:=r1;subst e;exact .cons n t (ih r2)
section
variable {X:Cx} {e:Expr} {te:TE} {lo hi:Option Expr} {tl th:TO} {pos p2:Pos}
theorem gF:PO X none sQ:=by intro pins s σ H Q I h;rw [evalPart_none];exact eG ⟨none,H,I,.none,h⟩
theorem gG(h:PE X e te):PO X (some e) (Pq te):=by intro pins s σ H Q I hw;rw [evalPart_some];refine aK (h pins s σ H _ I hw) fun u s1 ⟨x,H1,I1,r1,q1⟩=>?_;obtain ⟨i,rfl,q⟩:=q1;obtain ⟨t,rfl⟩:=r1;exact ⟨some i,H1,I1,.int i t,q⟩
def CA(X:Cx)(r:V→Option Int→Option Int→Hp→VK→Prop):Prop:=
 ∀(pins:aU) (s:Shared) (σ:St) (H:Hp) (x:V) (v vl vu:Value) (lo hi:Option Int) (sl:Addr) (Q:VK),Inv X pins σ H s→RelV x v→s.heap.IsSliceOf sl vl vu .none→IsPart vl lo→IsPart vu hi→r x lo hi H Q→
  ∃T id,typeLookup (.type T) "__getitem__"=pure (some (.builtin id))∧s.TypeIs v T∧wpAny (model X.prog X.w) X.A (getItem v (.ref sl)) (EP X pins σ Q) X.xe s
def pb(r:V→Option Int→Option Int→Hp→VK→Prop)(te:TE)(tl th:TO):TE:=fun σ H Q=>te σ H fun x H1=>tl σ H1 fun l H2=>th σ H2 fun u H3=>r x l u H3 Q
theorem gH{r:V→Option Int→Option Int→Hp→VK→Prop}(hr:CA X r)(he:PE X e te)(hl:PO X lo tl)(hu:PO X hi th):PE X (.Subscript e (.Slice lo hi none p2) pos) (pb r te tl th):=by intro pins s σ H Q I h;refine Subscript_ (aK (he pins s σ H _ I h) fun v s1 ⟨x,H1,I1,r1,q1⟩=>?_);refine wpAny_Slice (aK (hl pins s1 σ H1 _ I1 q1) fun vl s2 ⟨l,H2,I2,pl,q2⟩=>aK (hu pins s2 σ H2 _ I2 q2) fun vu s3 ⟨u,H3,I3,pu,q3⟩=>?_);rw [evalPart_none];refine eG ?_;have I4:Inv X pins σ H3 {s3 with heap:=s3.heap.push {cls:=.type "slice",data:=.fields #[vl,vu,.none]}}:=I3.kept (t':=s3.toks) fun b ob q=>cu _ q;obtain ⟨T,id,hT,ht,hg⟩:=hr pins {s3 with heap:=s3.heap.push {cls:=.type "slice",data:=.fields #[vl,vu,.none]}} σ H3 x v vl vu l u s3.heap.objs.size Q I4 r1 (Heap.IsSliceOf.new ..) pl pu q3;show wpAny (model X.prog X.w) X.A (subscriptTail e (.Slice lo hi none p2) v (.ref s3.heap.objs.size)) (EP X pins σ Q) X.xe {s3 with heap:=s3.heap.push {cls:=.type "slice",data:=.fields #[vl,vu,.none]}};exact tail_any (ops:=[.ref s3.heap.objs.size,v]) ht hT hg (by with_unfolding_all rfl)
def cT(xs:List V)(lo hi:Option Int):List V:=(xs.drop (HT.d_ xs.length 0 lo)).take (HT.d_ xs.length xs.length hi-HT.d_ xs.length 0 lo)
theorem Pt(xs:List V)(lo hi:Option Int):(cT xs lo hi).length≤xs.length:=by unfold cT;rw [jc,oF];lia
end
def k8(n:Nat)(i:Int):Option Nat:=if 0≤i then (if i<n then some i.toNat else none) else if -(n:Int)≤i then some (i+n).toNat else none
def gI{α:Type}(xs:List α)(i:Int):Option α:=(k8 xs.length i).bind fun j=>xs[j]?
variable {i:Int} {j:Nat}
theorem HK{n:Nat}(h:k8 n i=some j):seqIndex? i n=some j∧j<n∧-(n:Int)≤i∧i<n:=by
 unfold k8 at h;by_cases h0:0≤i
 ·rw [aq h0] at h
  by_cases h1:i<n
  ·rw [aq h1] at h
   have e:i.toNat=j:=Option.some.inj h;exact ⟨by rw [seqIndex_of h0 h1,e],by lia,by lia,h1⟩
  ·rw [ak h1] at h;cases h
 ·rw [ak h0] at h
  by_cases h1:-(n:Int)≤i
  ·rw [aq h1] at h
   have e:(i+n).toNat=j:=Option.some.inj h;exact ⟨by rw [seqIndex_neg (by lia) h1,e],by lia,h1,by lia⟩
  ·rw [ak h1] at h;cases h
theorem HL{α:Type}{xs:List α}{v:α}(h:gI xs i=some v):∃j,seqIndex? i xs.length=some j∧xs[j]?=some v∧j<xs.length∧-(xs.length:Int)≤i∧i<xs.length:=by
 unfold gI at h;cases e:k8 xs.length i with
 | none=>rw [e] at h;cases h
 | some j=>rw [e] at h;obtain ⟨h1,h2,h3,h4⟩:=HK e;exact ⟨j,h1,h,h2,h3,h4⟩
theorem jQ{α:Type}{xs:List α}{v:α}(h:xs[j]?=some v):gI xs (j:Int)=some v:=by
 have hj:j<xs.length:=(bV.mp h).1;have e:k8 xs.length (j:Int)=some j:=by unfold k8;rw [aq (by lia),aq (by lia)];simp
 unfold gI;rw [e];exact h
def HM(b:Expr):Prop:=∀o i,subscripted b false o i=operate [o,i] (getItem o i)
def xi(X:Cx)(r:R2):Prop:=
 ∀(value slice:Expr) (pins:aU) (s:Shared) (σ:St) (H:Hp) (x y:V) (v u:Value) (Q:VK),Inv X pins σ H s→RelV x v→RelV y u→r x y H Q→
  subscripted slice false v u=operate [v,u] (getItem v u)→wpAny (model X.prog X.w) X.A (subscriptTail value slice v u) (EP X pins σ Q) X.xe s
def xj(X:Cx)(id:String)(r:V→List V→Hp→VK→Prop):Prop:=
 ∀(pins:aU) (s:Shared) (σ:St) (H:Hp) (x:V) (xs:List V) (v:Value) (us:List Value) (Q:VK),Inv X pins σ H s→RelV x v→Vals xs us→r x xs H Q→
  wpAny (model X.prog X.w) X.A (call (.builtin id) (v::us)) (EP X pins σ Q) X.xe s
section
variable {X:Cx} {a b:Expr} {ta tb:TE} {pos:Pos}
theorem jR{r:R2}(hr:xi X r)(ha:PE X a ta)(hb:PE X b tb)(hs:HM b):PE X (.Subscript a b pos) (lY r ta tb):=by intro pins s σ H Q I h;exact Subscript_ (Cq ha hb I h fun v u s2 x y H2 I2 rx ry q=>hr a b pins s2 σ H2 x y v u Q I2 rx ry q (hs _ _))
theorem aB{r:R2}(hr:xi X r)(ha:PE X a ta)(hb:PE X b tb)(hs:HM b:=by exact fun _ _=>rfl):PE X (.Subscript a b pos) (lY r ta tb):=jR hr ha hb hs
def HN(K:aD):R2:=fun x y H Q=>∃p xs i v,x=.ref p∧y=.int i∧bO K H p xs∧gI xs i=some v∧Q v H
def Pu(K:aD):R2:=fun x y H Q=>∃p xs i v,x=.ref p∧y=.int i∧d8 K H p xs∧gI xs i=some v∧Q v H
theorem bJ:xi X (HN X.K):=by
 intro value slice pins s σ H x y v u Q I rx ry h hs;obtain ⟨p,xs,i,z,rfl,rfl,hq,he,q⟩:=h;cases rx;obtain ⟨t,rfl⟩:=ry;obtain ⟨ah,r,pl,hz⟩:=I.list hq;obtain ⟨j,h1,h2,h3,h4,h5⟩:=HL he;obtain ⟨w,ew,dw⟩:=r.get h2;have hl:=r.length;have hn:=zd;have fin:EP X pins σ Q w s:=⟨z,H,I,dw,q⟩;by_cases h0:0≤i
 ·have hj:i.toNat=j:=by rw [seqIndex_of h0 h5] at h1;exact Option.some.inj h1
  exact item_listR pl.isList h0 (by lia) (by rw [hj];simpa using ew) fin hs
 ·have hj:(i+(ah.toArray.size:Int)).toNat=j:=by
   rw [seqIndex_neg (by lia) h4] at h1
   rw [cX,←hl];exact Option.some.inj h1
  exact subscriptTail_builtinR (x:=w) pl.isList.typeIs slot_list_getitem.lookup
   (wpAny_getItem_list_neg (Q:=fun r s'=>r=w∧EP X pins σ Q r s') pl.isList (by lia) (by rw [cX] <;> lia) (by lia) (by rw [hj];simpa using ew) ⟨rfl,fin⟩) hs
theorem bH:xi X (Pu X.K):=by
 intro value slice pins s σ H x y v u Q I rx ry h hs;obtain ⟨p,xs,i,z,rfl,rfl,hq,he,q⟩:=h;cases rx;obtain ⟨t,rfl⟩:=ry;obtain ⟨ah,r,pl,hz⟩:=I.tuple hq;obtain ⟨j,h1,h2,h3,h4,h5⟩:=HL he;obtain ⟨w,ew,dw⟩:=r.get h2;have hl:=r.length;have hn:=zd;have fin:EP X pins σ Q w s:=⟨z,H,I,dw,q⟩
 exact subscriptTail_builtinR (x:=w) pl.typeIs slot_tuple_getitem.lookup
  (getItem_tuple (j:=j) (Q:=fun r s'=>r=w∧EP X pins σ Q r s') pl (by lia) (by lia) (by rw [cX,←hl];exact h1) (by simpa using ew) ⟨rfl,fin⟩) hs
theorem Pw(ah:List Value)(n j:Nat)(u:Value):Obj.mapSeq (·.setIfInBounds j u) {cls:=.type "list",data:=.seq ah.toArray n}={cls:=.type "list",data:=.seq (ah.set j u).toArray n}:=by simp [Obj.mapSeq]
theorem Inv.lst{pins:aU}{σ:St}{H:Hp}{s:Shared}{p:Addr}{xs:List V}(I:Inv X pins σ H s)(h:H p=some (.lst xs)) :
  ∃(ah:List Value) (n:Nat),Vals xs ah∧s.heap.get? p=some {cls:=.type "list",data:=.seq ah.toArray n}∧xs.length≤sizeLine:=by
 obtain ⟨z,ah,n,r,e⟩:=I.ay p _ h;exact ⟨ah,n,r,e,z⟩
variable {pins:aU} {σ:St} {H:Hp} {s:Shared}
theorem Inv.Px{p:Addr}{xs ys:List V}{ah its':List Value}{n n':Nat}{f:Obj→Obj}(I:Inv X pins σ H s)(h:H p=some (.lst xs))
  (ho:s.heap.get? p=some {cls:=.type "list",data:=.seq ah.toArray n}) (hf:f {cls:=.type "list",data:=.seq ah.toArray n}={cls:=.type "list",data:=.seq its'.toArray n'}) (r:Vals ys its') (hz:ys.length≤sizeLine) (t:Nat) :
  Inv X pins σ (upd H p (.lst ys)) {s with heap:=s.heap.update p f,toks:=t}:=by
 have e:(s.heap.update p f).get? p=some {cls:=.type "list",data:=.seq its'.toArray n'}:=by rw [Heap.get?_update_self f ho (by rw [hf] <;> rfl),hf]
 refine I.write (x:=p) (e:=p) (by rw [h];trivial) (.inl rfl) (fun b u hb q=>(Heap.get?_update_other _ _ (Ne.symm hb)).trans q) ⟨_,e⟩ ?_
 exact ⟨hz,its',n',r,e⟩
def Py:V→V→V→Hp→(Hp→Prop)→Prop:=fun o i v H Q=>∃p xs k j,o=.ref p∧i=.int k∧H p=some (.lst xs)∧k8 xs.length k=some j∧Q (upd H p (.lst (xs.set j v)))
theorem set_list:G2 X Py:=by
 intro pins s σ H o i v ov iv u Q I ro ri rv h;obtain ⟨p,xs,k,j,rfl,rfl,hp,hj,q⟩:=h;cases ro;obtain ⟨t,rfl⟩:=ri;obtain ⟨ah,n,r,ho,hz⟩:=I.lst hp;obtain ⟨h1,h2,h3,h4⟩:=HK hj;have hl:=r.length;have hn:=zd;have I':Inv X pins σ (upd H p (.lst (xs.set j v))) {s with heap:=s.heap.update p (Obj.mapSeq (·.setIfInBounds j u))}:=
  I.Px hp ho (Pw ah n j u) (r.set rv j) (by rw [List.length_set];exact hz) s.toks
 by_cases h0:0≤k
 ·have hk:k.toNat=j:=by rw [seqIndex_of h0 h4] at h1;exact Option.some.inj h1
  exact PySem.W.ki_setAt ho h0 (by lia) (by rw [cX,←hl];exact h4) (by rw [hk];exact ⟨_,I',q⟩)
 ·have hk:(k+(ah.toArray.size:Int)).toNat=j:=by
   rw [seqIndex_neg (by lia) h3] at h1
   rw [cX,←hl];exact Option.some.inj h1
  exact PySem.W.ki_setBack ho (by lia) (by rw [cX,←hl];exact h3) (by lia) (by rw [hk];exact ⟨_,I',q⟩)
theorem Pz(lo hi:Option Int)(n:Nat):(sliceBounds lo hi none n).1=((HT.d_ n 0 lo:Nat):Int)∧(sliceBounds lo hi none n).2.1=((HT.d_ n n hi:Nat):Int)∧(sliceBounds lo hi none n).2.2=1:=by
 refine ⟨?_,?_,rfl⟩
 ·cases lo with
  | none=>simp [sliceBounds,HT.d_]
  | some i=>
   simp only [sliceBounds,HT.d_,Option.getD_none,show (1:Int)>0 by decide,if_true]
   by_cases h:i<0;·simp only [h,if_true] <;> lia
   ·simp only [h,if_false] <;> lia
 ·cases hi with
  | none=>simp [sliceBounds,HT.d_]
  | some i=>
   simp only [sliceBounds,HT.d_,Option.getD_none,show (1:Int)>0 by decide,if_true]
   by_cases h:i<0;·simp only [h,if_true] <;> lia
   ·simp only [h,if_false] <;> lia
theorem PB(ah:List Value)(lo hi:Option Int):slicePick ah.toArray lo hi none=((ah.drop (HT.d_ ah.length 0 lo)).take (HT.d_ ah.length ah.length hi-HT.d_ ah.length 0 lo)).toArray:=by obtain ⟨h1,h2,h3⟩:=Pz lo hi ah.toArray.size;unfold slicePick;rw [h1,h2,h3];simp only [sliceRange_one,pick_run,cX] <;> rfl
def m8(K:aD):V→Option Int→Option Int→Hp→VK→Prop:=fun x lo hi H Q=>∃a xs,x=.ref a∧bO K H a xs∧∀p,H p=none→Q (.ref p) (upd H p (.lst (cT xs lo hi)))
theorem gJ:CA X (m8 X.K):=by
 intro pins s σ H x v vl vu lo hi sl Q I rx hs pl pu h;obtain ⟨a,xs,rfl,hx,q⟩:=h;cases rx;obtain ⟨ah,r,ht,hz⟩:=I.list hx;have hlen:=r.length;refine ⟨"list",_,slot_list_getitem.lookup,ht.isList.typeIs,?_⟩;refine wpAny_getItem_list_slice ht.isList hs pl pu .none (by simp) ?_ (by rw [cX] <;> lia)
 rw [PB,←hlen];refine ⟨.ref s.heap.objs.size,_,I.laid (t':=s.toks) (o:=.lst (cT xs lo hi)) (fun b ob q=>cu _ q) (aN _) ?_,rfl,q _ (I.ay.fresh (aN _))⟩;exact ⟨a8 (Pt xs lo hi) hz,_,0,(r.drop (HT.d_ xs.length 0 lo)).take (HT.d_ xs.length xs.length hi-HT.d_ xs.length 0 lo),eJ _ rfl⟩
def pd:V→Bool
 | .aF=>true
 | .bl _=>true
 | .int _=>true
 | .str _=>true
 | _=>false
def l7:V→V→Bool
 | .aF,.aF=>true
 | .bl a,.bl b=>a == b
 | .bl a,.int b=>(if a then 1 else 0) == b
 | .int a,.bl b=>a == (if b then 1 else 0)
 | .int a,.int b=>a == b
 | .str a,.str b=>a == b
 | _,_=>false
variable {x:V} {v:Value}
theorem CB{A:Around}{y:V}{u:Value}(ry:RelV y u)(rx:RelV x v)(fy:pd y=true)(fx:pd x=true):SeqAt.EqAt A s u v (l7 y x):=by
 cases y with
 | aF=>
  cases ry;cases x with
  | aF=>cases rx;exact SeqAt.EqAt.same _
  | bl b=>cases rx;exact SeqAt.EqAt.none_bool b
  | int b=>obtain ⟨t,rfl⟩:=rx;exact SeqAt.EqAt.none_int b t
  | str b=>obtain ⟨t,rfl⟩:=rx;exact SeqAt.EqAt.none_str b t
  | _=>exact absurd (show false=true from fx) cW
 | bl a=>
  cases ry;cases x with
  | aF=>cases rx;exact SeqAt.EqAt.bool_none a
  | bl b=>cases rx;exact SeqAt.EqAt.bool_bool a b
  | int b=>obtain ⟨t,rfl⟩:=rx;exact SeqAt.EqAt.bool_int a b t
  | str b=>obtain ⟨t,rfl⟩:=rx;exact SeqAt.EqAt.bool_str a b t
  | _=>exact absurd (show false=true from fx) cW
 | int a=>
  obtain ⟨t',rfl⟩:=ry;cases x with
  | aF=>cases rx;exact SeqAt.EqAt.int_none a t'
  | bl b=>cases rx;exact SeqAt.EqAt.int_bool a t' b
  | int b=>obtain ⟨t,rfl⟩:=rx;exact SeqAt.EqAt.int_int a t' b t
  | str b=>obtain ⟨t,rfl⟩:=rx;exact SeqAt.EqAt.int_str a t' b t
  | _=>exact absurd (show false=true from fx) cW
 | str a=>
  obtain ⟨t',rfl⟩:=ry;cases x with
  | aF=>cases rx;exact SeqAt.EqAt.str_none a t'
  | bl b=>cases rx;exact SeqAt.EqAt.str_bool a t' b
  | int b=>obtain ⟨t,rfl⟩:=rx;exact SeqAt.EqAt.str_int a t' b t
  | str b=>obtain ⟨t,rfl⟩:=rx;exact SeqAt.EqAt.str_str a t' b t
  | _=>exact absurd (show false=true from fx) cW
 | _=>exact absurd (show false=true from fy) cW
theorem fQ:fN X (.builtin "len") (fun xs H Q=>∃p ys,xs=[.ref p]∧(bO X.K H p ys∨d8 X.K H p ys)∧Q (.int ys.length) H):=by
 intro pins s σ H xs us Q I r h;obtain ⟨p,ys,rfl,hq,q⟩:=h;obtain ⟨u,rfl,rx⟩:=vals1 r;cases rx;have hn:=zd;rcases hq with hq | hq
 ·obtain ⟨ah,r',pl,hz⟩:=I.list hq
  have hlen:=r'.length;exact Calls.call_len_list pl.isList (by simp only [cX] <;> lia) ⟨.int ys.length,H,I.tok _,⟨s.toks+1,by rw [cX,hlen]⟩,q⟩
 ·obtain ⟨ah,r',pl,hz⟩:=I.tuple hq
  have hlen:=r'.length;exact len_tuple pl (by simp only [cX] <;> lia) ⟨.int ys.length,H,I.tok _,⟨s.toks+1,by rw [cX,hlen]⟩,q⟩
theorem CD:fN X (.type "list") (fun xs H Q=>∃p ys,xs=[.ref p]∧(bO X.K H p ys∨d8 X.K H p ys)∧∀l,H l=none→Q (.ref l) (upd H l (.lst ys))):=by
 intro pins s σ H xs us Q I r h;obtain ⟨p,ys,rfl,hq,q⟩:=h;obtain ⟨u,rfl,rx⟩:=vals1 r;cases rx
 have fin:∀(ah:List Value),Vals ys ah→ys.length≤sizeLine→∀(h':Heap) (c':Nat),(∀b o',s.heap.get? b=some o'→h'.get? b=some o')→
   h'.get? s.heap.objs.size=some {cls:=.type "list",dict:=none,data:=.seq ah.toArray c',slots:=#[]}→EP X pins σ Q (.ref s.heap.objs.size) {s with heap:=h'}:=fun ah r' hz h' c' kp e=>
  ⟨.ref s.heap.objs.size,_,I.laid (t':=s.toks) kp (aN _) (show cy X.prog X.w _ h' _ (.lst ys) from ⟨hz,ah,c',r',e⟩),rfl,q _ (I.ay.fresh (aN _))⟩
 rcases hq with hq | hq
 ·obtain ⟨ah,r',pl,hz⟩:=I.list hq
  have hlen:=r'.length;obtain ⟨o,ho,hc,n,hd⟩:=pl.isList;exact call_list_seq p (.inl rfl) ho hc hd (fun h' c' kp e=>fin ah r' hz h' c' kp e) (by simp only [cX] <;> lia)
 ·obtain ⟨ah,r',pl,hz⟩:=I.tuple hq
  have hlen:=r'.length;obtain ⟨o,ho,hc,n,hd⟩:=pl;exact call_list_seq p (.inr rfl) ho hc hd (fun h' c' kp e=>fin ah r' hz h' c' kp e) (by simp only [cX] <;> lia)
theorem PD:fN X (.type "tuple") (fun xs H Q=>∃p ys,xs=[.ref p]∧((bO X.K H p ys∧∀l,H l=none→Q (.ref l) (upd H l (.tup ys)))∨(d8 X.K H p ys∧Q (.ref p) H))):=by
 intro pins s σ H xs us Q I r h;obtain ⟨p,ys,rfl,h⟩:=h;obtain ⟨u,rfl,rx⟩:=vals1 r;cases rx;rcases h with ⟨hq,q⟩ | ⟨hq,q⟩
 ·obtain ⟨ah,r',pl,hz⟩:=I.list hq
  have hlen:=r'.length;refine call_tuple_list pl.isList (fun h' kp=>?_) (by simp only [cX] <;> lia)
  have I1:Inv X pins σ H {s with heap:=h'}:=I.kept (t':=s.toks) kp;have I2:Inv X pins σ (upd H h'.objs.size (.tup ys)) {s with heap:=h'.push {cls:=.type "tuple",data:=.seq ah.toArray}}:=
   I1.laid (t':=s.toks) (fun b o e=>cu _ e) (aN _) (show cy X.prog X.w _ _ _ (.tup ys) from ⟨hz,ah,r',IsTup.new _ _⟩)
  exact ⟨.ref h'.objs.size,_,I2,rfl,q _ (I1.ay.fresh (aN _))⟩
 ·obtain ⟨ah,r',pl,hz⟩:=I.tuple hq
  exact call_tuple_same pl ⟨.ref p,H,I,rfl,q⟩
def CF(K:aD)(T:String)(x:V)(H:Hp):Prop:=match x with
 | .str _=>T="str"
 | .int _=>T="int"
 | .ref p=>(T="list"∧∃xs,bO K H p xs)∨(T="tuple"∧∃o,K.lookup p=some o∧o.cls=.type "tuple"∧o.dict=none) ∨
   (T="dict"∧((∃ao,H p=some (.dK ao))∨∃ao,H p=some (.dT ao)))∨(T="set"∧∃S n,H p=some (.set S n))
 | _=>False
theorem HP{T:String}(I:Inv X pins σ H s)(r:RelV x v)(ty:CF X.K T x H) :
  s.TypeIs v T∧∀a,v=.ref a→∃ob,s.heap.get? a=some ob∧ob.dict=none:=by
 cases x with
 | str z=>obtain ⟨t,rfl⟩:=r;cases (show T="str" from ty);exact ⟨typeIs_str s z t,fun _ e=>nomatch e⟩
 | int i=>obtain ⟨t,rfl⟩:=r;cases (show T="int" from ty);exact ⟨typeIs_int s i t,fun _ e=>nomatch e⟩
 | ref p=>
  cases r;rcases ty with ⟨rfl,xs,hq⟩ | ⟨rfl,o,hk,hc,hd⟩ | ⟨rfl,hk⟩ | ⟨rfl,S,n,hk⟩
  ·obtain ⟨ah,_,pl,_⟩:=I.list hq
   refine ⟨pl.isList.typeIs,fun a e=>?_⟩;cases e;obtain ⟨o,n,e,c,hd,_⟩:=pl;exact ⟨o,e,hd⟩
  ·refine ⟨⟨o,I.cS p o hk,hc⟩,fun a e=>?_⟩
   cases e;exact ⟨o,I.cS _ o hk,hd⟩
  ·have z:∃o,s.heap.get? p=some o∧o.ExactDict:=by
    rcases hk with ⟨ao,hk⟩ | ⟨ao,hk⟩
    ·obtain ⟨_,_,_,_,o,_,_,e,ex,_⟩:=I.ay p _ hk
     exact ⟨o,e,ex⟩
    ·obtain ⟨_,_,_,_,o,_,_,e,ex,_⟩:=I.ay p _ hk
     exact ⟨o,e,ex⟩
   obtain ⟨o,e,ex⟩:=z;refine ⟨⟨o,e,ex.1⟩,fun a e2=>?_⟩;cases e2;exact ⟨o,e,ex.2.1⟩
  ·obtain ⟨o,_,_,_,e,ex,_⟩:=I.ay p _ hk
   refine ⟨⟨o,e,ex.1⟩,fun a e2=>?_⟩;cases e2;exact ⟨o,e,ex.2.1⟩
 | _=>exact False.elim ty
def PF(K:aD)(T:String)(r:V→List V→Hp→VK→Prop)(to:TE):TE:=fun σ H Q=>to σ H fun x H1=>CF K T x H1∧r x [] H1 Q
def PH(K:aD)(T:String)(r:V→List V→Hp→VK→Prop)(to:TE)(t:TA):TE:=fun σ H Q=>to σ H fun x H1=>CF K T x H1∧t σ H1 fun xs H2=>r x xs H2 Q
variable {o e:Expr} {es:List Expr} {to:TE} {t:TA} {name:Str} {apos g7:Pos} {T id:String} {r:V→List V→Hp→VK→Prop}
theorem PJ(pa:PlainAttrs T)(slot:Slot T name id)(CG:typeOf (.builtin id)=pure (.type "method_descriptor"))(hm:xj X id r)(ho:PE X o to)
  (pe:attributeBase o name X.env (eval o X.env)=eval o X.env:=by rfl) (CH:(apos.endLine == g7.line)=true:=by rfl):PE X (.Call (.Attribute o name apos) [] [] g7) (PF X.K T r to):=by
 intro pins s σ H Q I h;refine wpAny_Call_method0_late pe CH (aK (ho pins s σ H _ I h) fun v s1 ⟨x,H1,I1,r1,ty,q1⟩=>?_);obtain ⟨h1,h2⟩:=HP I1 r1 ty;exact ⟨T,id,pa,slot,CG,h1,h2,Calls.callWith_builtin rfl (PySem.evalArgs_none (hm pins s1 σ H1 x [] v [] Q I1 r1 .nil q1))⟩
theorem xk(pa:PlainAttrs T)(slot:Slot T name id)(CG:typeOf (.builtin id)=pure (.type "method_descriptor"))(hm:xj X id r)(ho:PE X o to)(ha:PA X (e::es) t)
  (pe:attributeBase o name X.env (eval o X.env)=eval o X.env:=by rfl)
  (PK:((backTo g7 (starEach (e::es) X.env)).all (fun x=>!x.1) && (backToKw g7 (keywordEach [] X.env)).all (fun x=>x.1.isSome)
   && decide ((e::es).length+([]:List Keyword).length+(if ([]:List Keyword).isEmpty then 0 else 1)<30))=true:=by rfl)
  (CH:(apos.endLine == g7.line)=true:=by rfl) (hs:starEach (e::es) X.env=(false,eval e X.env)::starEach es X.env:=by rfl) (PL:(backTo g7 (starEach es X.env)).any (·.1)=false:=by rfl) :
  PE X (.Call (.Attribute o name apos) (e::es) [] g7) (PH X.K T r to t):=by
 intro pins s σ H Q I h;refine wpAny_Call_method_late pe PK CH rfl (aK (ho pins s σ H _ I h) fun v s1 ⟨x,H1,I1,r1,ty,q1⟩=>?_);obtain ⟨h1,h2⟩:=HP I1 r1 ty;refine ⟨T,id,pa,slot,CG,h1,h2,?_⟩;have hA:=ha g7 pins s1 σ H1 _ I1 q1;rw [hs] at hA ⊢;refine Calls.callWith_builtin (by show (false || (backTo g7 (starEach es X.env)).any (·.1))=false;rw [PL] <;> rfl) (Calls.evalArgs_plain ?_)
 exact aK hA fun us s2 ⟨vs,H2,I2,r2,q2⟩=>hm pins s2 σ H2 x vs v us Q I2 r1 r2 q2
end
def CI(X:Cx)(id:String)(r:V→List V→Hp→VK→Prop):Prop:=
 ∀(pins:aU) (s:Shared) (σ:St) (H:Hp) (x:V) (xs:List V) (v:Value) (us:List Value) (Q:VK),Inv X pins σ H s→RelV x v→Vals xs us→r x xs H Q→
  wpAny (model X.prog X.w) X.A (call (.builtin id) (v::us)) (EP X pins σ Q) X.xe s
theorem Vals.one:∀{x:V} {us:List Value},Vals [x] us→∃u,us=[u]∧RelV x u
 | _,_,.cons r .nil=>⟨_,rfl,r⟩
theorem Vals.two:∀{x y:V} {us:List Value},Vals [x,y] us→∃u v,us=[u,v]∧RelV x u∧RelV y v
 | _,_,_,.cons r (.cons q .nil)=>⟨_,_,rfl,r,q⟩
theorem Vals.zero:∀{us:List Value},Vals [] us→us=[]
 | _,.nil=>rfl
theorem Vals.rep{xs:List V}{us:List Value}(h:Vals xs us):∀k:Nat,Vals (List.replicate k xs).flatten (List.replicate k us).flatten
 | 0=>.nil
 | k+1=>by rw [si,si,wJ,wJ];exact Vals.append h (Vals.rep h k)
theorem foldl_rep(ah:List Value):∀(k:Nat) (acc:List Value),
  List.foldl (fun x1 x2=>x1++x2) acc.toArray (List.replicate k ah.toArray)=(acc++(List.replicate k ah).flatten).toArray
 | 0,acc=>by simp
 | k+1,acc=>by
  have e:acc.toArray++ah.toArray=(acc++ah).toArray:=by simp
  have e2:(acc++ah)++(List.replicate k ah).flatten=acc++(List.replicate (k+1) ah).flatten:=by rw [si,wJ,List.append_assoc]
  rw [←e2,←foldl_rep ah k (acc++ah),←e,si,List.foldl_cons]
section
variable {X:Cx} {pins:aU} {σ:St} {H:Hp} {s:Shared} {l b:Addr} {xs ys zs:List V}
variable {ah:List Value} {n t':Nat}
theorem Inv.CJ{its':List Value}{f:Array Value→Array Value}(I:Inv X pins σ H s)(hH:H l=some (.lst xs))
  (e:s.heap.get? l=some {cls:=.type "list",data:=.seq ah.toArray n}) (hf:f ah.toArray=its'.toArray) (hv:Vals ys its') (hz:ys.length≤sizeLine) :
  Inv X pins σ (upd H l (.lst ys)) {s with heap:=s.heap.update l (Obj.mapSeq f),toks:=t'}:=by
 have q:=PySem.IsL.update e f;rw [hf] at q;refine I.write (x:=l) (e:=l) (by rw [hH];exact trivial) (.inl rfl) (fun b' u hb hu=>(Heap.get?_update_other s.heap (Obj.mapSeq f) (Ne.symm hb)).trans hu) ⟨_,q⟩ ?_
 exact ⟨hz,its',_,hv,q⟩
theorem Inv.HQ(I:Inv X pins σ H s)(hv:Vals ys ah)(hz:ys.length≤sizeLine) :
  Inv X pins σ (upd H s.heap.objs.size (.lst ys)) {s with heap:=s.heap.push {cls:=.type "list",data:=.seq ah.toArray},toks:=t'}:=
 I.laid (fun _ _ q=>cu _ q) (aN _) ⟨hz,ah,0,hv,eJ _ rfl⟩
theorem Inv.fresh(I:Inv X pins σ H s):H s.heap.objs.size=none:=I.ay.fresh (aN _)
theorem Inv.l8(I:Inv X pins σ H s)(hH:H l=some (.lst xs)):xs.length≤sizeLine∧∃(ah:List Value) (n:Nat),Vals xs ah∧xs.length=ah.length∧s.heap.get? l=some {cls:=.type "list",data:=.seq ah.toArray n}:=by obtain ⟨z,ah,n,r,e⟩:=I.ay l _ hH;exact ⟨z,ah,n,r,r.length,e⟩
theorem HR(h:n≤sizeLine):Builtin.List.listTooLong n=false:=by unfold Builtin.List.listTooLong;exact da (by lia)
end
section
variable {X:Cx}
def PM:V→List V→Hp→VK→Prop:=fun x vs H Q=>∃l xs y,x=.ref l∧vs=[y]∧H l=some (.lst xs)∧xs.length<sizeLine∧Q .aF (upd H l (.lst (xs++[y])))
theorem xl:CI X "list.append" PM:=by
 intro pins s σ H x vs v us Q I rx rv h;obtain ⟨l,xs,y,rfl,rfl,hH,hz,q⟩:=h;cases rx;obtain ⟨u,rfl,ru⟩:=rv.one;obtain ⟨z,ah,n,r,hl,e⟩:=I.l8 hH;refine oG F.slot_list_append ⟨_,e,rfl⟩ F.entry_list_append (F.args_list_append_2 _ _) (PySem.list_append l ah.toArray n u (by rw [cX];lia)) ⟨e,?_⟩
 refine ⟨.aF,_,I.CJ (its':=ah++[u]) hH e (by simp) (r.append (.cons ru .nil)) ?_,rfl,q⟩
 rw [cR,BV];lia
def PN:V→List V→Hp→VK→Prop:=fun x vs H Q=>∃l b xs zs,x=.ref l∧vs=[.ref b]∧H l=some (.lst xs)∧H b=some (.lst zs)∧xs.length+zs.length≤sizeLine∧Q .aF (upd H l (.lst (xs++zs)))
theorem PQ:CI X "list.extend" PN:=by
 intro pins s σ H x vs v us Q I rx rv h;obtain ⟨l,b,xs,zs,rfl,rfl,hH,hB,hz,q⟩:=h;cases rx;obtain ⟨u,rfl,ru⟩:=rv.one;cases ru;obtain ⟨z,ah,n,r,hl,e⟩:=I.l8 hH;obtain ⟨z2,pf,n2,r2,PR,e2⟩:=I.l8 hB;have hsz:ah.toArray.size+pf.toArray.size≤sizeLine:=by rw [cX,cX];lia
 have CK:¬(!ah.toArray.isEmpty && Builtin.List.listTooLong (ah.toArray.size+pf.toArray.size))=true:=by rw [HR hsz,Bool.and_false];exact cW
 refine oG F.slot_list_extend ⟨_,e,rfl⟩ F.entry_list_extend (F.args_list_extend_2 _ _)
  (AutoSeq1.list_extend_list_list_0 l ah.toArray n b pf.toArray n2 CK (by rw [cX];lia) (by lia)) ⟨e,e2,?_⟩
 refine ⟨.aF,_,I.CJ (its':=ah++pf) hH e (by simp) (r.append r2) ?_,rfl,q⟩
 rw [cR];lia
def CL:R2:=fun x y H Q=>∃l b xs zs,x=.ref l∧y=.ref b∧H l=some (.lst xs)∧H b=some (.lst zs)∧xs.length+zs.length≤sizeLine∧∀p,H p=none→Q (.ref p) (upd H p (.lst (xs++zs)))
theorem fR:cq X (binaryOp .Add) CL:=by
 intro pins s σ H x y v u Q I rx ry h;obtain ⟨l,b,xs,zs,rfl,rfl,hH,hB,hz,q⟩:=h;cases rx;cases ry;obtain ⟨z,ah,n,r,hl,e⟩:=I.l8 hH;obtain ⟨z2,pf,n2,r2,PR,e2⟩:=I.l8 hB;refine PySem.P.add_list e e2 ?_ (by rw [cX,cX];lia)
 have ea:ah.toArray++pf.toArray=(ah++pf).toArray:=by simp
 rw [ea];exact ⟨.ref _,_,I.HQ (t':=s.toks) (r.append r2) (by rw [cR];lia),rfl,q _ I.fresh⟩
def PU:R2:=fun x y H Q=>∃l k xs,x=.ref l∧y=.int k∧H l=some (.lst xs)∧-(2 ^ 63)≤k∧k<2 ^ 63∧xs.length*k.toNat≤sizeLine ∧
 ∀p,H p=none→Q (.ref p) (upd H p (.lst (List.replicate k.toNat xs).flatten))
theorem len_rep{α:Type}(xs:List α)(k:Nat):(List.replicate k xs).flatten.length=k*xs.length:=by
 induction k with
 | zero=>simp
 | succ k ih=>rw [si,wJ,cR,ih,Nat.succ_mul,Nat.add_comm]
theorem HS:cq X (binaryOp .Mult) PU:=by
 intro pins s σ H x y v u Q I rx ry h;obtain ⟨l,k,xs,rfl,rfl,hH,h1,h2,hz,q⟩:=h;cases rx;obtain ⟨t,rfl⟩:=ry;obtain ⟨z,ah,n,r,hl,e⟩:=I.l8 hH;have hlen:ah.toArray.size*k.toNat≤sizeLine:=by rw [cX,←hl];exact hz
 have PV:¬ah.toArray.size*k.toNat>(2 ^ 63-1) / 8:=by
  have:(sizeLine:Nat)≤(2 ^ 63-1) / 8:=by decide
  lia
 have PX:¬(!Builtin.List.listFitsIndex k)=true:=by rw [fitsIndex_both h1 h2];exact cW
 have CK:¬Builtin.List.listTooLong (ah.toArray.size*k.toNat)=true:=by rw [HR hlen];exact cW
 have PY:List.foldl (fun x1 x2=>x1++x2) #[] (List.replicate (if ah.toArray.isEmpty=true then 0 else k.toNat) ah.toArray)=(List.replicate k.toNat ah).flatten.toArray:=by
  have f0:∀m:Nat,List.foldl (fun x1 x2=>x1++x2) #[] (List.replicate m ah.toArray)=(List.replicate m ah).flatten.toArray:=fun m=>by have:=foldl_rep ah m [];rw [List.nil_append] at this;exact this
  rw [f0];cases ah with
  | nil=>simp
  | cons a r'=>rw [ak (by simp)]
 refine wpAny_binaryOp_repeat_ref (T:="list") (U:="int") (by decide) ⟨_,e,rfl⟩ (fun s'=>typeIs_int s' k t) noFill_list_mul F.fills_int_mul F.slot_int_rmul repeat_list F.slot_int_index.lookup
  (oG F.slot_int_rmul (typeIs_int s k t) F.entry_int_rmul (F.args_int_rmul_2 _ _) (int___rmul___int_list k t l ah.toArray n)
   ⟨e,rfl,⟨_,e,rfl⟩,oG F.slot_list_mul ⟨_,e,rfl⟩ F.entry_list_mul (F.args_list_mul_2 _ _) (AutoListH.list___mul___list_int_3 l ah.toArray n k t PX PV CK) ⟨e,?_⟩⟩)
 rw [PY];exact ⟨.ref _,_,I.HQ (t':=s.toks) (r.rep k.toNat) (by rw [len_rep,Nat.mul_comm];exact hz),rfl,q _ I.fresh⟩
end
section
variable {prog:Program} {w:World} {A:Around} {E:aR} {s:Shared}
end
section
variable {X:Cx}
end
end L2
namespace Att
open PySem PySem.W PySem.Calls PyProof.Rows
variable {P:Params} {h:Heap}
theorem PZ:∀(ns:List Int) (vs:List Value),WellAll P h vs (ns.map WData.int)→IntsAre vs ns:=by
 intro ns
 induction ns with
 | nil=>intro vs w;rw [List.map_nil] at w;cases w;exact .nil
 | cons n ns ih=>
  intro vs w;rw [cQ] at w;cases w with
  | cons a b=>cases a;exact .cons _ _ (ih _ b)
variable {l:OpenLaw} {n:Nat}
theorem P0(hn:l.most=some n){args:List WData}{vals:List Value}
  (zh:l.row.toRowW.claim.pre args=true) (CM:WellAll P h vals args) :
  ∃a vs ns,vals=[Value.ref a]∧args=[WData.list (ns.map WData.int)]∧h.get? a=some {cls:=.type "list",data:=.seq vs.toArray}∧IntsAre vs ns∧ns.length≤n:=by
 have P1:WShape.hasAll [] args [.list .int]=true:=(pre_splitW zh).1;have hc:l.pre.holds [] {args:=args}=true:=(pre_splitW zh).2;obtain ⟨d,r,rfl,h1,h2⟩:=hasAllW_cons P1;obtain rfl:=hasAllW_nil h2;obtain ⟨xs,rfl,h3⟩:=hasW_list h1;obtain ⟨ns,rfl⟩:=items_int h3;have hlen:ns.length≤n:=by
  unfold OpenLaw.pre at hc;have h4:(WTm.not (.lt (.lit (.int (n:Int))) (.len (.arg 0)))).holds [] {args:=[.list (ns.map .int)]}=true:=by have h4:=(holds_andW hc).1;rw [hn] at h4;exact h4
  have h5:=condW_of h4 (w_not (w_lt w_lit (w_len_list (w_arg rfl))));rw [bg] at h5;refine Nat.le_of_not_lt fun q=>?_;have q':(n:Int)<((ns.length:Nat):Int):=by lia
  first
   | (rw [dc q'] at h5;exact absurd h5 (by decide))
   | (simp at h5;lia)
 cases CM with
 | cons w1 w2=>
  cases w2;cases w1 with
  | list ho P2=>exact ⟨_,_,ns,rfl,rfl,ho,PZ ns _ P2,hlen⟩
theorem P4(l:OpenLaw)(args:List WData):l.row.toRowW.claim.post args (.bool true) args=true:=
 postW_of (r:=l.row.toRowW) (X:=(true == true))
  (show WShape.has [] (.bool true) .bool=true by first | rfl | decide | simp [WShape.has,WShape.arms,WShape.armsAll])
  (show (WTm.eq .res (.lit (.bool true))).value [] {args:=args,res:=some (.bool true),after:=args}=some (.bool (true == true)) from w_eq_bool (w_res rfl) w_lit) rfl
theorem P5{q:Program}{loose:List Str}{XP:(Str→Option Value)→Heap→Prop}{YP:World→Heap→Prop}{d:DefRec}
  (hn:l.most=some n) (xn:d.params.defaults=[])
  (call:∀(w:World) (s₀ s₁:Shared) (mg mb:cG) (fa:Addr) (o:Obj) (pm cd doc:Value) (a:Addr) (vs:List Value) (ns:List Int),
   Ground q loose [] XP w s₀ mg mb s₁.heap→YP w s₁.heap→
   s₁.heap.get? fa=some o→o.data=.func (docDef d.name d.params d.body d.scope pm cd doc)→s₁.heap.CodeRec cd d.name→mg d.name=some (.ref fa)→
   s₁.heap.get? a=some {cls:=.type "list",data:=.seq vs.toArray}→IntsAre vs ns→ns.length≤n→s₁.gens = #[]→
   codeAny (model l.prog w) callerA (.call (.ref fa) ⟨[.ref a],[]⟩) (fun r s'=>r=.ok (.ret (.bool true))∧OldK s₁.heap s'.heap∧s'.os=s₁.os∧AllBare s'.gens) s₁) :
  WalkO q loose XP YP l.row.toRowW d [] (fun f vs=>PySem.call f vs):=by
 intro w s₀ s₁ mg mb G Y fa o pm cd doc dV kV ho hd fq hD xo hg args vals as zh aea hrd CM hlo;obtain rfl:dV=.none:=Dflts.none hD xn;obtain rfl:kV=.none:=Dflts.noKw hD;obtain ⟨a,vs,ns,rfl,rfl,CN,hints,hlen⟩:=P0 hn zh CM;refine enter_call (wH (call w s₀ s₁ mg mb fa o pm cd doc a vs ns G Y ho (fd_plain hd) fq xo CN hints hlen hg) fun r s' hq=>?_);obtain ⟨rfl,h2,h3,h4⟩:=hq;exact ⟨.inl ⟨.bool true,.bool true,[],rfl,fun _=>rfl,.bool true,P4 l _,fun _=>⟨List.Pairwise.nil,fun _ hm=>(nomatch hm)⟩⟩,h2,h3,h4⟩
section
variable {prog:Program} {w:World} {A:Around} {E:aR} {s:Shared} {K:Frag}
end
end Att
namespace L2
open PySem PySem.Spec PyProof.Rows
theorem HU:∀{vs:List Value} {ns:List Int},IntsAre vs ns→Vals (ns.map V.int) vs
 | _,_,.nil=>.nil
 | _,_,.cons n t h=>.cons ⟨t,rfl⟩ (HU h)
def CO(H:Hp):Prop:=∀b,H b=none∨∃o xs,H b=some (.cp o (.lst xs))
variable {K:aD} {k:Nat} {a:Addr} {x:Str}
theorem P6{P:Program}{w:World}{mg mb:cG}{CX:gZ}{fa:Addr}{fd:FuncData}{sp:Sp}{s₁:Shared}{vs:List Value}{ns:List Int}
  (KX:K.In s₁.heap) (HV:s₁.heap.Ns mainGlobals mg) (hb:s₁.heap.Ns builtinsNs mb) (P7:∀x:Str,x ≠ "__name__"→mb x=bootBuiltins x) (P8:s₁.heap.NoLimit) (hg:s₁.gens = #[])
  (ha:s₁.heap.get? a=some {cls:=.type "list",data:=.seq vs.toArray}) (hi:IntsAre vs ns) (hl:ns.length≤sizeLine) (hr:cJ k callerA)
  (F:∀base:Heap,K.In base→base.Ns mainGlobals mg→aV P w K mg base CX k fa fd [x] sp) (P9:∀(s:Shared) (u:Value),BindsTo s fd ⟨[u],[]⟩ [(x,u)])
  (jn:∀H:Hp,CO H→bO K H a (ns.map V.int)→sp [.ref a] H (fun v _=>v=.bl true) fun _ _ _=>False)
  (CP:∀H e s',CX [] H s₁ (fun _ _ _=>False) e s'→False) :
  codeAny (model P w) callerA (.call (.ref fa) ⟨[.ref a],[]⟩) (fun r s'=>r=.ok (.ret (.bool true))∧OldK s₁.heap s'.heap∧s'.os=s₁.os∧AllBare s'.gens) s₁:=by
 have rv:=HU hi;have P_:=hi.length
 have core:∀H:Hp,CO H→bO K H a (ns.map V.int)→bW P w H s₁.heap→(∀b,H b≠none→b=a)→(H a≠none→K.lookup a=none)→
   codeAny (model P w) callerA (.call (.ref fa) ⟨[.ref a],[]⟩) (fun r s'=>r=.ok (.ret (.bool true))∧OldK s₁.heap s'.heap∧s'.os=s₁.os∧AllBare s'.gens) s₁:=by
  intro H hO hS ay hA hK;have HW:∀{b:Addr} {o:Obj},s₁.heap.get? b=some o→H b=none→(lR s₁.heap H).get? b=some o:=fun e n=>N3 e n;have xh:∀{b:Addr} {o:Obj} {es:Array DictEntry} {ep:Nat},s₁.heap.get? b=some o→o.data=.dict es ep→H b=none:=fun{b o es ep} e d=>by
   cases q:H b with
   | none=>rfl
   | some u=>
    have e':b=a:=hA b (by rw [q];simp)
    subst e';rw [ha] at e;cases e;have d':Data.seq vs.toArray _=Data.dict es ep:=d;cases d'
  have zi:∀{b:Addr} {m:cG},s₁.heap.Ns b m→(lR s₁.heap H).Ns b m:=fun{b m} ⟨o,es,ep,e,d,r⟩=>⟨o,es,ep,HW e (xh e d),d,r⟩;have HX:K.In (lR s₁.heap H):=fun b o e=>HW (KX b o e) (by
   cases q:H b with
   | none=>rfl
   | some u=>
    have e':b=a:=hA b (by rw [q];simp)
    subst e';rw [hK (by rw [q];simp)] at e;cases e)
  have hM:Mod K mg (lR s₁.heap H):=⟨HX,zi HV,⟨mb,zi hb,P7⟩,let ⟨mc,h1,h2⟩:=P8;⟨mc,zi h1,h2⟩⟩
  have e0:o_ P w K mg (lR s₁.heap H) callerA [] s₁ H:=⟨rfl,hM,fun b o e=>N4 e,Nat.le_of_eq (N2 _ _),trivial,fun b hb=>absurd (show b∈([]:List Addr) from hb) (by simp),ay,.of_eq hg⟩
  refine wH ((F _ HX (zi HV)).run callerA [] s₁ H ⟨[.ref a],[]⟩ [.ref a] [.ref a] _ _ hr e0 (P9 s₁ (.ref a)) (.cons rfl .nil) (jn H hO hS)) fun r s' h=>?_;cases r with
  | error e=>exact (CP H e s' h).elim
  | ok fl=>
   cases fl with
   | next=>exact False.elim h
   | brk=>exact False.elim h
   | cont=>exact False.elim h
   | ret u=>
    obtain ⟨v,H',os,bare,un,Qa,r',q⟩:=h;have q':v=.bl true:=q;subst q';obtain rfl:u=Value.bool true:=r';refine ⟨rfl,OldK.of_keep fun b o e=>?_,os,bare⟩;cases q:H b with
    | none=>exact un.keep b o e q (by intro z;exact absurd (show b∈([]:List Addr) from z) (by simp)) (by simp)
    | some u=>
     rcases hO b with z | ⟨ob,xs,z⟩;·rw [q] at z;cases z
     ·have z2:=un.d5 b ob _ z
      obtain ⟨e1,_⟩:=ay b _ z;obtain ⟨e2,_⟩:=Qa b _ z2;rw [e] at e1;cases e1;exact e2
 cases hk:K.lookup a with
 | some o=>have e:=KX a o hk;rw [ha] at e;cases e;refine core (fun _=>none) (fun _=>.inl rfl) (.inr ⟨_,vs.toArray,_,hk,rfl,rfl,rfl,by rw [cX,P_];exact hl,by simpa using rv⟩) (fun b u z=>by have z':(none:Option HO)=some u:=z;cases z') (fun b z=>absurd rfl z) fun z=>absurd rfl z
 | none=>
  refine core (fun b=>if b=a then some (.cp {cls:=.type "list",data:=.seq vs.toArray} (.lst (ns.map V.int))) else none) (fun b=>?_) (.inl (.inr ⟨{cls:=.type "list",data:=.seq vs.toArray},aq rfl⟩)) (fun b u z=>?_) (fun b z=>?_) fun _=>hk
  ·by_cases hb:b=a
   ·exact .inr ⟨_,_,aq hb⟩
   ·exact .inl (ak hb)
  ·by_cases hb:b=a
   ·have z':=(aq hb).symm.trans z
    cases z';subst hb;exact ⟨ha,by rw [bg];exact hl,vs,_,rv,ha⟩
   ·have z':=(ak hb).symm.trans z
    cases z'
  ·by_cases hb:b=a
   ·exact hb
   ·exact absurd (ak hb) z
abbrev HY {K:aD} {h:Heap} (_:K.In h):PySem.W.Frag:=K
variable {n:Nat}
theorem Qb{l:PySem.W.OpenLaw}{q:Program}{loose:List Str}{XP:(Str→Option Value)→Heap→Prop}{YP:World→Heap→Prop}{d:DefRec}{K:Params→PySem.W.Frag}{CX:World→gZ}{sp:World→Sp}
  (hn:l.most=some n) (sO:n≤sizeLine) (xn:d.params.defaults=[]) (hr:cJ k callerA)
  (hY:∀(w:World) (h:Heap),YP w h→(K w.params).In h)
  (F:∀(w:World) (mg:cG) (fa:Addr) (h:Heap),(K w.params).In h→h.Ns mainGlobals mg→mg d.name=some (.ref fa)→
   ∃fd:FuncData,(∀(s:Shared) (u:Value),BindsTo s fd ⟨[u],[]⟩ [(x,u)]) ∧
    ∀base:Heap,(K w.params).In base→base.Ns mainGlobals mg→aV l.prog w (K w.params) mg base (CX w) k fa fd [x] (sp w))
  (jn:∀(w:World) (H:Hp) (a:Addr) (ns:List Int),ns.length≤n→CO H→bO (K w.params) H a (ns.map V.int)→sp w [.ref a] H (fun v _=>v=.bl true) fun _ _ _=>False)
  (CP:∀(w:World) (H:Hp) (s:Shared) (e:Value) (s':Shared),CX w [] H s (fun _ _ _=>False) e s'→False) :
  PySem.W.WalkO q loose XP YP l.row.toRowW d [] (fun f vs=>PySem.call f vs):=by
 refine Att.P5 hn xn fun w s₀ s₁ mg mb fa o pm cd doc a vs ns G Y ho hd fq xo CN hints hlen hg=>?_;have KX:=hY w _ Y;obtain ⟨fd,hb,hF⟩:=F w mg fa _ KX G.T.g xo;exact P6 KX G.T.g G.T.b G.T.builtins G.T.nolimit hg CN hints (a8 hlen sO) hr hF hb (fun H hO hS=>jn w H a ns hlen hO hS) fun H e s'=>CP w H s₁ e s'
def inClass(s:Stmt)(j:Nat):Stmt:=match s with
 | .ClassDef _ _ _ body _ _ _ _ _ _ _=>body.getD j (.Pass ⟨0,0,0,0⟩)
 | _=>.Pass ⟨0,0,0,0⟩
def iZ(s:Stmt):Arguments:=match s with
 | .FunctionDef _ a _ _ _ _ _ _ _ _=>a
 | _=>{posonlyargs:=[],args:=[],vararg:=none,kwonlyargs:=[],kw_defaults:=[],kwarg:=none,defaults:=[]}
def fS(s:Stmt):List Stmt:=match s with
 | .FunctionDef _ _ b _ _ _ _ _ _ _=>b
 | _=>[]
def aH(s:Stmt):Scope:=match s with
 | .FunctionDef _ _ _ _ _ _ sc _ _ _=>sc
 | _=>{kind:=.function,names:=[],isGenerator:=false,isCoroutine:=false}
abbrev bK:gZ:=fun _ _ _ _ _ _=>False
abbrev E0:XK:=fun _ _ _=>False
theorem aI{X:Cx}:Passes bK X E0:=fun _ _ _ _ _ _ _ h=>h.elim
structure dO (K:aD) (x qual:Str) (st:Stmt) (f:Addr) (fd:FuncData):Prop where
 ex:∃(oc:Value) (od:Option Addr) (kV doc pm:Value) (an:Option Addr) (aZ ct:Value) (fA:Array (Option Value)),
  fd=PySem.W.fnOf x qual (iZ st) (fS st) (aH st) .none kV doc pm an aZ ct∧K.lookup f=some ⟨oc,od,.func fd,fA⟩∧PySem.W.codeIn K aZ qual=true
 kp:PySem.W.keepIn K (.ref f)=true
abbrev az (K:aD) (x:Str) (st:Stmt) (f:Addr) (fd:FuncData):Prop:=dO K x x st f fd
section
variable {P:Program} {w:World} {K:aD} {mg:cG} {base:Heap}
variable {qual:Str} {st:Stmt} {f:Addr} {fd:FuncData} {N ps:List Str} {sp:Sp}
theorem dO.ok(F:dO K x qual st f fd)(S:ba N ps (aH st))(len:∀vs H Q E,sp vs H Q E→vs.length=ps.length)
  (jP:∀(aZ:Value) (A:Around) (outer:List Env) (s:Shared) (H:Hp) (vs:List V) (Q:VK) (E:XK),cJ k (A.deeper (envOfC qual (aH st) s.heap.objs.size f aZ))→sp vs H Q E→
   ∃t,dN (iX bK P w K mg base N qual (aH st) f aZ A outer s H E).jj (fS st) t∧t {nx:=fun _ H'=>Q .aF H',rt:=Q} (start N vs) H):aV P w K mg base bK (k+1) f fd ps sp:=by
 obtain ⟨oc,od,kV,doc,pm,an,aZ,ct,fA,rfl,lk,fq⟩:=F.ex;refine Cz lk fq S len fun A outer s H vs Q E hr jn=>?_;obtain ⟨t,h,q⟩:=jP aZ A outer s H vs Q E hr jn;exact ⟨t,h.jj,q⟩
theorem dO.bS(F:dO K x qual st f fd)(S:ba N ps (aH st))
  (jP:∀(aZ:Value) (A:Around) (outer:List Env) (s:Shared) (H:Hp) (vs:List V) (Q:VK) (E:XK),cJ k (A.deeper (envOfC qual (aH st) s.heap.objs.size f aZ))→sp vs H Q E→
   ∃t,dN (iX bK P w K mg base N qual (aH st) f aZ A outer s H E).jj (fS st) t∧t {nx:=fun _ H'=>Q .aF H',rt:=Q} (start N vs) H)
  (len:∀vs H Q E,sp vs H Q E→vs.length=ps.length:=by intro vs H Q E h;repeat first | (obtain ⟨rfl,_⟩:=h;rfl) | (subst h;rfl) | obtain ⟨_,h⟩:=h):aV P w K mg base bK (k+1) f fd ps sp:=F.ok S len jP
theorem dO.binds(F:dO K x qual st f fd)
  (h:∀(kV doc pm:Value) (an:Option Addr) (aZ ct:Value) (us:List Value),us.length=ps.length→bindArgs (PySem.W.fnOf x qual (iZ st) (fS st) (aH st) .none kV doc pm an aZ ct) ⟨us,[]⟩=pure (ps.zip us)):Binds K fd ps []:=by
 obtain ⟨oc,od,kV,doc,pm,an,aZ,ct,fA,rfl,lk,fq⟩:=F.ex;exact .all (h kV doc pm an aZ ct)
theorem dO.bD(F:dO K x qual st f fd)
  (h:∀(kV doc pm:Value) (an:Option Addr) (aZ ct:Value) (us:List Value),us.length=ps.length→bindArgs (PySem.W.fnOf x qual (iZ st) (fS st) (aH st) .none kV doc pm an aZ ct) ⟨us,[]⟩=pure (ps.zip us):=by intro _ _ _ _ _ _ us hl;rcases us with _ | ⟨_,_ | ⟨_,_ | ⟨_,_ | ⟨_,_ | ⟨_,_ | ⟨_,_ | ⟨_,_⟩⟩⟩⟩⟩⟩⟩ <;> first | rfl | (simp at hl;done)):Binds K fd ps []:=F.binds h
theorem bE{oc:Value}{od an:Option Addr}{fA:Array (Option Value)}{kV doc pm aZ ct:Value}(l:K.lookup f=some ⟨oc,od,.func (PySem.W.fnOf x qual (iZ st) (fS st) (aH st) .none kV doc pm an aZ ct),fA⟩)
  (c:PySem.W.codeIn K aZ qual=true) (k:PySem.W.keepIn K (.ref f)=true):dO K x qual st f (PySem.W.fnOf x qual (iZ st) (fS st) (aH st) .none kV doc pm an aZ ct):=⟨⟨oc,od,kV,doc,pm,an,aZ,ct,fA,rfl,l,c⟩,k⟩
end
theorem fB(h:n≤1000):n<sizeLine:=kD h (by decide)
section
variable {X:Cx}
theorem pv(i:Nat){pos:Pos}(hN:X.N[i]?=some x:=by rfl)(hv:mT X.env.scope x:=by first | exact Or.inl rfl | exact Or.inr (Or.inl rfl) | exact Or.inr (Or.inr rfl))(hd:(x == ("__debug__":Str))=false:=by decide)
  (fq:(x == ("__classdict__":Str))=false:=by decide):PE X (.Name x pos) (jJ i):=N_ hN hv hd fq
end
variable {A B:Prop}
theorem cK(h:B):if false=true then A else B:=by rw [ak cW];exact h
theorem gg(h:A):if true=true then A else B:=by rw [aq rfl];exact h
theorem b7{c:Prop}[Decidable c](h1:c→A)(h2:¬c→B):if c then A else B:=by
 by_cases h:c
 ·rw [aq h]
  exact h1 h
 ·rw [ak h]
  exact h2 h
def ae(H H':Hp):Prop:=∀b o,H b=some o→H' b=some o
theorem ae.refl(H:Hp):ae H H:=fun _ _ h=>h
variable {H:Hp}
theorem ae.trans{H1 H2:Hp}(a:ae H H1)(b:ae H1 H2):ae H H2:=fun c o h=>b c o (a c o h)
theorem ae.seq{H':Hp}{xs:List V}(e:ae H H')(h:bO K H a xs):bO K H' a xs:=by
 rcases h with (h | ⟨o,h⟩) | h;·exact .inl (.inl (e _ _ h))
 ·exact .inl (.inr ⟨o,e _ _ h⟩)
 ·exact .inr h
end L2
set_option maxHeartbeats 4000000
namespace L2
open PySem PySem.Spec PyProof.Rows
variable {h:Heap} {a:Addr}
theorem cy.here{P:Program}{w:World}{H:Hp}{o:HO}(x:cy P w H h a o):∃ob,h.get? a=some ob:=by
 cases o with
 | lst xs=>obtain ⟨_,_,_,_,e⟩:=x;exact ⟨_,e⟩
 | tup xs=>obtain ⟨_,_,_,ob,e,_⟩:=x;exact ⟨_,e⟩
 | dK ao=>obtain ⟨_,_,_,_,ob,_,_,e,_⟩:=x;exact ⟨_,e⟩
 | dT ao=>obtain ⟨_,_,_,_,ob,_,_,e,_⟩:=x;exact ⟨_,e⟩
 | set S n=>obtain ⟨ob,_,_,_,e,_⟩:=x;exact ⟨_,e⟩
 | ins C dx fs=>obtain ⟨_,_,_,e,_⟩:=x;exact ⟨_,e⟩
 | own y=>exact x
 | xd fs=>obtain ⟨_,⟨_,_,_,e,_⟩,_⟩:=x;exact ⟨_,e⟩
 | mR lo hi=>obtain ⟨_,_,_,e⟩:=x;exact ⟨_,e⟩
 | cp ob u=>obtain ⟨e,_⟩:=x;exact ⟨_,e⟩
 | kK ps=>exact ⟨_,x⟩
 | met f y=>exact ⟨_,x⟩
 | ext φ=>exact x.2.1
structure iC (P:Program) (w:World) (outer:List Env) (H:Hp) (s:Shared) (H':Hp) (ea C:Addr) (B:Heap) (t:Addr) (s':Shared):Prop where
 os:s'.os=s.os
 bare:AllBare s'.gens
 fl:Heap.FlyingW B outer ea (.ref C) (.ref t) s'.heap
 ay:bW P w H' B
 kb:∀b o,s.heap.get? b=some o→H b=none→b∉cf outer→B.get? b=some o
 tb:∀b o,s.heap.get? b=some o→b∉cf outer→∃o',B.get? b=some o'
 sl:∀b o,s.heap.get? b=some o→H b=none→b∈cf outer→∃l,s'.heap.get? b=some {o with slots:=l}
 Qc:∀b∈cf outer,H b=none
 HZ:∀b o,s.heap.get? b=some o→H b=none→H' b=none
 eL:∀b xs,H b=some (.tup xs)→H' b=some (.tup xs)
 d5:∀b o u,H b=some (.cp o u)→H' b=some (.cp o u)
 eN:∀b ps,H b=some (.kK ps)→∃more,H' b=some (.kK (ps++more))
def cL(P:Program)(w:World):gZ:=fun outer H s E e s'=>∃ea C H' B t,e=.ref ea∧iC P w outer H s H' ea C B t s'∧E (.ref C) none H'
section
variable {P:Program} {w:World} {outer:List Env} {H H':Hp} {s s':Shared} {ea C t:Addr} {B:Heap}
theorem iC.CQ(f:iC P w outer H s H' ea C B t s'):H' ea=none:=by
 cases q:H' ea with
 | none=>rfl
 | some u=>obtain ⟨ob,e⟩:=(f.ay ea u q).here;rw [f.fl.2.1] at e;cases e
theorem iC.un(f:iC P w outer H s H' ea C B t s')(st:B.StaysIn h)(up:s'.heap.UpToSlots h):Un (cf outer) [] H H' s.heap h where
 keep:=fun b o e n hb _=>st b o (f.kb b o e n hb)
 slot:=fun b o e n hb _=>by obtain ⟨l,q⟩:=f.sl b o e n hb;obtain ⟨_,o2,q2,nf⟩:=f.fl.2.2.1.mem hb;rw [q] at q2;cases q2;obtain ⟨l2,q3⟩:=up b _ q nf;exact ⟨l2,q3⟩
 free:=fun b o e n _=>f.HZ b o e n
 there:=fun b o e _=>by
  by_cases hb:b∈cf outer
  ·obtain ⟨l,q⟩:=f.sl b o e (f.Qc b hb) hb
   obtain ⟨_,o2,q2,nf⟩:=f.fl.2.2.1.mem hb;rw [q] at q2;cases q2;obtain ⟨l2,q3⟩:=up b _ q nf;exact ⟨_,q3⟩
  ·obtain ⟨o',q⟩:=f.tb b o e hb
   exact ⟨o',st b o' q⟩
 eL:=f.eL
 d5:=f.d5
 eN:=f.eN
def ExcAt(ea C:Addr)(h:Heap):Prop:=∃oe,h.get? ea=some oe∧oe.cls=.ref C∧PySem.W.notCls oe=true
def gh(ea C:Addr):HO:=.ext (ExcAt ea C)
theorem Qd{l:List Env}(x:Heap.FlyingW B l ea (.ref C) (.ref t) h):ExcAt ea C h:=by obtain ⟨oe,vs,e,c,d,_⟩:=x.first;refine ⟨oe,e,c,?_⟩;obtain ⟨_,_,dt,_⟩:=oe;cases d;rfl
theorem bW.exc{h:Heap}(x:bW P w H' h)(n:H' ea=none)(k:ExcAt ea C h):bW P w (upd H' ea (gh ea C)) h:=fun b u e=>by
 by_cases hb:b=ea
 ·subst hb
  rw [au] at e;cases e;obtain ⟨oe,e1,e2⟩:=k;refine ⟨⟨oe,e1,e2⟩,⟨oe,e1⟩,fun h1 h2 ⟨o1,a1,a2⟩ z=>⟨o1,z o1 a1,a2⟩⟩
 ·rw [aO hb] at e
  refine (x b u e).iz (fun c v _ q=>q) (fun c q=>?_) fun c xs q=>?_
  ·rw [aO (fk q n)]
   exact q
  ·rw [aO (fk q n)]
   exact q
theorem Un.exc{fs ex:List Addr}{h h':Heap}(u:Un fs ex H H' h h')(n:H' ea=none)(k:∀b o,h.get? b=some o→b≠ea){o:HO}:Un fs ex H (upd H' ea o) h h' where
 keep:=u.keep
 slot:=u.slot
 free:=fun b ob e z hx=>by rw [aO (k b ob e)];exact u.free b ob e z hx
 there:=u.there
 eL:=fun b xs e=>by have q:=u.eL b xs e;rw [aO (fk q n)];exact q
 d5:=fun b ob xs e=>by have q:=u.d5 b ob xs e;rw [aO (fk q n)];exact q
 eN:=fun b ps e=>by obtain ⟨m,q⟩:=u.eN b ps e;refine ⟨m,?_⟩;rw [aO (fk q n)];exact q
theorem iC.apart(f:iC P w outer H s H' ea C B t s'):∀b o,s.heap.get? b=some o→b≠ea:=fun b o e z=>by
 subst z;by_cases hb:b∈cf outer
 ·obtain ⟨_,o2,q2,nf⟩:=f.fl.2.2.1.mem hb
  obtain ⟨oe,vs,q3,_,d,_⟩:=f.fl.first;rw [q2] at q3;cases q3;exact nf _ d
 ·obtain ⟨o',q⟩:=f.tb b o e hb
  rw [f.fl.2.1] at q;cases q
end
section
variable {X:Cx} {pins:aU} {σ:St} {H H':Hp} {s s':Shared} {ea C t:Addr} {B:Heap}
theorem aed{P:Addr→Prop}:∀b∈([]:List Addr),P b:=fun _ z=>nomatch z
variable {tk:Nat}
theorem iC.land(I:Inv X pins σ H s)(f:iC X.prog X.w X.stack H s H' ea C B t s')(st:B.StaysIn h)(up:s'.heap.UpToSlots h):Inv X pins σ H' {s' with heap:=h,toks:=tk}:=
 I.kP (s':={s' with heap:=h,toks:=tk}) (ch:=[]) f.os (f.un st up) (f.ay.kept fun b o e=>st b o e) f.bare (fun _ z=>nomatch z)
theorem iC.Qe(I:Inv X pins σ H s)(f:iC X.prog X.w X.stack H s H' ea C B t s')(x:Heap.FlyingW B X.stack ea (.ref C) (.ref t) h)(up:s'.heap.UpToSlots h):Inv X pins σ (upd H' ea (gh ea C)) {s' with heap:=h,toks:=tk}:=
 I.kP (s':={s' with heap:=h,toks:=tk}) (ch:=[]) f.os ((f.un x.1 up).exc f.CQ f.apart) ((f.ay.kept fun b o e=>x.1 b o e).exc f.CQ (Qd x)) f.bare (fun _ z=>nomatch z)
structure ph (X:Cx) (E:XK):Prop where
 f9:X.stack=X.env::X.outer
 fr:X.env.frame=some X.env.locals
 ex:X.ex=[]
 xe:X.xe=fun e s'=>wpAny (model X.prog X.w) X.A (leaving X.env e) (fun _ iY=>cL X.prog X.w X.outer X.H₀ X.s₀ E e iY) (fun e' iY=>cL X.prog X.w X.outer X.H₀ X.s₀ E e' iY) s'
theorem zj{env:Env}{outer:List Env}{L:Addr}(h:env.frame=some L):cf (env::outer)=L::cf outer:=by unfold cf;rw [yA,h]
variable {E:XK}
theorem iC.leave(L:ph X E)(I:Inv X pins σ H s)(f:iC X.prog X.w X.stack H s H' ea C B t s')(x:Heap.FlyingW B X.outer ea (.ref C) (.ref t) h)(up:s'.heap.UpToSlots h):iC X.prog X.w X.outer X.H₀ X.s₀ H' ea C B t {s' with heap:=h}:=by
 have nL:∀b o,X.s₀.heap.get? b=some o→b≠X.env.locals:=fun b o e=>cV (dJ (bL e) I.ok.above);have ns:∀b o,X.s₀.heap.get? b=some o→b∉cf X.outer→b∉cf X.stack:=fun b o e nb z=>by
  rw [L.f9,zj L.fr] at z;rcases cM.mp z with z | z;·exact nL b o e z
  ·exact nb z
 have nx:∀b:Addr,b∉X.ex:=fun b z=>by rw [L.ex] at z;cases z
 refine ⟨f.os.trans I.os,f.bare,x,f.ay,fun b o e n nb=>?_,fun b o e nb=>?_,fun b o e n hb=>?_,I.ok.kL,fun b o e n=>?_,fun b xs e=>f.eL b xs (I.base.eL b xs e),fun b o u e=>f.d5 b o u (I.base.d5 b o u e),fun b ps e=>?_⟩;·exact f.kb b o (I.base.keep b o e n nb (nx b)) (I.base.free b o e n (nx b)) (ns b o e nb)
 ·obtain ⟨o',e'⟩:=I.base.there b o e (nx b)
  exact f.tb b o' e' (ns b o e nb)
 ·obtain ⟨l,q⟩:=I.base.slot b o e n hb (nx b)
  have hs:b∈cf X.stack:=by rw [L.f9,zj L.fr];exact gT _ hb
  obtain ⟨l2,q2⟩:=f.sl b _ q (I.base.free b o e n (nx b)) hs;obtain ⟨_,o2,q3,nf⟩:=f.fl.2.2.1.mem hs;rw [q2] at q3;cases q3;obtain ⟨l3,q4⟩:=up b _ q2 nf;exact ⟨l3,q4⟩
 ·obtain ⟨o',e'⟩:=I.base.there b o e (nx b)
  exact f.HZ b o' e' (I.base.free b o e n (nx b))
 ·obtain ⟨m1,e1⟩:=I.base.eN b ps e
  obtain ⟨m2,e2⟩:=f.eN b _ e1;exact ⟨m1++m2,by rw [e2,Array.append_assoc]⟩
theorem k9:Passes (cL X.prog X.w) X (fun _ _ _=>False):=fun pins σ H s e s' I h=>by obtain ⟨_,_,_,_,_,_,_,q⟩:=h;exact q.elim
theorem i3(L:ph X E):Passes (cL X.prog X.w) X E:=fun pins σ H s e s' I h=>by
 obtain ⟨ea,C,H',B,t,rfl,f,q⟩:=h;rw [L.xe];refine wpAny_leaves_onW (by rw [I.ok.frames,L.f9]) L.fr (by have z:=f.fl;rw [L.f9] at z;exact z) fun h' x up=>?_
 exact ⟨ea,C,H',B,t,rfl,f.leave L I x up,q⟩
end
variable {K:aD}
theorem CS{C:Addr}{i4:List Value}{newId:String}(cH:K.In h)(hq:PySem.W.excIn K C i4 newId=true) :
  ∃bm N nm qn bs hdct sn sub ab col dd k0 k1 k2 k3 k5 mN,h.get? C=some (excClassObj nm qn C N bs bm hdct sn sub ab col dd k0 k1 k2 k3 k5 newId)∧h.Ns N mN∧mN "__init__"=none∧OwnTail h i4 bm∧PySem.W.mroIn K C=fun b=>some ((Value.ref C::bm).contains b):=by
 unfold PySem.W.excIn at hq
 split at hq
 ·rename_i sR cls slt look
  split at hq
  ·rename_i CC rest a0 a1 a2 a3 nn a5 em es
   simp only [Bool.and_eq_true,kB,Bool.not_eq_true'] at hq;obtain ⟨⟨⟨⟨⟨e1,e2⟩,e3⟩,e4⟩,e5⟩,e6⟩:=hq;subst e1 e2;have zk:PySem.W.mroIn K CC=fun b=>some ((Value.ref CC::rest).contains b):=by
    funext b
    unfold PySem.W.mroIn PySem.W.clsIn;rw [look];simp [em]
   obtain ⟨c1,c2,c3,c4,c5,c6,c7,c8,c9,Qf,c11⟩:=cls;dsimp only at em e3 e5 e6;subst em e3;have Qg:slt = #[a0,a1,a2,a3,some (.builtin nn),a5]:=by obtain ⟨ll⟩:=slt;simp only at es;rw [es]
   subst Qg;exact ⟨rest,c4,c1,c5,c2,c6,c7,c8,c9,Qf,sR,a0,a1,a2,a3,a5,_,cH _ _ look,.of_isNs (PySem.W.isNs_of_in cH e5),PySem.W.nsMap_none_of_in cH e5 e6,PySem.W.tail_of_in cH e4,zk⟩
  ·cases hq
 ·cases hq
section
variable {X:Cx} {E:XK} {x:Str} {C:Addr} {np g7 pos:Pos} {e:Expr} {es:List Expr} {ta:TA} {B newId Qh:String} {i4:List Value}
def Qi(C:Addr)(E:XK)(ta:TA):TS:=fun _ σ H=>ta σ H fun vs H1=>vs.length≤sizeLine∧E (.ref C) none H1
theorem m9(L:ph X E)(hc:X.calm=true)(FB:ExcBaseFacts B newId Qh i4)(hq:PySem.W.excIn X.K C i4 newId=true)(hg:Gl X x)(hm:X.mg x=some (.ref C))(ha:PA X (e::es) ta)
  (hs:starEach (e::es) X.env=(false,eval e X.env)::starEach es X.env:=by rfl) (hp:(backTo g7 (starEach es X.env)).any (·.1)=false:=by rfl) (hd:(x == ("__debug__":Str))=false:=by decide) :
  PS X (.Raise (some (.Call (.Name x np) (e::es) [] g7)) none pos) (Qi C E ta):=by
 intro pins s σ H D I h;obtain ⟨bm,N,nm,qn,bs,hdct,sn,sub,ab,col,dd,k0,k1,k2,k3,k5,mN,hC,hN,H_,T,_⟩:=CS I.ok.mod.cH hq
 refine wpAny_Raise_call_subT (C:=C) (nm:=nm) (q:=qn) (N:=N) (bs:=bs) (bm:=bm) (hdct:=hdct) (sn:=sn) (sub:=sub) (ab:=ab) (col:=col) (dd:=dd) (k0:=k0) (k1:=k1) (k2:=k2) (k3:=k3) (k5:=k5) FB (mN:=mN) (T.hasType FB.hasBase) (I.ok.hd hc)
  (by rw [hs];show (false || (backTo g7 (starEach es X.env)).any (·.1))=false;rw [hp];rfl) H_ (sD I hg hm ⟨rfl,?_⟩ hd)
 have h1:=ha g7 pins s σ H _ I h;rw [hs] at h1 ⊢;refine Calls.evalArgs_plain (aK h1 fun us s2 ⟨vs,H1,I1,r,hl,q⟩=>⟨rfl,by rw [←r.length];exact hl,I1.bk _ _ hC,hN.keeps I1.bk,T.keeps I1.bk,fun h' ea mk=>?_⟩)
 rw [L.xe];have nL:∀b o,X.s₀.heap.get? b=some o→b≠X.env.locals:=fun b o q=>cV (dJ (bL q) I1.ok.above);have ns:∀b o,X.s₀.heap.get? b=some o→b∉cf X.outer→b∉cf X.stack:=fun b o q nb z=>by
  rw [L.f9,zj L.fr] at z;rcases cM.mp z with z | z;·exact nL b o q z
  ·exact nb z
 have nx:∀b:Addr,b∉X.ex:=fun b z=>by rw [L.ex] at z;cases z
 have ff:s2.heap.FunFrames (PySem.W.hideAll s2.heap (cf X.stack)) (X.env::X.outer):=by have z:=I1.stack;rw [←L.f9];exact PySem.W.funFrames_hide z fun env he a hf=>List.mem_filterMap.mpr ⟨env,he,hf⟩
 refine wpAny_leaves_madeW (base:=PySem.W.hideAll s2.heap (cf X.stack)) (h:=s2.heap) (by rw [I1.ok.frames,L.f9]) L.fr (fun b o q=>PySem.W.of_hideAll _ q) ff mk fun h2 t fl _ _ up=>?_
 refine ⟨ea,C,H1,_,t,rfl,⟨I1.os,I1.bare,fl,fun a o e1=>?_,fun b o e1 n nb=>?_,fun b o e1 nb=>?_,fun b o e1 n hb=>?_,I1.ok.kL,fun b o e1 n=>?_,I1.base.eL,I1.base.d5,I1.base.eN⟩,q⟩
 ·refine (I1.ay a o e1).iz (fun b u hb e2=>yz _ e2 fun z=>?_) (fun _ z=>z) fun _ _ z=>z
  have n0:=I1.sA b z;rcases hb with hb | hb
  ·subst hb
   rw [e1] at n0;cases n0
  ·rw [hb] at n0
   cases n0
 ·exact yz _ (I1.base.keep b o e1 n nb (nx b)) (ns b o e1 nb)
 ·obtain ⟨o',e2⟩:=I1.base.there b o e1 (nx b)
  exact ⟨o',yz _ e2 (ns b o e1 nb)⟩
 ·obtain ⟨l,e2⟩:=I1.base.slot b o e1 n hb (nx b)
  have kY:b∈cf X.stack:=by rw [L.f9,zj L.fr];exact gT _ hb
  obtain ⟨_,o2,e3,nf⟩:=I1.stack.mem kY;rw [e2] at e3;cases e3;obtain ⟨l2,e4⟩:=up b _ (mk.keeps _ _ e2) nf;exact ⟨l2,e4⟩
 ·obtain ⟨o',e2⟩:=I1.base.there b o e1 (nx b)
  exact I1.base.free b o e1 n (nx b)
end
def CT(X:Cx)(pins:aU)(σ:St)(E:XK)(e:Value)(s':Shared):Prop:=∃s₁ H₁,Inv X pins σ H₁ s₁∧cL X.prog X.w X.stack H₁ s₁ E e s'
abbrev TX:=St→Hp→VK→XK→Prop
def Ia(X:Cx)(e:Expr)(t:TX):Prop:=
 ∀(pins:aU) (s:Shared) (σ:St) (H:Hp) (Q:VK) (E:XK),Inv X pins σ H s→t σ H Q E→wpAny (model X.prog X.w) X.A (eval e X.env) (EP X pins σ Q) (CT X pins σ E) s
abbrev pj:=Ends→XK→St→Hp→Prop
def xp(X:Cx)(st:List Stmt)(t:pj):Prop:=
 ∀(pins:aU) (s:Shared) (σ:St) (H:Hp) (D:Ends) (E:XK),Inv X pins σ H s→t D E σ H→wpAny (model X.prog X.w) X.A (execs st X.env) (SP X pins D) (CT X pins σ E) s
section
variable {X:Cx} {k:Nat} {f C:Addr} {fd:FuncData} {ps:List Str} {sp:Sp} {cY:List V} {ds:List Value} {x m:Str} {p pos apos:Pos} {e o:Expr} {es:List Expr} {ta:TE} {t:TA}
theorem Qj{pins:aU}{σ:St}{H:Hp}{s:Shared}{Q:VK}{E:XK}{us:List Value}{vs:List V}(F:aV X.prog X.w X.K X.mg X.base (cL X.prog X.w) k f fd ps sp)(hr:cJ k X.A)(hb:Binds X.K fd ps ds)(hd:Vals cY ds)
  (I:Inv X pins σ H s) (r:Vals vs us) (h:sp (vs++cY) H Q E):wpAny (model X.prog X.w) X.A (call (.ref f) us) (EP X pins σ Q) (CT X pins σ E) s:=by
 have r2:Vals (vs++cY) (us++ds):=r.append hd;have hl:(us++ds).length=ps.length:=by rw [←r2.length];exact F.len _ _ _ _ h
 refine wpAny_call (wH (F.run X.A X.stack s H ⟨us,[]⟩ (us++ds) (vs++cY) Q E hr I.Cy (hb s us I.cS hl) r2 h) fun r s' hq=>?_);cases r with
 | error e=>exact ⟨s,H,I,hq⟩
 | ok fl=>
  cases fl with
  | ret u=>exact I.after hq
  | next=>exact False.elim hq
  | brk=>exact False.elim hq
  | cont=>exact False.elim hq
def Qk(sp:Sp)(cY:List V)(t:TA):TX:=fun σ H Q E=>t σ H fun vs H1=>sp (vs++cY) H1 Q E
theorem Ib(F:aV X.prog X.w X.K X.mg X.base (cL X.prog X.w) k f fd ps sp)(hr:cJ k X.A)(hg:Gl X x)(hm:X.mg x=some (.ref f))(hk:PySem.W.keepIn X.K (.ref f)=true)(hb:Binds X.K fd ps ds)(hd:Vals cY ds)
  (ha:PA X.jj (e::es) t) (jO:(x == ("__debug__":Str))=false:=by decide) (he:starEach (e::es) X.env=(false,eval e X.env)::starEach es X.env:=by rfl) (iB:(backTo pos (starEach es X.env)).any (·.1)=false:=by rfl) :
  Ia X (.Call (.Name x p) (e::es) [] pos) (Qk sp cY t):=by
 intro pins s σ H Q E I h;refine wI (sD I hg hm ?_ jO);refine yI (h₀:=X.base) I.ok.mod.cH hk (bM (ha pos pins s σ H _ (I.ji _) h) (fun us s1 ⟨vs,H1,I1,r,q⟩=>⟨I1.cS,?_⟩) fun _ _ z=>z.elim) he iB;exact Qj F hr hb hd I1.kU r q
variable {te:TX} {i:Nat} {pos':Pos}
def Ql(te:TX):pj:=fun D E σ H=>te σ H (fun _ H1=>D.nx σ H1) E
theorem Ic(he:Ia X e te)(hs:swapsWith e none pos.line X.env=pure false:=by rfl):xp X [.Expr e pos] (Ql te):=by intro pins s σ H D E I h;refine yC (bM (Q:=fun f s'=>f=.next∧SP X pins D .next s') (wpAny_Expr_any (bM (he pins s σ H _ E I h) (fun v s1 ⟨y,H1,I1,r1,q1⟩=>⟨rfl,σ,H1,I1,q1⟩) fun _ _ z=>z) I.quiet hs) (fun f s1 q=>?_) fun _ _ z=>z);obtain ⟨rfl,q⟩:=q;exact oB q
end
abbrev Cx.jo (X:Cx) (ea:Addr):Cx:={X with A:=X.A.mark (some (.ref ea)),calm:=false,xe:=fun _ _=>False}
section
variable {X:Cx} {pins:aU} {σ:St} {H:Hp} {s:Shared} {ea:Addr}
theorem Cx.Ok.jo(ok:X.Ok):(X.jo ea).Ok:=
 ⟨ok.mod,ok.kind,ok.glob,ok.blt,ok.above,ok.inj,ok.has,ok.su,(fun z=>nomatch z),ok.frames,ok.f9,ok.B5,ok.bs,ok.gA,ok.lS,ok.lU,ok.iT,ok.kL⟩
theorem Inv.jo(I:Inv X pins σ H s):Inv (X.jo ea) pins σ H s:=⟨I.ok.jo,I.os,I.bare,I.base,I.loc,I.cell,I.free,I.gB,I.pin,I.ay,I.len⟩
theorem Inv.sS(ok:X.Ok)(I:Inv (X.jo ea) pins σ H s):Inv X pins σ H s:=⟨ok,I.os,I.bare,I.base,I.loc,I.cell,I.free,I.gB,I.pin,I.ay,I.len⟩
theorem SP.sS(ok:X.Ok){D:Ends}{f:Flow}(h:SP (X.jo ea) pins D f s):SP X pins D f s:=by
 cases f with
 | next=>obtain ⟨a,b,I,q⟩:=h;exact ⟨a,b,I.sS ok,q⟩
 | brk=>obtain ⟨a,b,I,q⟩:=h;exact ⟨a,b,I.sS ok,q⟩
 | cont=>obtain ⟨a,b,I,q⟩:=h;exact ⟨a,b,I.sS ok,q⟩
 | ret u=>obtain ⟨v,a,b,I,r,q⟩:=h;exact ⟨v,a,b,I.sS ok,r,q⟩
theorem zl{M:Model}{A:Around}{E:aR}{i:Nat}{n:Str}{pos:Pos}{Q:Unit→Shared→Prop}(I:Inv X pins σ H s)(hN:X.N.Nodup)(hi:X.N[i]?=some n)(hk:X.env.scope.names.lookup n=some .local)
  (h:∀s',Inv X pins (σ.set i none) H s'→Q () s'):wpAny M A (do bindName X.env n .none;unbindBehindTheSuite X.env n pos) Q E s:=by
 obtain ⟨m,hn,hl⟩:=id I.loc
 refine wpAny_nameGoes_keeps hk hn (by rw [I.ok.kind];rfl) fun h' v Cb hs=>h _ ?_
 have jI:=I.jI
 have y2:i<σ.length:=by rw [I.len];exact (bV.mp hi).1
 have old:∀b o,X.s₀.heap.get? b=some o→b≠X.env.locals:=fun b o e=>cV (dJ (bL e) I.ok.above)
 refine ⟨I.ok,I.os,I.bare,⟨fun b o e z hb hx=>?_,fun b o e z hb hx=>?_,I.base.free,fun b o e hx=>?_,I.base.eL,I.base.d5,I.base.eN⟩,⟨_,Cb,fun j y v' e1 e2 e3=>?_⟩,fun y c e=>?_,I.free,I.gB,fun p hp=>?_,fun b ob e=>?_,by simpa using I.len⟩
 ·exact (hs.2 b (old b o e)).trans (I.base.keep b o e z hb hx)
 ·obtain ⟨sl,q⟩:=I.base.slot b o e z hb hx
  exact ⟨sl,(hs.2 b (old b o e)).trans q⟩
 ·obtain ⟨o',q⟩:=I.base.there b o e hx
  exact ⟨o',(hs.2 b (old b o e)).trans q⟩
 ·by_cases hj:j=i
  ·subst hj
   rw [BU y2] at e2
   cases e2
  ·rw [List.getElem?_set_ne (Ne.symm hj)] at e2
   obtain ⟨u',r',q⟩:=hl j y v' e1 e2 e3
   refine ⟨u',r',?_⟩
   rcases q with ⟨k,z⟩ | ⟨k,c,z1,z2⟩
   ·refine .inl ⟨k,?_⟩
    have ne:y≠n:=fun z=>hj (B9 hN e1 (z▸hi))
    simp [ne,z]
   ·exact .inr ⟨k,c,z1,z2.sameBut hs (jI y c z1)⟩
 ·obtain ⟨w',z⟩:=I.cell y c e
  exact ⟨w',z.sameBut hs (jI y c e)⟩
 ·obtain ⟨a1,a2,a3,a4⟩:=I.pin p hp
  exact ⟨(hs.2 _ a3).trans a1,a2,a3,a4⟩
 ·refine (I.ay b ob e).iz (fun c w' hc q=>(hs.2 c ?_).trans q) (fun _ q=>q) fun _ _ q=>q
  intro z
  have z':c=X.env.locals:=z
  have fr:=I.free
  rcases hc with hc | hc
  ·rw [←z',hc,e] at fr
   cases fr
  ·rw [←z',hc] at fr
   cases fr
end
section
variable {M:Model} {A:Around} {E:aR} {h:Heap} {g:Array GenState} {d:Drawn} {t:Nat} {os:OsState} {e:Addr} {oe:Obj} {Q:Bool→Shared→Prop}
variable {nm q Ie q':Str} {C N D N':Addr} {bs bm Ig m_:List Value} {hdct Ih:Bool} {sn Ii:List Str} {sub Ij:List Value} {ab Ik:Bool} {col Il:Option Bool} {dd pq:Option Addr} {k0 k1 k2 k3 k5 j0 j1 j2 j3 j5:Option Value} {newId Qm:String}
theorem Qn(hC:h.get? C=some (excClassObj nm q C N bs bm hdct sn sub ab col dd k0 k1 k2 k3 k5 newId))(hD:h.get? D=some (excClassObj Ie q' D N' Ig m_ Ih Ii Ij Ik Il pq j0 j1 j2 j3 j5 Qm))(he:h.get? e=some oe)(Ca:oe.cls=.ref C)
  (pe:m_.contains (.type "BaseException")=true) (Qo:(Value.ref C::bm).contains (.ref D)=true) (hq:Q true ⟨h,g,d,t,os⟩):wpAny M A (excMatches (.ref e) (.ref D)) Q E ⟨h,g,d,t,os⟩:=by
 have Qp:(Value.ref D::m_).contains (.type "BaseException")=true:=by rw [List.contains_cons,pe,Bool.or_true]
 have f:=tc_notTuple;unfold excMatches
 repeat (first | (with_reducible refine oH he ?_;rw [Ca]) | with_reducible refine oH hD ?_ | (with_reducible refine wpAny_isSubtype_exc hD ?_;rw [Qp]) | (with_reducible refine wpAny_isSubtype_exc hC ?_;rw [Qo]) | wp_step)
 exact hq
end
def Qq(K:aD)(i4:List Value)(newId:String)(C D:Addr):Prop:=PySem.W.excIn K C i4 newId=true∧PySem.W.mroIn K C (.ref D)=some true
section
variable {X:Cx} {body:List Stmt} {b₀:Stmt} {Im:List Stmt} {np Qr pos:Pos} {x n:Str} {D:Addr} {tb:pj} {ts:TS} {i4:List Value} {newId:String} {i:Nat}
def Ends.Io(En:Ends)(i:Nat):Ends:={nx:=fun σ H=>En.nx (σ.set i none) H,rt:=En.rt,bk:=fun σ H=>En.bk (σ.set i none) H,ct:=fun σ H=>En.ct (σ.set i none) H}
def Qs(K:aD)(i4:List Value)(newId:String)(D:Addr)(i:Nat)(tb:pj)(ts:TS):TS:=fun En σ H=>
 tb En (fun c _ H'=>∃C,c=.ref C∧Qq K i4 newId C D∧∀ea,H' ea=none→ts (En.Io i) (σ.set i (some (.ref ea))) (upd H' ea (gh ea C))) σ H
theorem Qt(CU:X.stack=X.env::X.outer)(zm:X.env.frame=some X.env.locals)(hN:X.N.Nodup)(hi:X.N[i]?=some n)(hk:X.env.scope.names.lookup n=some .local)(hb:xp X body tb)(hs:∀ea,dN (X.jo ea) (b₀::Im) ts)(hg:Gl X x)(hm:X.mg x=some (.ref D))
  (hq:PySem.W.excIn X.K D i4 newId=true) (pe:i4.contains (.type "BaseException")=true) (hd:(x == ("__debug__":Str))=false:=by decide) :
  PS X (.Try body [.ExceptHandler (some (.Name x np)) (some n) (b₀::Im) Qr] [] [] pos) (Qs X.K i4 newId D i tb ts):=by
 intro pins s σ H En I h;refine wpAny_Try_except (bM (hb pins s σ H En _ I h) (fun f s1 q=>?_) fun e s1 q=>?_)
 ·cases f with
  | next=>exact oB q
  | brk=>exact q
  | cont=>exact q
  | ret u=>exact q
 ·obtain ⟨s₁,H₁,I₁,ea,C',H',B,t,rfl,f,C,eC,⟨Qu,zk⟩,Qv⟩:=q
  cases eC;have fl:=f.fl;rw [CU] at fl;refine wpAny_looks_onW (by rw [I.ok.frames,CU]) zm fl fun h₄ held Qw=>?_
  refine wpAny_landsW held fun h₅ CV Qx=>?_;have up:=Qw.trans Qx;have I₅:Inv X pins σ H' {s1 with heap:=h₅}:=f.land (tk:=s1.toks) I₁ CV.1 up;obtain ⟨ob,Qy,Qz⟩:=CV.there;refine wpAny_handleBy_cons (codeAny_handlers_test ?_) (by intro z;cases z)
  refine sD (X:=X.jo ea) I₅.jo hg hm ?_ hd;obtain ⟨bm,N,nm,qn,bs,hdct,sn,sub,ab,col,dd,k0,k1,k2,k3,k5,mN,hC,hN1,H_,T,eM⟩:=CS I₅.cS Qu;obtain ⟨m_,N',Ie,qn',Ig,Ih,Ii,Ij,Ik,Il,pq,j0,j1,j2,j3,j5,mN',hD,hN',aej,T',_⟩:=CS I₅.cS hq;rw [eM] at zk;refine Qn hC hD Qy Qz (T'.hasType pe) (Option.some.inj zk) (codeAny_handlers_suite_as ?_);refine lands_againW CV fun h₆ QA QB=>?_;have Ip:=QA;rw [←CU] at Ip;have I₆:Inv X pins σ (upd H' ea (gh ea C')) {s1 with heap:=h₆}:=f.Qe (tk:=s1.toks) I₁ Ip (up.trans QB);refine sC (X:=X.jo ea) (v:=.ref ea) I₆.jo hN hi (.inl hk) rfl (fun s2 I2=>?_) (.inr hk);refine bM (hs ea pins _ _ _ (En.Io i) I2 (Qv ea f.CQ)) (fun f s' q=>?_) fun _ _ z=>z.elim;have q:=q.sS I.ok;cases f with
  | next=>obtain ⟨a,b,J,q⟩:=q;exact zl J hN hi hk fun s3 J3=>⟨_,_,J3,q⟩
  | brk=>obtain ⟨a,b,J,q⟩:=q;exact zl J hN hi hk fun s3 J3=>⟨_,_,J3,q⟩
  | cont=>obtain ⟨a,b,J,q⟩:=q;exact zl J hN hi hk fun s3 J3=>⟨_,_,J3,q⟩
  | ret u=>obtain ⟨v,a,b,J,r,q⟩:=q;exact zl J hN hi hk fun s3 J3=>⟨v,_,_,J3,r,q⟩
end
section
variable {P:Program} {w:World} {K:aD} {mg:cG} {base:Heap}
variable {x qual:Str} {st:Stmt} {f:Addr} {fd:FuncData} {N ps:List Str} {k:Nat} {sp:Sp}
theorem dO.sX(F:dO K x qual st f fd)(S:ba N ps (aH st))(len:∀vs H Q E,sp vs H Q E→vs.length=ps.length)
  (jP:∀(aZ:Value) (A:Around) (outer:List Env) (s:Shared) (H:Hp) (vs:List V) (Q:VK) (E:XK),cJ k (A.deeper (envOfC qual (aH st) s.heap.objs.size f aZ))→sp vs H Q E→
   ph (iX (cL P w) P w K mg base N qual (aH st) f aZ A outer s H E) E→
   ∃t,dN (iX (cL P w) P w K mg base N qual (aH st) f aZ A outer s H E) (fS st) t∧t {nx:=fun _ H'=>Q .aF H',rt:=Q} (start N vs) H):aV P w K mg base (cL P w) (k+1) f fd ps sp:=by
 obtain ⟨oc,od,kV,doc,pm,an,aZ,ct,fA,rfl,lk,fq⟩:=F.ex;exact Cz lk fq S len fun A outer s H vs Q E hr jn=>jP aZ A outer s H vs Q E hr jn ⟨rfl,rfl,rfl,rfl⟩
theorem dO.dP(F:dO K x qual st f fd)(S:ba N ps (aH st))
  (jP:∀(aZ:Value) (A:Around) (outer:List Env) (s:Shared) (H:Hp) (vs:List V) (Q:VK) (E:XK),cJ k (A.deeper (envOfC qual (aH st) s.heap.objs.size f aZ))→sp vs H Q E→
   ph (iX (cL P w) P w K mg base N qual (aH st) f aZ A outer s H E) E→
   ∃t,dN (iX (cL P w) P w K mg base N qual (aH st) f aZ A outer s H E) (fS st) t∧t {nx:=fun _ H'=>Q .aF H',rt:=Q} (start N vs) H)
  (len:∀vs H Q E,sp vs H Q E→vs.length=ps.length:=by intro vs H Q E h;repeat first | (obtain ⟨rfl,_⟩:=h;rfl) | (subst h;rfl) | obtain ⟨_,h⟩:=h):aV P w K mg base (cL P w) (k+1) f fd ps sp:=F.sX S len jP
end
structure l9 (K:aD) (C:Addr):Prop where
 ci:PySem.W.hasDictIn K C=true
 ga:PySem.W.findIn K (.ref C) "__getattribute__"=some (some (.builtin "BaseException.__getattribute__"))
 gn:PySem.W.findIn K (.ref C) "__getattr__"=some none
 ca:PySem.W.findIn K (.ref C) "__class__"=some (some (.builtin "object.__class__"))
 mo:PySem.W.mroIn K C (.type "object")=some true
 mb:PySem.W.mroIn K C (.type "BaseException")=some true
section
variable {prog:Program} {w:World} {A:Around} {E:aR} {h:Heap} {g:Array GenState} {d:Drawn} {t:Nat} {os:OsState} {K:aD} {a C:Addr} {o:Obj}
theorem QC{R:Result→Shared→Prop}(cH:K.In h)(c:l9 K C)(hx:h.get? a=some o)(hc:o.cls=.ref C)(hq:R (.ok (.ret (.ref C))) ⟨h,g,d,t,os⟩) :
  codeAny (model prog w) A (.call (.builtin "getset_descriptor.__get__") ⟨[.builtin "object.__class__",.ref a,.ref C],[]⟩) R ⟨h,g,d,t,os⟩:=by
 have Iq:(⟨h,g,d,t,os⟩:Shared).TypeIs (.builtin "object.__class__") "getset_descriptor":=BW;have L1:=PySem.W.looks_mroIn (M:=model prog w) cH c.mo;have ow:=F.owner_object_class;refine codeAny_call_builtin F.slot_gs_get.plain F.entry_gs_get (F.slot_gs_get.check _ _ _ _ _ _ _ _ Iq (F.args_gs_get _ _ _) ?_)
 repeat (any_goals (first | assumption | (with_reducible refine oH hx ?_;rw [hc]) | (rw [ow];with_reducible refine L1.at ?_) | wp_step))
 refine ⟨Code.quiet_builtin _ (by decide +kernel),codeAny_builtin F.entry_object_class ?_⟩
 repeat (any_goals (first | assumption | (with_reducible refine oH hx ?_;rw [hc]) | wp_step))
variable {tk:Tok}
theorem QD{Q:Fin→Shared→Prop}(cH:K.In h)(c:l9 K C)(hx:h.get? a=some o)(hc:o.cls=.ref C)(hq:Q (.done (.ret (.ref C))) ⟨h,g,d,t,os⟩) :
  wpAny (model prog w) A (Builtin.«object.__getattribute__» ⟨[.ref a,.str "__class__" tk],[]⟩) Q E ⟨h,g,d,t,os⟩:=by
 have Iq:(⟨h,g,d,t,os⟩:Shared).TypeIs (.builtin "object.__class__") "getset_descriptor":=BW;have L1:=yF (M:=model prog w) cH c.ca;have f5:=BW;have f6:=F.slot_gs_get.lookup;have f7:=F.slot_gs_set.lookup
 repeat (any_goals (first | assumption | (with_reducible refine oH hx ?_;rw [hc]) | with_reducible refine L1.at ?_ | wp_step))
 refine QC cH c hx hc ?_
 repeat (any_goals (first | assumption | wp_step))
theorem QE{M:Model}{nv:Value}{Q:Unit→Shared→Prop}(cH:K.In h)(c:l9 K C)(hx:h.get? a=some o)(hc:o.cls=.ref C)(hq:Q () ⟨h,g,d,t,os⟩) :
  wpAny M A (checkBuiltinCall "BaseException.__getattribute__" ⟨[.ref a,nv],[]⟩) Q E ⟨h,g,d,t,os⟩:=by
 have hk:builtinKind "BaseException.__getattribute__"=some .slot:=by decide +kernel
 have hs:splitId "BaseException.__getattribute__"=some ("BaseException","__getattribute__"):=by decide +kernel
 have L1:=PySem.W.looks_mroIn (M:=M) cH c.mb;have ha:=F.args_bexc_ga (.ref a) nv;simp only [checkBuiltinCall,hk,hs];refine b9 ?_;unfold isInstance
 repeat (first | (with_reducible refine oH hx ?_;rw [hc]) | with_reducible refine L1.at ?_ | wp_step)
 exact hq
theorem QF{fill expr:Bool}{Q:aR}(cH:K.In h)(c:l9 K C)(hx:h.get? a=some o)(hc:o.cls=.ref C)(hq:Q (.ref C) ⟨h,g,d,t,os⟩) :
  wpAny (model prog w) A (getAttrBy (.ref a) (.str "__class__" tk) fill expr) Q E ⟨h,g,d,t,os⟩:=by
 have f3:=F.attrBase_ValueError.ga.bind (.ref a);have z0:(expr && onTheHeap (Value.builtin "BaseException.__getattribute__"))=false:=by cases expr <;> rfl
 have z2:(Value.builtin "BaseException.__getattribute__" == Value.builtin "object.__getattribute__")=false:=by decide +kernel
 have z1:(onTheHeap (Value.ref C) && Value.builtin "BaseException.__getattribute__" == Value.builtin "object.__getattribute__")=false:=by rw [z2];rfl
 have L1:=yF (M:=model prog w) cH c.ga;have L2:=yF (M:=model prog w) cH c.gn
 repeat (any_goals (first | assumption | (with_reducible refine oH hx ?_;rw [hc]) | with_reducible refine L1.at ?_ | with_reducible refine L2.at ?_ | wp_step))
 refine codeAny_call_builtin F.attrBase_ValueError.ga.plain F.entry_bexc_ga (QE cH c hx hc (QD cH c hx hc ?_))
 repeat (any_goals (first | assumption | wp_step))
theorem QG{Q:Option Value→Shared→Prop}(cH:K.In h)(c:l9 K C)(hx:h.get? a=some o)(hc:o.cls=.ref C)(hq:Q (some (.ref C)) ⟨h,g,d,t+1,os⟩) :
  wpAny (model prog w) A (getAttr? (.ref a) "__class__") Q E ⟨h,g,d,t,os⟩:=by
 unfold getAttr? getAttrBy?
 repeat (any_goals (first | assumption | with_reducible apply QF cH c hx hc | wp_step))
theorem QH(c:l9 K C):PySem.W.KitX K (.ref a) (.ref C) (ExcAt a C) where
 ty:=fun M h _ k=>by obtain ⟨oe,e1,e2,_⟩:=k;exact e2▸(PySem.W.Looks.ld e1).andThen .now
 it:=fun M h cH _=>by
  obtain ⟨cd,hc,_⟩:=PySem.W.any_some c.ci;unfold PySem.W.clsIn at hc
  split at hc
  ·rename_i look
   intro A' Q' E' s' k q;unfold isType loadHead;exact b9 (wpAny_loadPart (k _ _ (cH _ _ look)) (eG q))
  ·cases hc
 ne:=fun h tp dd ah n sl cH QI=>by
  obtain ⟨cd,hc,_⟩:=PySem.W.any_some c.ci;refine Bool.eq_false_iff.mpr fun q=>?_;have e:C=tp:=Value.ref.inj (kB.mp q);subst e;unfold PySem.W.clsIn at hc
  split at hc
  ·rename_i look
   have z:=(cH _ _ look).symm.trans QI;cases z
  ·cases hc
 ca:=fun{prog w A E Q s} cH k z=>by obtain ⟨oe,e1,e2,_⟩:=k;obtain ⟨h,g,d,t,os⟩:=s;exact QG cH c e1 e2 z
end
def zp(a:Addr)(h:Heap):Prop:=∃o ep,h.get? a=some o∧o.ExactDict∧o.data=.dict #[] ep∧(a == sysModules)=false
theorem zp.CW(e:zp a h):PySem.W.KitAt a "dict" h:=by obtain ⟨o,_,e,c,_⟩:=e;exact ⟨o,e,c.1⟩
def Ir(a:Addr):HO:=.ext (zp a)
inductive pz (K:aD) (H:Hp):V→Value→Prop where
 | of {x:V} {t:Value} (h:iW K H x t):pz K H x t
 | exc {a C:Addr} (e:H a=some (gh a C)) (c:l9 K C):pz K H (.ref a) (.ref C)
 | sR {a:Addr} (e:H a=some (Ir a)):pz K H (.ref a) (.type "dict")
def Iu:V→Value
 | .ty n=>.type n
 | .ref a=>.ref a
 | _=>.none
def QJ:V→Bool
 | .ty _=>true
 | .ref _=>true
 | _=>false
def QK(K:aD):List V→Hp→VK→Prop:=fun xs H Q=>∃x c t b,xs=[x,c]∧QJ c=true∧pz K H x t∧PySem.W.kitOne K t (Iu c)=some b∧Q (.bl b) H
variable {X:Cx}
theorem iD(hK:X.K=K:=by rfl):fN X (.builtin "isinstance") (QK K):=by
 intro pins s σ H xs us Q I r h;subst hK;obtain ⟨x,c,t,b,rfl,hc,ty,e,q⟩:=h;obtain ⟨u,cv,rfl,rx,rc⟩:=vals2 r;have ec:cv=Iu c:=by
  cases c with
  | ty n=>exact rc
  | ref a=>exact rc
  | _=>cases hc
 subst ec;cases ty with
 | of ty=>exact Pb I rx ty e fun tk=>⟨.bl b,H,I.tok tk,rfl,q⟩
 | @sR a ea=>cases rx;obtain ⟨k,_,_⟩:=(show cy X.prog X.w H s.heap a (.ext (zp a)) from I.ay a _ ea);exact iP PySem.W.kitx_dict I.cS k.CW e (fun z=>nomatch z) fun tk=>⟨.bl b,H,I.tok tk,rfl,q⟩
 | @exc a C ea cc=>cases rx;obtain ⟨k,_,_⟩:=(show cy X.prog X.w H s.heap a (.ext (ExcAt a C)) from I.ay a _ ea);exact iP (QH cc) I.cS k e (fun z=>nomatch z) fun tk=>⟨.bl b,H,I.tok tk,rfl,q⟩
def g8:List V→List V→Bool
 | [],[]=>true
 | x::xs,y::ys=>l7 x y && g8 xs ys
 | _,_=>false
def zq(K:aD)(neg:Bool):R2:=fun x y H Q=>∃a b xs ys,x=.ref a∧y=.ref b∧d8 K H a xs∧d8 K H b ys∧xs.all pd=true∧ys.all pd=true∧Q (.bl (if neg then !g8 xs ys else g8 xs ys)) H
theorem CY{A:Around}{s:Shared}:∀{xs ys:List V} {us vs:List Value},Vals xs us→Vals ys vs→xs.all pd=true→ys.all pd=true→
  ∃e:Nat→Bool,(∀j (h1:j<us.length) (h2:j<vs.length),SeqAt.EqAt A s us[j] vs[j] (e j))∧((List.range (min us.length vs.length)).all e && us.length == vs.length)=g8 xs ys
 | [],[],_,_,.nil,.nil,_,_=>⟨fun _=>true,fun j h1=>absurd h1 (mJ _),by simp [g8]⟩
 | [],_::_,_,_,.nil,.cons _ _,_,_=>⟨fun _=>true,fun j h1=>absurd h1 (mJ _),by simp [g8]⟩
 | _::_,[],_,_,.cons _ _,.nil,_,_=>⟨fun _=>true,fun j _ h2=>absurd h2 (mJ _),by simp [g8]⟩
 | x::xs,y::ys,u::us,v::vs,.cons r1 t1,.cons r2 t2,f1,f2=>by
  rw [List.all_cons,Bool.and_eq_true] at f1 f2;obtain ⟨e,h,q⟩:=CY (A:=A) (s:=s) t1 t2 f1.2 f2.2;refine ⟨fun j=>match j with | 0=>l7 x y | k+1=>e k,fun j h1 h2=>?_,?_⟩
  ·cases j with
   | zero=>exact CB r1 r2 f1.1 f2.1
   | succ k=>exact h k (by simpa using h1) (by simpa using h2)
  ·have em:min (u::us).length (v::vs).length=min us.length vs.length+1:=by simp only [eK];lia
   rw [em,BX,List.all_cons,List.all_map];show (l7 x y && (List.range (min us.length vs.length)).all e && ((us.length+1) == (vs.length+1)))=(l7 x y && g8 xs ys);rw [←q];have eb:((us.length+1) == (vs.length+1))=(us.length == vs.length):=by rw [oE,kB,kB];lia
   rw [eb,Bool.and_assoc]
theorem QL(hu:X.A.units<cLine):cq X (compareOp .Eq) (zq X.K false):=by
 intro pins s σ H x y v u Q I rx ry h;obtain ⟨a,b,xs,ys,rfl,rfl,h1,h2,f1,f2,q⟩:=h;cases rx;cases ry;obtain ⟨us,r1,t1,_⟩:=I.tuple h1;obtain ⟨vs,r2,t2,_⟩:=I.tuple h2;obtain ⟨e,he,eq⟩:=CY (A:=X.A.in1) (s:=s) r1 r2 f1 f2;refine SeqAt.eq_tupleAt (e:=e) t1 t2 hu (fun j z1 z2=>by simpa using he j (by simpa using z1) (by simpa using z2)) ⟨.bl (g8 xs ys),H,I,?_,q⟩
 show _=Value.bool (g8 xs ys);rw [←eq];simp
theorem QM(hu:X.A.units<cLine):cq X (compareOp .NotEq) (zq X.K true):=by
 intro pins s σ H x y v u Q I rx ry h;obtain ⟨a,b,xs,ys,rfl,rfl,h1,h2,f1,f2,q⟩:=h;cases rx;cases ry;obtain ⟨us,r1,t1,_⟩:=I.tuple h1;obtain ⟨vs,r2,t2,_⟩:=I.tuple h2;obtain ⟨e,he,eq⟩:=CY (A:=X.A.in1) (s:=s) r1 r2 f1 f2;refine SeqAt.RcNeAt.tuples (e:=e) t1 t2 hu (fun j z1 z2=>by simpa using he j (by simpa using z1) (by simpa using z2)) _ _ _ _ ⟨.bl (!g8 xs ys),H,I,?_,q⟩
 show _=Value.bool (!g8 xs ys);rw [←eq];simp
theorem boot_isinstance:bootBuiltins "isinstance"=some (.builtin "isinstance"):=by decide +kernel
theorem boot_abs:bootBuiltins "abs"=some (.builtin "abs"):=by decide +kernel
theorem boot_min:bootBuiltins "min"=some (.builtin "min"):=by decide +kernel
theorem boot_max:bootBuiltins "max"=some (.builtin "max"):=by decide +kernel
theorem boot_int:bootBuiltins "int"=some (.type "int"):=by decide +kernel
theorem boot_bool:bootBuiltins "bool"=some (.type "bool"):=by decide +kernel
theorem boot_tuple:bootBuiltins "tuple"=some (.type "tuple"):=by decide +kernel
theorem boot_list:bootBuiltins "list"=some (.type "list"):=by decide +kernel
theorem QN:bootBuiltins "ValueError"=some (.type "ValueError"):=by decide +kernel
end L2
namespace My
open PySem L2
def gK(n:Int):Bool:=(List.range 32).all fun e=>decide (e<2) || decide (n<(e:Int)*(e:Int)) || decide (n % (e:Int)≠0)
variable {n d:Int}
theorem Iv(h2:n≤997)(hd:2≤d)(hq:d*d≤n)(hm:n % d=0):gK n=false:=by
 have hd2:d<32:=by
  by_cases h:d<32;·exact h
  ·have:32*32≤d*d:=Int.mul_le_mul (by lia) (by lia) (by lia) (by lia)
   lia
 obtain ⟨k,rfl⟩:∃k:Nat,d=(k:Int):=⟨d.toNat,by lia⟩
 cases e:gK n with
 | false=>rfl
 | true=>
  have z:=wK.mp e k (gS.mpr (by lia))
  simp only [Bool.or_eq_true,decide_eq_true_eq] at z;rcases z with (z | z) | z;·lia
  ·lia
  ·exact absurd hm z
theorem QO(hq:n<d*d)(hd:2≤d)(hm:∀e:Int,2≤e→e<d→n % e≠0):gK n=true:=by
 refine wK.mpr fun k _=>?_;simp only [Bool.or_eq_true,decide_eq_true_eq];by_cases h1:k<2;·exact .inl (.inl h1)
 ·by_cases h2:n<(k:Int)*(k:Int)
  ·exact .inl (.inr h2)
  ·refine .inr (hm k (by lia) ?_)
   by_cases h3:(k:Int)<d;·exact h3
   ·have:d*d≤(k:Int)*(k:Int):=Int.mul_le_mul (by lia) (by lia) (by lia) (by lia)
    lia
inductive Td where
 | a (w:Str)
 | b (w:Str) (n:Int)
def Td.vs:Td→List V
 | .a w=>[.str w]
 | .b w n=>[.str w,.int n]
def Td.xq:Td→Bool
 | .a w=>decide (w="fractions")
 | .b _ _=>false
def Td.jq:Td→Bool
 | .a _=>false
 | .b w n=>decide (w="wheel") && (decide (2≤n) && decide (n≤997) && gK n)
def Td.good(d:Td):Bool:=d.xq || d.jq
def Td.prime:Td→V
 | .a _=>.aF
 | .b _ n=>.int n
end My
namespace L2
open PySem PySem.Spec PyProof.Rows
abbrev Cx.bw (X:Cx) (N:List Str) (scope:Scope) (cl:List (Str×Addr)) (s₃:Shared) (H₃:Hp) (fp:List Addr):Cx:=
 {X with N:=N,s₀:=s₃,H₀:=H₃,env:=compEnvC scope cl s₃.heap.objs.size X.env,outer:=X.stack,stack:=X.stack,ex:=fp,fn:=fun _=>false,pn:=[],xe:=fun _ _=>False}
inductive k_ (X:Cx):List Expr→TT→Prop where
 | nil:k_ X [] (fun _ H Q=>Q true H)
 | one {c:Expr} {t:TT} (h:PT X c t):k_ X [c] t
def jS(wi:TI)(ρ:St→St)(tt:TT)(te:TE):TE:=fun σ H Q=>wi σ H fun J H1=>∀D,H1 D=none→∃W:Nat→Nat→List V→Hp→Prop,(∃m,W 0 m [] (upd H1 D (.lst []))) ∧
 ∀i m ys Hc,W i m ys Hc→Hc D=some (.lst ys)∧((J.stop i Hc∧Q (.ref D) Hc)∨(J.go i Hc∧∀x H',J.dY i Hc x H'→tt (some x::ρ σ) H' fun b H2=>
  if b=true then te (some x::ρ σ) H2 fun y H3=>H3 D=some (.lst ys)∧ys.length<sizeLine∧∃m',m'<m∧W (i+1) m' (ys++[y]) (upd H3 D (.lst (ys++[y]))) else ∃m',m'<m∧W (i+1) m' ys H2))
section
variable {X:Cx} {N:List Str} {scope:Scope} {cl:List (Str×Addr)} {x:Str} {px pos:Pos} {iter elt:Expr} {ifs:List Expr} {wi:TI} {ρ:St→St} {tt:TT} {te:TE}
structure CZ (X:Cx) (N:List Str) (scope:Scope) (cl:List (Str×Addr)) (x:Str) (ρ:St→St):Prop where
 xr:closureFor scope X.env=pure cl
 kind:scope.kind=.function
 xt:∀y∈scope.names,y.2≠.cell
 names:∀y∈scope.names,y.2=.local→scope.names.lookup y.1=some .local
 sub:∀p∈cl,X.env.cells.lookup p.1=some p.2
 has:∀y,((relabel scope X.env).names.lookup y=some .cell∨(relabel scope X.env).names.lookup y=some .free)→∃c,cl.lookup y=some c
 n0:N[0]?=some x
 nd:N.Nodup
 hx:scope.names.lookup x=some .local
 xu:∀(σ:St) (j:Nat) (v:V),(ρ σ)[j]?=some (some v)→∃(i:Nat) (y:Str),N[j+1]?=some y∧X.N[i]?=some y∧σ[i]?=some (some v)∧mT X.env.scope y∧(X.env.kindOf y=some .cell∨X.env.kindOf y=some .free)∧((relabel scope X.env).names.lookup y=some .cell∨(relabel scope X.env).names.lookup y=some .free)
 len:∀σ:St,σ.length=X.N.length→(ρ σ).length+1=N.length
theorem zt{names:List (Str×NameKind)}(h:(names.all fun q=>(q.2 != .cell && q.2 != .free) || (cl.lookup q.1).isSome)=true) :
  ∀y,(names.lookup y=some .cell∨names.lookup y=some .free)→∃c,cl.lookup y=some c:=fun y hy=>by
 have key:∀k:NameKind,(k != .cell && k != .free)=false→names.lookup y=some k→∃c,cl.lookup y=some c:=fun k hk e=>by have z:=wK.mp h (y,k) (kC e);rw [hk,Bool.false_or] at z;exact Option.isSome_iff_exists.mp z
 rcases hy with e | e;·exact key .cell rfl e
 ·exact key .free rfl e
theorem join_some{o:Option (Option V)}{v:V}(h:some o.join=some (some v)):o=some (some v):=by
 cases o with
 | none=>cases h
 | some o=>cases h;rfl
def zu(X:Cx)(sc:Scope):List Str→List Nat→Prop
 | n::ns,i::is=>(X.N[i]?=some n∧mT X.env.scope n∧(X.env.kindOf n=some .cell∨X.env.kindOf n=some .free)∧((relabel sc X.env).names.lookup n=some .cell∨(relabel sc X.env).names.lookup n=some .free))∧zu X sc ns is
 | _,[]=>True
 | [],_::_=>False
theorem C0{X:Cx}{sc:Scope}:∀{ns:List Str} {is:List Nat},zu X sc ns is→∀(σ:St) (j:Nat) (v:V),(is.map fun i=>σ[i]?.join)[j]?=some (some v)→∃(i:Nat) (n:Str),ns[j]?=some n∧X.N[i]?=some n∧σ[i]?=some (some v)∧mT X.env.scope n∧(X.env.kindOf n=some .cell∨X.env.kindOf n=some .free)∧((relabel sc X.env).names.lookup n=some .cell∨(relabel sc X.env).names.lookup n=some .free)
 | _,[],_,_,_,_,e=>by cases e
 | [],_::_,h,_,_,_,_=>h.elim
 | n::_,i::_,h,_,0,_,e=>⟨i,n,rfl,h.1.1,join_some e,h.1.2⟩
 | _::_,_::_,h,σ,j+1,v,e=>C0 h.2 σ j v e
theorem jT(is:List Nat)(h1:closureFor scope X.env=pure cl)(h:zu X scope N.tail is:=by repeat' first | exact True.intro | refine And.intro ⟨rfl,Or.inr (Or.inl rfl),.inl rfl,.inl rfl⟩ ?_)(h2:scope.kind=.function:=by rfl)(h3:∀y∈scope.names,y.2≠.cell:=by decide +kernel)(h4:∀y∈scope.names,y.2=.local→scope.names.lookup y.1=some .local:=by decide +kernel)(h5:∀p∈cl,X.env.cells.lookup p.1=some p.2:=by repeat' first | exact yK _ | refine List.forall_mem_cons.mpr ⟨rfl,?_⟩)(h6:((relabel scope X.env).names.all fun q=>(q.2 != .cell && q.2 != .free) || (cl.lookup q.1).isSome)=true:=by rfl)(h7:N[0]?=some x:=by rfl)(h8:N.Nodup:=by decide +kernel)(h9:scope.names.lookup x=some .local:=by rfl)(hr:∀σ:St,ρ σ=is.map fun i=>σ[i]?.join:=by exact fun _=>rfl)(hl:is.length+1=N.length:=by rfl):CZ X N scope cl x ρ:=
 ⟨h1,h2,h3,h4,h5,zt h6,h7,h8,h9,fun σ j v e=>by rw [hr] at e;rw [←List.getElem?_tail];exact C0 h σ j v e,fun σ _=>by rw [hr,bg];exact hl⟩
theorem l_(B:CZ X N scope cl x ρ)(hc:X.calm=true)(hi:PI X (.Name x px) iter wi)(ht:∀s₃ H₃ fp,k_ (X.bw N scope cl s₃ H₃ fp) ifs tt)(he:∀s₃ H₃ fp,PE (X.bw N scope cl s₃ H₃ fp) elt te)
  (hs:∀x,foldedSetIterable iter X.env x=pure x:=by intro _;rfl):PE X (.ListComp elt [⟨.Name x px,iter,ifs,0⟩] scope pos) (jS wi ρ tt te):=by
 intro pins s σ H Q I h
 rw [eval_ListComp]
 refine yL (use:=none) rfl hs B.xr B.kind B.names (aK (hi pins s σ H _ I h) fun v s1 h1=>aK h1 fun sF s2 h2=>?_)
 obtain ⟨it,fp,tn,J,H2,rfl,I2,T,eP,f2,q2⟩:=h2
 have nD:H2 s2.heap.objs.size=none:=I2.ay.fresh (aN _)
 obtain ⟨W,⟨m0,w0⟩,turn⟩:=q2 _ nD
 refine wG (yM B.xt (by intro y hy;simp at hy) (fun h₁ fC fD=>?_) B.kind)
 dsimp only at fC fD ⊢
 generalize hD:s2.heap.objs.size=D at nD w0 turn fC fD ⊢
 generalize g9:({s2 with heap:=s2.heap.push {cls:=.type "list",dict:=none,data:=.seq ([]:List Value).toArray}}:Shared)=s3
 have I3:Inv X pins σ (upd H2 D (.lst [])) s3:=by
  subst hD g9
  exact I2.laid (t':=s2.toks) (fun b u e=>cu _ e) (aN _) ⟨b_ _,[],_,.nil,eJ _ rfl⟩
 have e3:s3.heap=s2.heap.push {cls:=.type "list",dict:=none,data:=.seq ([]:List Value).toArray}:=by rw [←g9]
 have fE:∀b o,s2.heap.get? b=some o→s3.heap.get? b=some o:=fun b o e=>by rw [e3];exact cu _ e
 rw [←e3] at fC fD ⊢
 have below:∀b o,s3.heap.get? b=some o→b≠s3.heap.objs.size:=fun b o e=>cV (bL e)
 have dq:∀b o,s3.heap.get? b=some o→h₁.get? b=some o:=fun b o e=>fD.extBut b o (below b o e) (cu _ e)
 have g_:∀b∈fp,∃o,s2.heap.get? b=some o∧∀v,o.data≠.cell v:=T.obj _ _ eP
 have pA:∀b∈fp,b≠D:=fun b hb z=>by
  obtain ⟨o,e,_⟩:=g_ b hb
  rw [z,←hD] at e
  exact absurd (bL e) (eV _)
 have cP:∀y c,cl.lookup y=some c→X.env.cells.lookup y=some c:=fun y c e=>B.sub (y,c) (kC e)
 have pB:=I3.sA
 have dP:(X.bw N scope cl s3 (upd H2 D (.lst [])) fp).Ok:=by
  refine ⟨I.ok.mod,B.kind,I.ok.glob,I.ok.blt,aN _,fun a b c e1 e2=>I.ok.inj a b c (cP a c e1) (cP b c e2),fun y hy=>B.has y hy,(fun _ _ z _=>absurd z cW),(fun _=>I.ok.hd hc),I.ok.frames,.inl rfl,fun b hb=>⟨?_,fun y c e z=>?_⟩,fun b o e=>?_,a8 I.ok.gA I3.sz,fun b o e hb=>?_,fun b hb z=>?_,I3.stack,pB⟩
  ·obtain ⟨o,e,_⟩:=g_ b hb
   exact below b o (fE b o e)
  ·exact (f2 b hb).2.2.2.2.1 y c (cP y c e) z
  ·exact I3.bs b o e
  ·rcases (f2 b hb).2.2.2.1 with z | z
   ·exact I.ok.lS b o e z
   ·exact absurd (dJ (bL e) (a8 I.ok.gA z)) (eV _)
  ·rcases cM.mp (I3.sv b z) with z | z
   ·exact (f2 b hb).2.1 z
   ·exact (f2 b hb).2.2.1 z
 have IB:∀tk:Nat,Inv (X.bw N scope cl s3 (upd H2 D (.lst [])) fp) [] (none::ρ σ) (upd H2 D (.lst [])) {s3 with heap:=h₁,toks:=tk}:=fun tk=>by
  refine ⟨dP,rfl,I3.bare,Un.kept dq,⟨_,fC,fun j y v e1 e2 e3=>?_⟩,fun y c e=>?_,?_,fun y c e=>I3.gB y c (cP y c e),(fun p hp=>nomatch hp),I3.ay.kept dq,?_⟩
  ·cases j with
   | zero=>cases e2
   | succ j=>
    obtain ⟨i,y',a1,a2,a3,a4,a5,a6⟩:=B.xu σ j v e2
    have pD:N[j+1]?=some y:=e1
    rw [pD] at a1
    cases a1
    obtain ⟨m,hn,hl⟩:=I3.loc
    obtain ⟨u,r,l⟩:=hl i y v a2 a3 a4
    refine ⟨u,r,.inr ⟨a6,?_⟩⟩
    obtain ⟨c,ec⟩:=B.has y a6
    rcases l with ⟨k,_⟩ | ⟨_,c',jU,z⟩
    ·rcases a5 with q | q <;> (rw [k] at q;cases q)
    ·have:=cP y c ec
     rw [this] at jU
     cases jU
     obtain ⟨o,ho,hd⟩:=z
     exact ⟨c,ec,o,dq _ _ ho,hd⟩
  ·obtain ⟨v,o,ho,hd⟩:=I3.cell y c (cP y c e)
   exact ⟨v,o,dq _ _ ho,hd⟩
  ·exact I3.ay.fresh (aN _)
  ·show (none::ρ σ).length=N.length
   rw [eK]
   exact B.len σ I.len
 have fin:∀{σ':St} {H':Hp} {s':Shared},Inv (X.bw N scope cl s3 (upd H2 D (.lst [])) fp) [] σ' H' s'→Q (.ref D) H'→compPost (model X.prog X.w) X.A X.xe none (EP X pins σ Q) (.ref D) s3.heap.objs.size (.ok .next) s':=fun{σ' H' s'} J q=>by
  obtain ⟨m,hn,_⟩:=J.loc
  refine ⟨m,hn,fun h' fF=>⟨.ref D,H',?_,rfl,q⟩⟩
  have old:∀b o,s3.heap.get? b=some o→b≠s3.heap.objs.size:=below
  have u1:Un (cf X.stack) fp (upd H2 D (.lst [])) H' s3.heap h':=by
   refine ⟨fun b o e n hb hx=>?_,fun b o e n hb hx=>?_,J.base.free,fun b o e hx=>?_,J.base.eL,J.base.d5,J.base.eN⟩
   ·exact (fF.2 b (old b o e)).trans (J.base.keep b o e n hb hx)
   ·obtain ⟨sl,z⟩:=J.base.slot b o e n hb hx
    exact ⟨sl,(fF.2 b (old b o e)).trans z⟩
   ·obtain ⟨o',z⟩:=J.base.there b o e hx
    exact ⟨o',(fF.2 b (old b o e)).trans z⟩
  have pE:bW X.prog X.w H' h':=fun b u e=>by
   refine (J.ay b u e).iz (fun c v hc z=>(fF.2 c fun y=>?_).trans z) (fun _ z=>z) fun _ _ z=>z
   have fr:=J.free
   have y':c=s3.heap.objs.size:=y
   rcases hc with hc | hc
   ·rw [←hc,y'] at e
    exact absurd (fr.symm.trans e) (by simp)
   ·rw [y'] at hc
    exact absurd (fr.symm.trans hc) (by simp)
  refine I3.kP (s':={s' with heap:=h'}) (ch:=fp) (J.os) u1 pE J.bare fun b hb=>?_
  obtain ⟨g0,g1,g2,g3,g4,g5⟩:=f2 b hb
  exact ⟨g3,g1,g4,g5⟩
 have ft:∀{H':Hp},(∀b∈fp,H' b=none)→∀b∈fp,kW (X.bw N scope cl s3 (upd H2 D (.lst [])) fp) [] H' b:=fun hn b hb=>by
  refine ⟨hn b hb,?_,?_,.inl hb,fun y c e z=>(f2 b hb).2.2.2.2.1 y c (cP y c e) z,fun p hp=>nomatch hp⟩
  ·obtain ⟨o,e,_⟩:=g_ b hb
   exact below b o (fE b o e)
  ·exact dP.lU b hb
 have loop:∀tk:Nat,codeAny (model X.prog X.w) X.A (.compLoop (.ListComp elt [⟨.Name x px,iter,ifs,0⟩] scope pos) 0 (.ref it) (.ref D) (compEnvC scope cl s3.heap.objs.size X.env))
   (compPost (model X.prog X.w) X.A X.xe none (EP X pins σ Q) (.ref D) s3.heap.objs.size) {s3 with heap:=h₁,toks:=tk}:=fun tk=>by
  refine codeAny_compLoop_tests (fun n s'=>∃i ys o H',Inv (X.bw N scope cl s3 (upd H2 D (.lst [])) fp) [] (o::ρ σ) H' s'∧tn i s'.heap∧(∀b∈fp,H' b=none)∧W i n ys H') ?_ m0
   ⟨0,[],none,_,IB tk,T.keep _ _ _ eP fun b hb o e=>dq _ _ (fE _ _ e),fun b hb=>by rw [aO (pA b hb)];exact (f2 b hb).1,w0⟩
  rintro n s4 ⟨i,ys,o,H4,I4,jV,jW,w4⟩
  obtain ⟨C1,pF⟩:=turn i n ys H4 w4
  rcases pF with ⟨stop,qn⟩ | ⟨go,step⟩
  ·refine bM (T.done (X.bw N scope cl s3 (upd H2 D (.lst [])) fp) rfl rfl rfl hc i [] s4 _ H4 (fun _ _=>False) I4 (ft jW) jV stop) (fun r s5 ⟨hr,I5⟩=>?_) fun _ _ z=>z.elim
   subst hr
   exact fin I5 qn
  ·refine bM (T.item (X.bw N scope cl s3 (upd H2 D (.lst [])) fp) rfl rfl rfl hc i [] s4 _ H4 (fun _ _=>False) I4 (ft jW) jV go) (fun r s5 ⟨u,hr,h5⟩=>?_) fun _ _ z=>z.elim
   subst hr
   have z:letOwnedTupleGo (.Name x px) (.ref it) u=pure ():=rfl
   rw [z] at h5
   show wpAny _ _ ((pure ():Sem Unit) >>= fun _=>assign (.Name x px) (compEnvC scope cl s3.heap.objs.size X.env) u) _ _ s5
   refine b9 (bM h5 (fun _ s5 ⟨y,H5,I5,r5,y5,fv,lW⟩=>?_) fun _ _ z=>z.elim)
   have lX:=I5.pinned (ft lW) (T.obj _ _ fv)
   have pg:PG (X.bw N scope cl s3 (upd H2 D (.lst [])) fp) (.Name x px) (cg 0):=cj (i:=0) B.nd B.n0 (.inl (jd B.hx)) (.inr (jd B.hx))
   have again:∀{σ7:St} {H7:Hp} {s7:Shared},Inv (X.bw N scope cl s3 (upd H2 D (.lst [])) fp) ([]++jk fp s5.heap) σ7 H7 s7→Inv (X.bw N scope cl s3 (upd H2 D (.lst [])) fp) [] σ7 H7 s7∧tn (i+1) s7.heap∧∀b∈fp,H7 b=none:=fun{σ7 H7 s7} I7=>by
    refine ⟨I7.oX,T.keep _ _ _ fv fun b hb o e=>(I7.pin (b,o) (dX _ (dX _ (kZ hb e)))).1,fun b hb=>?_⟩
    obtain ⟨o,e,d⟩:=T.obj _ _ fv b hb
    exact (I7.pin (b,o) (dX _ (dX _ (kZ hb e)))).2.1
   refine bM (pg _ s5 _ H5 y u (fun σ2 H6=>σ2=some y::ρ σ∧H6=H5) lX r5 ⟨rfl,rfl⟩) (fun _ s6 ⟨σ6,H6,I6,q6⟩=>?_) fun _ _ z=>z.elim
   obtain ⟨rfl,rfl⟩:=q6
   have pG:=step y _ y5
   have tests:∀{hE:TT},k_ (X.bw N scope cl s3 (upd H2 D (.lst [])) fp) ifs hE→∀{R:Bool→Hp→Prop},hE (some y::ρ σ) H6 R→wpAny (model X.prog X.w) X.A
     (forIn ifs true fun c r=>if r=true then do let ok ←isTrue c (compEnvC scope cl s3.heap.objs.size X.env) (eval c (compEnvC scope cl s3.heap.objs.size X.env));pure (ForInStep.yield ok) else pure (ForInStep.yield r))
     (fun ok s7=>∃H7,Inv (X.bw N scope cl s3 (upd H2 D (.lst [])) fp) ([]++jk fp s5.heap) (some y::ρ σ) H7 s7∧R ok H7) (fun _ _=>False) s6:=fun{hE} p {R} hR=>by
    cases p with
    | nil=>exact yN ⟨_,I6,hR⟩
    | one p=>exact yO (p _ s6 _ _ _ I6 hR)
   refine bM (tests (ht s3 _ fp) pG) (fun ok s7 ⟨H7,I7,q7⟩=>?_) fun _ _ z=>z.elim
   cases ok with
   | false=>
    obtain ⟨m',e8,w7⟩:=q7
    obtain ⟨a1,a2,a3⟩:=again I7
    exact ⟨m',e8,i+1,ys,_,H7,a1,a2,a3,w7⟩
   | true=>
    refine bM (he s3 _ fp _ s7 _ H7 _ I7 q7) (fun ev s8 ⟨z,H8,I8,r8,pH,hz,m',e8,w8⟩=>?_) fun _ _ z=>z.elim
    refine bM (xl (X:=X.bw N scope cl s3 (upd H2 D (.lst [])) fp) _ s8 _ H8 (.ref D) [z] (.ref D) [ev] (fun _ H9=>H9=upd H8 D (.lst (ys++[z]))) I8 rfl (.cons r8 .nil) ⟨D,ys,z,rfl,rfl,pH,hz,rfl⟩) (fun _ s9 ⟨_,H9,I9,_,q9⟩=>?_) fun _ _ z=>z.elim
    subst q9
    obtain ⟨a1,a2,a3⟩:=again I9
    exact ⟨m',e8,i+1,ys++[z],_,_,a1,a2,a3,w8⟩
 have start:=loop (s3.toks+([]:List (Str×Value)).length)
 have es:({s3 with heap:=h₁,toks:=s3.toks+([]:List (Str×Value)).length}:Shared)={s2 with heap:=h₁,toks:=s2.toks+([]:List (Str×Value)).length}:=by rw [←g9]
 rw [es] at start
 exact yP start (T.self _ 0 _ _ _ (T.keep _ _ _ eP fun b hb o e=>dq _ _ (fE _ _ e)) start)
end
def dC(i:Int):Prop:=i.natAbs<2 ^ 2048
variable {i:Int}
theorem dC.log(h:dC i):i.natAbs.log2<2048:=by
 by_cases z:i.natAbs=0;·rw [z];decide
 ·exact (Nat.log2_lt z).mpr h
def C2(i j:Int):Prop:=j≠0∧dC j
def C3(i j:Int):Prop:=dC i∧dC j
theorem C3.ok{j:Int}(h:C3 i j):IntMulOk i j:=by
 have b:∀{k:Int},dC k→Builtin.Int.intBits k≤2048:=fun{k} hk=>by
  have z:=hk.log;unfold Builtin.Int.intBits
  split <;> lia
 unfold IntMulOk;have e:Builtin.Int.intTooBig ((Builtin.Int.intBits i:Int)+(Builtin.Int.intBits j:Int))=false:=by
  unfold Builtin.Int.intTooBig;have h1:=b h.1;have h2:=b h.2;have h3:(4096:Int)≤bitsLine:=by decide +kernel
  exact da (by lia)
 intro z;rw [Bool.and_eq_true] at z;have z2:=z.2;rw [show Builtin.Int.intTooBig ((Builtin.Int.intBits i:Int)+(Builtin.Int.intBits j:Int))=false from e] at z2;cases z2
theorem Iw:∀{xs:List V} {us:List Value},xs.length=us.length→(∀(i:Nat) (x:V) (u:Value),xs[i]?=some x→us[i]?=some u→RelV x u)→Vals xs us
 | [],[],_,_=>.nil
 | [],_::_,h,_=>by simp at h
 | _::_,[],h,_=>by simp at h
 | x::xs,u::us,h,k=>.cons (k 0 x u rfl rfl) (Iw (by simpa using h) fun i a b h1 h2=>k (i+1) a b (by simpa using h1) (by simpa using h2))
section
variable {X:Cx}
theorem zw:cq X (binaryOp .FloorDiv) (rI C2 fun i j=>.int (i.fdiv j)):=m5 fun _ _ _ _ _ _ _ hc q=>floordiv_int hc.1 q (.inl (PyProof.noPylong_of_log2 (dJ hc.2.log (by decide))))
theorem ng:cq X (binaryOp .Mult) (rI C3 fun i j=>.int (i*j)):=m5 fun _ _ _ _ _ _ _ hc q=>mul_int q hc.ok
def QP(i j:Int):Prop:=0<j∧dC j
theorem ma:cq X (binaryOp .FloorDiv) (rI QP fun i j=>.int (i / j)):=m5 fun i j _ _ _ _ _ hc q=>floordiv_int (Int.ne_of_gt hc.1) (by rw [Int.fdiv_eq_ediv_of_nonneg i (Int.le_of_lt hc.1)];exact q) (.inl (PyProof.noPylong_of_log2 (dJ hc.2.log (by decide))))
def allR(K:aD):List V→Hp→VK→Prop:=fun xs H Q=>∃(p:Addr) (bs:List Bool),xs=[.ref p]∧bO K H p (bs.map V.bl)∧Q (.bl (bs.all id)) H
theorem QQ{K:aD}(hc:X.calm=true)(hK:X.K=K:=by rfl):fN X (.builtin "all") (allR K):=by
 intro pins s σ H xs us Q I r h;subst hK;obtain ⟨p,bs,rfl,hq,q⟩:=h;obtain ⟨u,rfl,ru⟩:=vals1 r;cases ru;obtain ⟨ah,rv,pl,hz⟩:=I.list hq;have eS:p≠s.heap.objs.size:=by obtain ⟨o,e,_⟩:=pl.isList;exact cV (bL e)
 have hl:ah.length=bs.length:=by rw [←rv.length,bg]
 refine call_all_walk (yE pl.isList ?_);refine ⟨s.heap.objs.size,_,_,_,_,_,fun i=>bs.getD i true,rfl,Walks.list (A:=X.A.in1) (show X.A.in1.handled=none from I.ok.hd hc) s.heap.objs.size p eS ah.toArray,⟨⟨_,eJ _ rfl,rfl,rfl⟩,pl.isList.push _⟩,fun i v s' Q' E' hv eR=>?_,fun h' tk hk=>?_⟩
 ·have gD:ah[i]?=some v:=by simpa using hv
  cases eb:bs[i]? with
  | none=>
   have:=rv.none_of (i:=i) (by rw [cw,eb];rfl)
   rw [this] at gD;cases gD
  | some b=>
   obtain ⟨u,hu,ru⟩:=rv.get (i:=i) (x:=V.bl b) (by rw [cw,eb];rfl)
   rw [hu] at gD;cases gD;cases ru;have e:bs.getD i true=b:=by rw [ir,eb];rfl
   have pI:Q' (bs.getD i true) s':=eR;rw [e] at pI;exact mG pI
 ·refine ⟨.bl (bs.all id),H,I.kept fun b o e=>hk b o (fun z=>?_) (cu _ e),?_,q⟩
  ·exact absurd (bL e) (by rw [iu.mp z];exact eV _)
  ·show Value.bool _=Value.bool _
   congr 1
   rw [cX,hl];clear hk q rv pl hz hl hq
   induction bs with
   | nil=>rfl
   | cons b bs ih=>rw [eK,BX,List.all_cons,List.all_map,List.all_cons];show (b && (List.range bs.length).all fun i=>bs.getD i true)=(b && bs.all id);rw [ih]
def QR:List V→Hp→VK→Prop:=fun xs H Q=>∃j:Int,xs=[.int j]∧∀p,H p=none→Q (.ref p) (upd H p (.mR 0 j))
theorem QS:fN X (.type "range") QR:=by intro pins s σ H xs us Q I r h;obtain ⟨j,rfl,q⟩:=h;obtain ⟨u,rfl,ru⟩:=vals1 r;obtain ⟨t,rfl⟩:=ru;refine call_range_1 ⟨.ref s.heap.objs.size,_,I.laid (o:=.mR 0 j) (fun b o e=>cu _ e) (aN _) ⟨_,_,_,eJ _ rfl⟩,rfl,q _ (I.ay.fresh (aN _))⟩
def sY(n:Nat):List V:=(List.range n).map fun i:Nat=>V.int (i:Int)
def QT:List V→Hp→VK→Prop:=fun xs H Q=>∃p n,xs=[.ref p]∧H p=some (.mR 0 (n:Nat))∧n≤10000∧∀l,H l=none→Q (.ref l) (upd H l (.lst (sY n)))
theorem QU(hc:X.calm=true):fN X (.type "list") QT:=by
 intro pins s σ H xs us Q I r h;obtain ⟨p,n,rfl,hp,hn,q⟩:=h;obtain ⟨u,rfl,ru⟩:=vals1 r;cases ru;obtain ⟨t,u,v,e⟩:=(show cy X.prog X.w H s.heap p (.mR 0 n) from I.ay p _ hp);refine call_list_range (n:=n) (I.ok.hd hc) e (small_one (by lia) (by lia) (by lia) (by lia)) (by rw [rangeSize_one];split <;> lia) (by lia) fun h' tk acc c hk hD hit=>?_
 refine ⟨.ref s.heap.objs.size,_,I.laid (o:=.lst (sY n)) (fun b o e=>hk b o e) (aN _) ⟨?_,acc.toList,c,?_,?_⟩,rfl,q _ (I.ay.fresh (aN _))⟩
 ·unfold sY
  rw [bg,dj];exact a8 hn (by decide)
 ·refine Iw ?_ fun i x u h1 h2=>?_
  ·unfold sY
   rw [bg,dj,Array.length_toList,hit.1]
  ·have pJ:acc[i]?=some u:=by simpa using h2
   obtain ⟨sZ,e'⟩:=hit.2 i u pJ;unfold sY at h1;rw [cw] at h1;have hi:i<n:=by have z:=(Array.getElem?_eq_some_iff.mp pJ).1;rw [hit.1] at z;exact z
   rw [je hi] at h1;cases h1;exact ⟨sZ,by rw [e'];simp⟩
 ·rw [hD]
end
theorem boot_all:bootBuiltins "all"=some (.builtin "all"):=by decide +kernel
theorem QV:bootBuiltins "range"=some (.type "range"):=by decide +kernel
def C4:Expr→Bool
 | .Starred _ _=>false
 | _=>true
variable {e:Expr} {es:List Expr}
theorem QW{env:Env}(h:C4 e=true):starEach (e::es) env=(false,eval e env)::starEach es env:=by cases e <;> first | rfl | cases h
theorem aw{X:Cx}{e:Expr}{es:List Expr}{te:TE}{t:TA}(hs:C4 e=true)(ha:PE X e te)(hr:PA X es t):PA X (e::es) (lZ te t):=
 Pe ha hr (QW hs)
variable {X:Cx} {te:TE}
theorem aa{t:TA}(ha:PE X e te)(hr:PA X es t)(hs:C4 e=true:=by rfl):PA X (e::es) (lZ te t):=aw hs ha hr
theorem gL{X:Cx}{pos:Pos}{i:Nat}{x:Str}{e:Expr}{te:TE}{pos':Pos}(hs:swapsWith e (some (.Name x pos')) pos.line X.env=pure false)(hf:X.fn x=true∨X.env.scope.names.lookup x=some .local)(hN:X.N.Nodup)(hi:X.N[i]?=some x)(hx:Loc X.env.scope x)(he:PE X e te) :
  PS X (.Assign [.Name x pos'] e pos) (mY te (cg i)):=Oq hN hi hx he hs hf
variable {pos pos':Pos} {x:Str}
theorem putL(i:Nat)(hN:X.N.Nodup)(he:PE X e te)(hs:swapsWith e (some (.Name x pos')) pos.line X.env=pure false:=by rfl)(hi:X.N[i]?=some x:=by rfl)(hx:X.env.scope.names.lookup x=some .local:=by rfl) :
  PS X (.Assign [.Name x pos'] e pos) (mY te (cg i)):=gL hs (.inr hx) hN hi (.inl hx) he
theorem C5(i:Nat)(hN:X.N.Nodup)(he:PE X e te)(hs:swapsWith e (some (.Name x pos')) pos.line X.env=pure false:=by rfl)(hf:X.fn x=true∨X.env.scope.names.lookup x=some .local:=by first | exact .inl rfl | exact .inr rfl | assumption)(hi:X.N[i]?=some x:=by rfl)(hx:X.env.scope.names.lookup x=some .cell:=by rfl) :
  PS X (.Assign [.Name x pos'] e pos) (mY te (cg i)):=gL hs hf hN hi (.inr hx) he
def QX:V→List V→Hp→VK→Prop:=fun x xs H Q=>∃i:Int,x=.int i∧xs=[]∧Q (.int ((Builtin.Int.intBits i:Nat):Int)) H
theorem QY:xj X "int.bit_length" QX:=by intro pins s σ H x xs v us Q I rx rv h;obtain ⟨i,rfl,rfl,q⟩:=h;have s_:=rv.zero;subst s_;obtain ⟨t,rfl⟩:=rx;exact call_int_bit_length ⟨.int ((Builtin.Int.intBits i:Nat):Int),H,I.tok _,⟨_,rfl⟩,q⟩
theorem QZ(h:dC i):Builtin.Int.intBits i≤2048:=by
 have z:=h.log;unfold Builtin.Int.intBits
 split <;> lia
end L2
namespace My
open PySem L2
theorem C6(a b:Str):decide (V.str a=V.str b)=decide (a=b):=by
 by_cases h:a=b;·subst h;simp
 ·rw [da h];exact da fun e=>h (V.str.inj e)
theorem i5(a b:Int):decide (V.int a=V.int b)=decide (a=b):=by
 by_cases h:a=b;·subst h;simp
 ·rw [da h];exact da fun e=>h (V.int.inj e)
variable {K:aD}
theorem C7{T:String}:PySem.W.kitOne K (.type T) (.type T)=some true:=by unfold PySem.W.kitOne;rw [aq (beq_self_eq_true _)]
variable {H:Hp}
theorem aA{p:Addr}{o:HO}(h:H p=none):ae H (upd H p o):=fun b u e=>by rw [aO (fk e h)];exact e
theorem lh(v:V):([(("prime":Str),v)]:List (Str×V)).lookup ("prime":Str)=some v:=by simp [List.lookup]
inductive Any (H:Hp):V→Prop where
 | aF:Any H .aF
 | bl (b:Bool):Any H (.bl b)
 | int (i:Int):Any H (.int i)
 | str (x:Str):Any H (.str x)
 | lst {a:Addr} {xs:List V} (e:H a=some (.lst xs)):Any H (.ref a)
 | tup {a:Addr} {xs:List V} (e:H a=some (.tup xs)):Any H (.ref a)
 | sR {a:Addr} (e:H a=some (Ir a)):Any H (.ref a)
def tj:V→Bool
 | .int _=>true
 | _=>false
def tu:V→Bool
 | .bl _=>true
 | _=>false
def zx(H:Hp):V→Bool
 | .ref a=>(match H a with | some (.tup _)=>true | _=>false)
 | _=>false
variable {v:V}
theorem Any.CW(h:Any H v):∃T:String,pz K H v (.type T)∧PySem.W.kitOne K (.type T) (.type "int")=some (tj v || tu v)∧PySem.W.kitOne K (.type T) (.type "bool")=some (tu v) ∧
  PySem.W.kitOne K (.type T) (.type "tuple")=some (zx H v):=by
 cases h with
 | aF=>exact ⟨"NoneType",.of .aF,rfl,rfl,rfl⟩
 | bl b=>exact ⟨"bool",.of (.bl b),rfl,rfl,rfl⟩
 | int i=>exact ⟨"int",.of (.int i),rfl,rfl,rfl⟩
 | str x=>exact ⟨"str",.of (.str x),rfl,rfl,rfl⟩
 | lst e=>exact ⟨"list",.of (.lst e),rfl,rfl,by unfold zx;dsimp only;rw [e];rfl⟩
 | tup e=>exact ⟨"tuple",.of (.tup e),rfl,rfl,by unfold zx;dsimp only;rw [e];rfl⟩
 | sR e=>exact ⟨"dict",.sR e,rfl,rfl,by unfold zx;dsimp only;rw [e];rfl⟩
theorem Q0(h:tu v=true):tj v=false:=by cases v <;> first | rfl | cases h
theorem hJ{m:Str}(e:(m == ("prime":Str))=false):([(("prime":Str),v)]:List (Str×V)).lookup m=none:=by simp [List.lookup,e]
theorem Q1(m n:Nat):Nat.gcd n (m % n)=Nat.gcd m n:=by rw [Nat.gcd_comm n,←Nat.gcd_rec,Nat.gcd_comm]
theorem C8(a:Int):(if a<0 then -a else a)=(a.natAbs:Int):=by split <;> lia
def lowG(a b:Int):Int:=if b<0 then 0-(Int.gcd a b:Int) else (Int.gcd a b:Int)
variable {a b:Int}
theorem Iy(h:b≠0):0<Int.gcd a b:=oI _ (lP.mpr h)
theorem Q2(h:b≠0)(m:dC b):Int.gcd a b<2 ^ 2048:=kD (Nat.gcd_le_right _ (lP.mpr h)) m
theorem Q3(h:b≠0)(m:dC b):C2 0 (lowG a b):=by
 have h1:=Iy (a:=a) h;have h2:=Q2 (a:=a) h m;unfold lowG;refine ⟨by split <;> lia,?_⟩
 unfold dC
 split
 ·rw [show (0-(Int.gcd a b:Int)).natAbs=Int.gcd a b by lia];exact h2
 ·rw [wL];exact h2
theorem dC.of_lt{i:Int}(h1:-(10 ^ 70)<i)(h2:i<10 ^ 70):dC i:=by
 have h3:i.natAbs<2 ^ 240:=by lia
 exact dJ h3 (Nat.pow_le_pow_right (by decide) (by decide))
def Q4:Sp:=fun vs H Q _=>∃v:V,vs=[v]∧Any H v∧Q (.bl (tj v)) H
def Q5:Sp:=fun vs H Q _=>∃a b:Int,vs=[.int a,.int b]∧dC b∧Q (.int (Int.gcd a b:Int)) H
def Q6:Sp:=fun vs H Q _=>∃n:Int,vs=[.int n]∧2≤n∧n≤997∧Q (.bl (gK n)) H
def Q7:Sp:=fun vs H Q _=>∃(p:Addr) (d:Td),vs=[.ref p]∧H p=some (.tup d.vs)∧Q (.bl d.xq) H
def Q8:Sp:=fun vs H Q _=>∃(p:Addr) (d:Td),vs=[.ref p]∧H p=some (.tup d.vs)∧Q (.bl d.jq) H
def Q9(C N:Addr):Sp:=fun vs H Q E=>∃(x dx p:Addr) (d:Td),vs=[.ref x,.ref p]∧H x=some (.ins C dx [])∧H p=some (.tup d.vs) ∧
 (d.good=true→Q .aF (upd H x (.ins C dx [("prime",d.prime)])))∧(d.good=false→E (.ref N) none H)
def dy(C:Addr)(H:Hp)(x:Addr)(q:Int):Prop:=∃dx,H x=some (.ins C dx [("prime",if q=0 then .aF else .int q)])
variable {H':Hp} {q:Int}
theorem dy.mono{C:Addr}{x:Addr}(h:dy C H x q)(s:ae H H'):dy C H' x q:=by obtain ⟨dx,e⟩:=h;exact ⟨dx,s _ _ e⟩
def zy(K:aD):Sp:=fun vs H Q _=>∃(a:Addr) (ns:List Int),vs=[.ref a]∧bO K H a (ns.map V.int)∧ns.length≤63∧∀H',Q (.bl true) H'
theorem C9(xs:List V)(k:Nat):cT xs none (some (k:Int))=xs.take k:=by unfold cT;rw [HT.HI,HT.HJ,List.drop_zero,Nat.sub_zero];rw [List.take_eq_take_iff];lia
variable {u:Int}
theorem zA{v:Int}(hu:0<u)(h:0<u*v):0<v:=by
 by_cases z:0<v;·exact z
 ·have y:=yQ (show v≤0 by lia) (show 0≤u by lia)
  rw [iw] at y;lia
theorem nh(h:∀d:Nat,(d:Int)∣a→(d:Int)∣b→d=1):Int.gcd a b=1:=h _ (kG ..) (jD ..)
variable {d:Nat}
theorem ni(h:Int.gcd a b=1)(h1:(d:Int)∣a)(h2:(d:Int)∣b):d=1:=by have z:(d:Int)∣((Int.gcd a b:Nat):Int):=Int.dvd_coe_gcd h1 h2;rw [h] at z;exact Nat.dvd_one.mp (Int.natCast_dvd_natCast.mp z)
variable {c:Int}
theorem pK(h:Int.gcd b c=1)(h1:(d:Int)∣b)(h2:(d:Int)∣a*c):(d:Int)∣a:=by
 have hc:Nat.Coprime d c.natAbs:=by have z:Nat.Coprime b.natAbs c.natAbs:=h;exact Nat.Coprime.coprime_dvd_left (Int.ofNat_dvd_left.mp h1) z
 have z:d∣a.natAbs*c.natAbs:=by rw [←fK];exact Int.ofNat_dvd_left.mp h2
 exact Int.ofNat_dvd_left.mpr (hc.dvd_of_dvd_mul_right z)
theorem tD(h1:Int.gcd a b=1)(h2:Int.gcd a c=1):Int.gcd a (b*c)=1:=by refine nh fun d x y=>?_;exact ni h1 x (pK (a:=b) (b:=a) (c:=c) h2 x y)
theorem hU(h:Int.gcd a b=1):Int.gcd b a=1:=by rw [Int.gcd_comm];exact h
theorem tE(h:Int.gcd a b=1)(h1:c∣a):Int.gcd c b=1:=nh fun d x y=>ni h (jE x h1) y
theorem zB(h:b≠0):Int.gcd (a / (Int.gcd a b:Int)) (b / (Int.gcd a b:Int))=1:=by have z:0<Int.gcd a b:=oI _ (lP.mpr h);exact Int.gcd_ediv_gcd_ediv_gcd z
structure b8 (x m:Int):Prop where
 pos:1≤m
 fT:Int.gcd x m=1
variable {x m y n:Int}
theorem Q_(a:b8 x m)(b:b8 y n) :
  b8 ((x / (Int.gcd x n:Int))*(y / (Int.gcd y m:Int))) ((m / (Int.gcd y m:Int))*(n / (Int.gcd x n:Int))) ∧
   (x / (Int.gcd x n:Int))*(y / (Int.gcd y m:Int))*(m*n)=x*y*((m / (Int.gcd y m:Int))*(n / (Int.gcd x n:Int))):=by
 have m0:=a.pos;have n0:=b.pos;have p1:0<Int.gcd x n:=oI _ (lP.mpr (by lia))
 have p2:0<Int.gcd y m:=oI _ (lP.mpr (by lia))
 have c1:=zB (a:=x) (b:=n) (by lia)
 have c2:=zB (a:=y) (b:=m) (by lia)
 obtain ⟨x',ex⟩:=kG (a:=x) (b:=n);obtain ⟨n',en⟩:=jD (a:=x) (b:=n);obtain ⟨y',ey⟩:=kG (a:=y) (b:=m);obtain ⟨m',em⟩:=jD (a:=y) (b:=m);have ac:=a.fT;have bc:=b.fT;generalize Int.gcd x n=g at *;generalize Int.gcd y m=k at *;have g0:(g:Int)≠0:=by lia
 have k0:(k:Int)≠0:=by lia
 have gx:x / (g:Int)=x':=by rw [ex];exact jF _ g0
 have gn:n / (g:Int)=n':=by rw [en];exact jF _ g0
 have gy:y / (k:Int)=y':=by rw [ey];exact jF _ k0
 have gm:m / (k:Int)=m':=by rw [em];exact jF _ k0
 rw [gx,gn] at c1;rw [gy,gm] at c2;rw [gx,gn,gy,gm];have mp:0<m':=by
  have z:0<(k:Int)*m':=by rw [←em];lia
  exact zA (by lia) z
 have np:0<n':=by
  have z:0<(g:Int)*n':=by rw [←en];lia
  exact zA (by lia) z
 have xm:Int.gcd x' m'=1:=tE (hU (tE (hU ac) ⟨k,by rw [em,dM]⟩)) ⟨g,by rw [ex,dM]⟩
 have yn:Int.gcd y' n'=1:=tE (hU (tE (hU bc) ⟨g,by rw [en,dM]⟩)) ⟨k,by rw [ey,dM]⟩
 refine ⟨⟨Int.mul_pos mp np,?_⟩,?_⟩;·exact tD (hU (tD (hU xm) (hU c2))) (hU (tD (hU c1) (hU yn)))
 ·rw [ex,en,ey,em]
  simp only [mK,dM,Int.mul_left_comm]
theorem Ra(a:b8 x m)(b:b8 y n)(h:Int.gcd m n=1):b8 (x*n+y*m) (m*n):=by
 have m0:=a.pos;have n0:=b.pos;refine ⟨Int.mul_pos (by lia) (by lia),tD (nh fun d h1 h2=>?_) (nh fun d h1 h2=>?_)⟩
 ·have z:(d:Int)∣x*n:=(Int.dvd_add_left (jE h2 (yR ..))).mp h1
  exact ni a.fT (pK h h2 z) h2
 ·have z:(d:Int)∣y*m:=(Int.dvd_add_right (jE h2 (yR ..))).mp h1
  exact ni b.fT (pK (hU h) h2 z) h2
theorem Rb(a:b8 x m)(b:b8 y n)(g k:Nat)(eg:g=Int.gcd m n)(top:Int)(et:top=x*(n / (g:Int))+y*(m / (g:Int)))(ek:k=Int.gcd top (g:Int)) :
  b8 (top / (k:Int)) (m / (g:Int)*(n / (k:Int)))∧top / (k:Int)*(m*n)=(x*n+y*m)*(m / (g:Int)*(n / (k:Int))):=by
 have m0:=a.pos
 have n0:=b.pos
 have gp:0<g:=by rw [eg];exact oI _ (lP.mpr (by lia))
 have kp:0<k:=by rw [ek];exact oI _ (lP.mpr (by lia))
 have c1:=zB (a:=m) (b:=n) (by lia)
 have c2:=zB (a:=top) (b:=(g:Int)) (by lia)
 rw [←eg] at c1
 rw [←ek] at c2
 obtain ⟨m',em⟩:=kG (a:=m) (b:=n)
 obtain ⟨n',en⟩:=jD (a:=m) (b:=n)
 obtain ⟨t',e1⟩:=kG (a:=top) (b:=(g:Int))
 obtain ⟨g',e2⟩:=jD (a:=top) (b:=(g:Int))
 rw [←eg] at em en
 rw [←ek] at e1 e2
 have g0:(g:Int)≠0:=by lia
 have k0:(k:Int)≠0:=by lia
 have dm:m / (g:Int)=m':=by rw [em];exact jF _ g0
 have dn:n / (g:Int)=n':=by rw [en];exact jF _ g0
 have dt:top / (k:Int)=t':=by rw [e1];exact jF _ k0
 have dg:(g:Int) / (k:Int)=g':=by rw [e2];exact jF _ k0
 have dk:n / (k:Int)=g'*n':=by rw [en,e2,mK];exact jF _ k0
 rw [dm,dn] at c1 et
 rw [dt,dg] at c2
 rw [dt,dm,dk]
 have pos:∀{u v:Int},0<u→0<u*v→0<v:=fun hu hz=>zA hu hz
 have mp:0<m':=pos (u:=(g:Int)) (by lia) (by rw [←em];lia)
 have np:0<n':=pos (u:=(g:Int)) (by lia) (by rw [←en];lia)
 have Rc:0<g':=pos (u:=(k:Int)) (by lia) (by rw [←e2];lia)
 have tm:Int.gcd top m'=1:=nh fun d h1 h2=>by
  rw [et] at h1
  have z:(d:Int)∣x*n':=(Int.dvd_add_left (jE h2 (yR ..))).mp h1
  exact ni a.fT (pK c1 h2 z) (jE h2 ⟨g,by rw [em,dM]⟩)
 have tn:Int.gcd top n'=1:=nh fun d h1 h2=>by
  rw [et] at h1
  have z:(d:Int)∣y*m':=(Int.dvd_add_right (jE h2 (yR ..))).mp h1
  exact ni b.fT (pK (hU c1) h2 z) (jE h2 ⟨g,by rw [en,dM]⟩)
 have tt:t'∣top:=⟨k,by rw [e1,dM]⟩
 refine ⟨⟨Int.mul_pos mp (Int.mul_pos Rc np),tD (tE tm tt) (tD c2 (tE tn tt))⟩,?_⟩
 have q:(k:Int)*t'=x*n'+y*m':=by rw [←e1,et]
 have l:t'*(m*n)=(k:Int)*t'*(m'*(g'*n')*(g:Int)):=by
  rw [em,en]
  conv=>lhs;rw [show (g:Int)*n'=(k:Int)*g'*n' by rw [←e2]]
  simp only [mK,dM,Int.mul_left_comm]
 rw [l,q,em,en]
 simp only [Int.add_mul,mK,dM,Int.mul_left_comm]
def bQ(x:Int):Prop:=x.natAbs≤10 ^ 300
theorem Rf:(10:Nat) ^ 300<2 ^ 2048:=by decide +kernel
theorem bQ.mid(h:bQ x):dC x:=kD h Rf
theorem bQ.over{g:Int}(h:bQ x):bQ (x / g):=a8 (Int.natAbs_ediv_le_natAbs x g) h
theorem bQ.neg(h:bQ x):bQ (-x):=by unfold bQ;rw [sj];exact h
theorem bQ.gcd(h:bQ y)(z:y≠0):bQ (Int.gcd x y:Int):=by unfold bQ;rw [wL];exact a8 (Nat.gcd_le_right _ (lP.mpr z)) h
theorem zC(z:y≠0):(0:Int)<(Int.gcd x y:Int):=by have:=Iy (a:=x) z;lia
def Rg:Sp:=fun vs H Q _=>∃(p q:Addr) (x m y n:Int),vs=[.ref p,.ref q]∧H p=some (.tup [.int x,.int m])∧H q=some (.tup [.int y,.int n])∧b8 x m∧b8 y n∧bQ x∧bQ m∧bQ y∧bQ n ∧
 ∀(r:Addr) (H':Hp) (u d:Int),ae H H'→H' r=some (.tup [.int u,.int d])→b8 u d→u*(m*n)=(x*n+y*m)*d→Q (.ref r) H'
def Rh:Sp:=fun vs H Q _=>∃(p q:Addr) (x m y n:Int),vs=[.ref p,.ref q]∧H p=some (.tup [.int x,.int m])∧H q=some (.tup [.int y,.int n])∧b8 x m∧b8 y n∧bQ x∧bQ m∧bQ y∧bQ n ∧
 ∀(r:Addr) (H':Hp) (u d:Int),ae H H'→H' r=some (.tup [.int u,.int d])→b8 u d→u*(m*n)=(x*n-y*m)*d→Q (.ref r) H'
def Ri:Sp:=fun vs H Q _=>∃(p q:Addr) (x m y n:Int),vs=[.ref p,.ref q]∧H p=some (.tup [.int x,.int m])∧H q=some (.tup [.int y,.int n])∧b8 x m∧b8 y n∧bQ x∧bQ m∧bQ y∧bQ n ∧
 ∀(r:Addr) (H':Hp) (u d:Int),ae H H'→H' r=some (.tup [.int u,.int d])→b8 u d→u*(m*n)=x*y*d→Q (.ref r) H'
theorem b8.neg(h:b8 x m):b8 (-x) m:=⟨h.pos,by rw [Int.neg_gcd];exact h.fT⟩
def jX(C:Addr)(fr:Int→Int→Int→Int→Int)(rm:Int→Int→Int):Sp:=fun vs H Q _=>∃(z:Addr) (q:Int) (v u:V),vs=[.ref z,v,u]∧dy C H z q ∧
  ((q=0∧∃(p r:Addr) (x m y n:Int),v=.ref p∧u=.ref r∧H p=some (.tup [.int x,.int m])∧H r=some (.tup [.int y,.int n])∧b8 x m∧b8 y n∧bQ x∧bQ m∧bQ y∧bQ n ∧
    ∀(r':Addr) (H':Hp) (a d:Int),ae H H'→H' r'=some (.tup [.int a,.int d])→b8 a d→a*(m*n)=fr x m y n*d→Q (.ref r') H') ∨
   (2≤q∧∃i j:Int,v=.int i∧u=.int j∧0≤i∧i<1000∧Q (.int (rm i j % q)) H))
def bC(p:Int):Prop:=p=0∨(2≤p∧p≤997∧gK p=true)
inductive bh (B:Nat) (H:Hp):Int→V→Int→Int→Prop where
 | b6 {p:Addr} {x m:Int} (e:H p=some (.tup [.int x,.int m])) (l:b8 x m) (bx:x.natAbs≤B) (bm:m.natAbs≤B):bh B H 0 (.ref p) x m
 | rem {q i:Int} (h0:0≤i) (h1:i<q) (h2:q≤997):bh B H q (.int i) i 1
theorem bh.mono{B:Nat}(h:bh B H q v x m)(s:ae H H'):bh B H' q v x m:=by
 cases h with
 | b6 e l bx bm=>exact .b6 (s _ _ e) l bx bm
 | rem h0 h1 h2=>exact .rem h0 h1 h2
theorem zD{d T B:Int}(l:b8 u d)(hB:0<B)(e:u*B=T*d):d≤B∧u.natAbs≤T.natAbs:=by
 have h0:=l.pos;have hd:d∣B:=by
  have z:((d.natAbs:Nat):Int)∣B:=pK (a:=B) (b:=d) (c:=u) (hU l.fT) (Int.natAbs_dvd.mpr (iQ d)) ⟨T*(d / (d.natAbs:Int)),by
   have q:(d.natAbs:Int)=d:=by lia
   rw [q,Int.ediv_self (by lia),gu,dM B u,e,dM]⟩
  exact Int.natAbs_dvd.mp z
 have hle:=Int.le_of_dvd hB hd;refine ⟨hle,?_⟩;have z:u.natAbs*B.natAbs=T.natAbs*d.natAbs:=by rw [←fK,e,fK]
 have z2:T.natAbs*d.natAbs≤T.natAbs*B.natAbs:=Nat.mul_le_mul_left _ (by lia)
 rw [←z] at z2;exact Nat.le_of_mul_le_mul_right z2 (by lia)
theorem C_(h1:2≤q)(h2:q≤997)(hp:gK q=true)(b1:1≤b)(b2:b<q):Int.gcd q b=1:=by
 have gp:0<Int.gcd q b:=oI _ (lP.mpr (by lia))
 by_cases g1:Int.gcd q b=1;·exact g1
 exfalso
 obtain ⟨k,ek⟩:=kG (a:=q) (b:=b);have hb:=Int.le_of_dvd (by lia) (jD (a:=q) (b:=b))
 generalize Int.gcd q b=g at *;have kp:0<k:=zA (u:=(g:Int)) (by lia) (by rw [←ek];lia)
 have k2:k≠1:=fun z=>by rw [z,gu] at ek;lia
 have no:∀d:Int,2≤d→d*d≤q→q % d=0→False:=fun d x y z=>by rw [Iv h2 x y z] at hp;cases hp
 by_cases c:(g:Int)≤k;·exact no g (by lia) (by rw [ek];exact yQ c (by lia)) (by rw [ek];exact Int.mul_emod_right ..)
 ·exact no k (by lia) (by rw [ek];exact Int.mul_le_mul_of_nonneg_right (by lia) (by lia)) (by rw [ek];exact Int.mul_emod_left ..)
structure me (q b last lt now nt:Int):Prop where
 l:∃s,last=lt*b+s*q
 n:∃s,now=nt*b+s*q
 fT:Int.gcd last now=1
 pos:1≤now
 less:now≤last
variable {last nt:Int}
theorem me.step{lt now:Int}(h:me q b last lt now nt)(h1:1<now):me q b now nt (last-last / now*now) (lt-last / now*nt)∧last-last / now*now<now:=by
 obtain ⟨⟨s,es⟩,⟨r,er⟩,c,p,le⟩:=h;have e:last-last / now*now=last % now:=by have z:=BY last now;rw [dM] at z;lia
 have Rj:=gW last (show 0<now by lia)
 have ge:=gw last (show now≠0 by lia)
 have c':Int.gcd now (last % now)=1:=nh fun d x y=>ni c (by have z:=BY last now;rw [←z];exact Int.dvd_add y (jE x (Int.dvd_mul_right ..))) x
 have nz:last % now≠0:=fun z=>by rw [z,Int.gcd_zero_right] at c';lia
 refine ⟨⟨⟨r,er⟩,⟨s-last / now*r,?_⟩,by rw [e];exact c',by lia,by lia⟩,by lia⟩
 generalize last / now=f;rw [es,er,Int.sub_mul,Int.sub_mul,Int.mul_add,mK,mK];lia
theorem me.done{lt:Int}(h:me q b last lt 1 nt)(hq:2≤q):(nt % q*b) % q=1:=by
 obtain ⟨s,e⟩:=h.n;have z:nt*b=1+(-s)*q:=by rw [Int.neg_mul];lia
 have y:nt % q*b % q=nt*b % q:=by rw [wM (nt % q) b,Int.emod_emod,←wM]
 rw [y,z,Int.add_mul_emod_self_right];exact oJ (by lia) (by lia)
theorem me.start(h1:2≤q)(h2:q≤997)(hp:gK q=true)(b1:1≤b)(b2:b<q):me q b q 0 b 1:=
 ⟨⟨1,by lia⟩,⟨0,by lia⟩,C_ h1 h2 hp b1 b2,b1,by lia⟩
end My
namespace L2
open PySem PySem.Spec PyProof.Rows
def Iz(K:aD):R2:=fun x y H Q=>(∃a xs i,x=.ref a∧y=.int i∧d8 K H a xs∧Q (.bl false) H)∨(∃a xs i,x=.int i∧y=.ref a∧d8 K H a xs∧Q (.bl false) H)∨zq K false x y H Q∨G9 x y H Q
theorem IA{X:Cx}(hu:X.A.units<cLine):cq X (compareOp .Eq) (Iz X.K):=by
 intro pins s σ H x y v u Q I rx ry h;rcases h with ⟨a,xs,i,rfl,rfl,h1,q⟩ | ⟨a,xs,i,rfl,rfl,h1,q⟩ | h | h
 ·cases rx
  obtain ⟨t,rfl⟩:=ry;obtain ⟨us,r1,t1,_⟩:=I.tuple h1;exact SeqAt.RcAt.tuple_int i t t1 hu _ _ _ _ ⟨.bl false,H,I,rfl,q⟩
 ·cases ry
  obtain ⟨t,rfl⟩:=rx;obtain ⟨us,r1,t1,_⟩:=I.tuple h1;exact SeqAt.RcAt.int_tuple i t t1 hu _ _ _ _ ⟨.bl false,H,I,rfl,q⟩
 ·exact QL hu pins s σ H x y v u Q I rx ry h
 ·exact fP pins s σ H x y v u Q I rx ry h
end L2
namespace My
open PySem L2
def Rk(N:Addr):Sp:=fun vs H Q E=>∃q b:Int,vs=[.int q,.int b]∧2≤q∧q≤997∧gK q=true∧0≤b∧b<q∧(b=0→E (.ref N) none H)∧(b≠0→∀r:Int,0≤r→r<q→(r*b) % q=1→Q (.int r) H)
def Rl(N:Addr):Sp:=fun vs H Q E=>∃(p q:Addr) (x m y n:Int),vs=[.ref p,.ref q]∧H p=some (.tup [.int x,.int m])∧H q=some (.tup [.int y,.int n])∧b8 x m∧b8 y n∧bQ x∧bQ m∧bQ y∧bQ n ∧
 (y=0→E (.ref N) none H)∧(y≠0→∀(r:Addr) (H':Hp) (u d:Int),ae H H'→H' r=some (.tup [.int u,.int d])→b8 u d→u*(m*y)=x*n*d→Q (.ref r) H')
def Rm(N:Addr):Sp:=fun vs H Q E=>∃q i j:Int,vs=[.int q,.int i,.int j]∧2≤q∧q≤997∧gK q=true∧0≤i∧i<q∧0≤j∧j<q∧(j=0→E (.ref N) none H)∧(j≠0→∀r:Int,0≤r→r<q→(r*j) % q=i→Q (.int r) H)
variable {y n:Int}
theorem Rn(l:b8 y n)(h:0<y):b8 n y:=⟨h,hU l.fT⟩
theorem Ro(l:b8 y n)(h:y<0):b8 (-n) (-y):=⟨by lia,by rw [Int.neg_gcd,Int.gcd_neg];exact hU l.fT⟩
theorem Rp{q i j r:Int}(hq:2≤q)(i0:0≤i)(i1:i<q)(h:(r*j) % q=1):(i*r % q*j) % q=i:=by
 have y:i*r % q*j % q=i*(r*j) % q:=by rw [wM (i*r % q) j,Int.emod_emod,←wM,mK]
 rw [y,wM,h,oJ i0 i1,gu,oJ i0 i1]
def zE(C N:Addr):Sp:=fun vs H Q E=>∃(z:Addr) (q:Int) (v u:V),vs=[.ref z,v,u]∧dy C H z q ∧
  ((q=0∧∃(p r:Addr) (x m y n:Int),v=.ref p∧u=.ref r∧H p=some (.tup [.int x,.int m])∧H r=some (.tup [.int y,.int n])∧b8 x m∧b8 y n∧bQ x∧bQ m∧bQ y∧bQ n ∧
    (y=0→E (.ref N) none H)∧(y≠0→∀(r':Addr) (H':Hp) (a d:Int),ae H H'→H' r'=some (.tup [.int a,.int d])→b8 a d→a*(m*y)=x*n*d→Q (.ref r') H')) ∨
   (2≤q∧∃i j:Int,v=.int i∧u=.int j∧q≤997∧gK q=true∧0≤i∧i<q∧0≤j∧j<q∧(j=0→E (.ref N) none H)∧(j≠0→∀r:Int,0≤r→r<q→(r*j) % q=i→Q (.int r) H)))
end My
namespace L2
open PySem PySem.Spec PyProof.Rows
structure i6 (K:aD) (x qual:Str) (st:Stmt) (i:Int) (f:Addr) (fd:FuncData):Prop where
 ex:∃(oc:Value) (od:Option Addr) (kV doc pm:Value) (an:Option Addr) (aZ ct:Value) (fA:Array (Option Value)) (dT:Addr) (tk:Tok) (nj:Value) (nk:Option Addr) (n:Nat) (nq:Array (Option Value)),
  fd=PySem.W.fnOf x qual (iZ st) (fS st) (aH st) (.ref dT) kV doc pm an aZ ct∧K.lookup f=some ⟨oc,od,.func fd,fA⟩∧PySem.W.codeIn K aZ qual=true∧K.lookup dT=some ⟨nj,nk,.seq #[.int i tk] n,nq⟩
 kp:PySem.W.keepIn K (.ref f)=true
section
variable {P:Program} {w:World} {K:aD} {mg:cG} {base:Heap}
variable {x qual:Str} {st:Stmt} {i:Int} {f:Addr} {fd:FuncData} {ps:List Str}
theorem i6.sX{N:List Str}{k:Nat}{sp:Sp}(F:i6 K x qual st i f fd)(S:ba N ps (aH st))(len:∀vs H Q E,sp vs H Q E→vs.length=ps.length)
  (jP:∀(aZ:Value) (A:Around) (outer:List Env) (s:Shared) (H:Hp) (vs:List V) (Q:VK) (E:XK),cJ k (A.deeper (envOfC qual (aH st) s.heap.objs.size f aZ))→sp vs H Q E→
   ph (iX (cL P w) P w K mg base N qual (aH st) f aZ A outer s H E) E→
   ∃t,dN (iX (cL P w) P w K mg base N qual (aH st) f aZ A outer s H E) (fS st) t∧t {nx:=fun _ H'=>Q .aF H',rt:=Q} (start N vs) H):aV P w K mg base (cL P w) (k+1) f fd ps sp:=by
 obtain ⟨oc,od,kV,doc,pm,an,aZ,ct,fA,dT,tk,nj,nk,n,nq,rfl,lk,fq,ld⟩:=F.ex;exact Cz lk fq S len fun A outer s H vs Q E hr jn=>jP aZ A outer s H vs Q E hr jn ⟨rfl,rfl,rfl,rfl⟩
theorem zF{dT:Addr}{oc:Value}{od an:Option Addr}{fA:Array (Option Value)}{kV doc pm aZ ct:Value}{tk:Tok}{nj:Value}{nk:Option Addr}{n:Nat}{nq:Array (Option Value)}
  (l:K.lookup f=some ⟨oc,od,.func (PySem.W.fnOf x qual (iZ st) (fS st) (aH st) (.ref dT) kV doc pm an aZ ct),fA⟩)
  (c:PySem.W.codeIn K aZ qual=true) (k:PySem.W.keepIn K (.ref f)=true) (ld:K.lookup dT=some ⟨nj,nk,.seq #[.int i tk] n,nq⟩):i6 K x qual st i f (PySem.W.fnOf x qual (iZ st) (fS st) (aH st) (.ref dT) kV doc pm an aZ ct):=
 ⟨⟨oc,od,kV,doc,pm,an,aZ,ct,fA,dT,tk,nj,nk,n,nq,rfl,l,c,ld⟩,k⟩
theorem i6.binds(F:i6 K x qual st i f fd)
  (h:∀(s:Shared) (dT:Addr) (kV doc pm:Value) (an:Option Addr) (aZ ct:Value) (tk:Tok) (o:Obj) (n:Nat) (us:List Value),s.heap.get? dT=some o→o.data=.seq #[.int i tk] n→us.length=ps.length→
   BindsTo s (PySem.W.fnOf x qual (iZ st) (fS st) (aH st) (.ref dT) kV doc pm an aZ ct) ⟨us,[]⟩ (ps.zip us)):Binds K fd ps []:=by
 obtain ⟨oc,od,kV,doc,pm,an,aZ,ct,fA,dT,tk,nj,nk,n,nq,rfl,lk,fq,ld⟩:=F.ex;intro s us X hl;rw [yH] at hl ⊢;exact h s dT kV doc pm an aZ ct tk _ n us (X _ _ ld) rfl hl
theorem i6.Rq(F:i6 K x qual st i f fd)
  (h:∀(s:Shared) (dT:Addr) (kV doc pm:Value) (an:Option Addr) (aZ ct:Value) (tk:Tok) (o:Obj) (n:Nat) (us:List Value),s.heap.get? dT=some o→o.data=.seq #[.int i tk] n→us.length+1=ps.length→
   BindsTo s (PySem.W.fnOf x qual (iZ st) (fS st) (aH st) (.ref dT) kV doc pm an aZ ct) ⟨us,[]⟩ (ps.zip (us++[.int i tk]))):∃v,Vals [V.int i] [v]∧Binds K fd ps [v]:=by
 obtain ⟨oc,od,kV,doc,pm,an,aZ,ct,fA,dT,tk,nj,nk,n,nq,rfl,lk,fq,ld⟩:=F.ex;refine ⟨.int i tk,.cons ⟨tk,rfl⟩ .nil,fun s us X hl=>?_⟩;exact h s dT kV doc pm an aZ ct tk _ n us (X _ _ ld) rfl (by simpa using hl)
theorem i6.Rr{y:Str}(F:i6 K x qual st i f fd)
  (h:∀(s:Shared) (dT:Addr) (kV doc pm:Value) (an:Option Addr) (aZ ct:Value) (tk:Tok) (o:Obj) (n:Nat) (us ws:List Value),s.heap.get? dT=some o→o.data=.seq #[.int i tk] n→ws.length=1→us.length+1=ps.length→
   BindsTo s (PySem.W.fnOf x qual (iZ st) (fS st) (aH st) (.ref dT) kV doc pm an aZ ct) ⟨us,[y].zip ws⟩ (ps.zip (us++ws))) :
  ∀(s:Shared) (us ws:List Value),K.In s.heap→ws.length=1→us.length+1=ps.length→BindsTo s fd ⟨us,[y].zip ws⟩ (ps.zip (us++ws)):=by
 obtain ⟨oc,od,kV,doc,pm,an,aZ,ct,fA,dT,tk,nj,nk,n,nq,rfl,lk,fq,ld⟩:=F.ex;intro s us ws X hw hl;exact h s dT kV doc pm an aZ ct tk _ n us ws (X _ _ ld) rfl hw hl
end
section
variable {X:Cx} {CX:gZ} {k:Nat} {f C:Addr} {fd:FuncData} {ps:List Str} {y:Str} {sp:Sp} {E:XK} {m:Str} {pos apos HB:Pos} {e e' o:Expr} {ta:TE} {t tk:TA}
def Dc(K:aD):R2:=fun x y H Q=>zq K true x y H Q∨G_ x y H Q
theorem Rt(hu:X.A.units<cLine):cq X (compareOp .NotEq) (Dc X.K):=by
 intro pins s σ H x y v u Q I rx ry h;rcases h with h | h;·exact QM hu pins s σ H x y v u Q I rx ry h
 ·exact fz pins s σ H x y v u Q I rx ry h
end
end L2
namespace My
open PySem L2
def xv(a b:Int):Int:=a.fdiv (lowG a b)
def xw(a b:Int):Int:=b.fdiv (lowG a b)
theorem IC(a:Int):xv a 1=a∧xw a 1=1:=by
 unfold xv xw lowG;rw [Int.gcd_one_right,ak (by decide)]
 exact ⟨Int.fdiv_one a,Int.fdiv_one 1⟩
def Ru(N:Addr):Sp:=fun vs H Q E=>∃a b:Int,vs=[.int a,.int b]∧dC b∧(b=0→E (.ref N) none H)∧(b≠0→∀(r:Addr) (H':Hp),ae H H'→H' r=some (.tup [.int (xv a b),.int (xw a b)])→Q (.ref r) H')
def nB(q b:Int):Prop:=if q=0 then b=0 else b % q=0
def xx(H:Hp)(q:Int)(v:V)(a b:Int):Prop:=
 (q=0∧∃r:Addr,v=.ref r∧H r=some (.tup [.int (xv a b),.int (xw a b)]))∨(2≤q∧∃r:Int,v=.int r∧0≤r∧r<q∧(r*(b % q)) % q=a % q)
theorem xx.mono{H H':Hp}{q:Int}{v:V}{a b:Int}(h:xx H q v a b)(s:ae H H'):xx H' q v a b:=by
 rcases h with ⟨h,r,e,h2⟩ | h;·exact .inl ⟨h,r,e,s _ _ h2⟩
 ·exact .inr h
def Rv(C N:Addr):Sp:=fun vs H Q E=>∃(z:Addr) (q a b:Int),vs=[.ref z,.int a,.int b]∧dy C H z q∧bC q∧dC b ∧
 (nB q b→E (.ref N) none H)∧(¬nB q b→∀(v:V) (H':Hp),ae H H'→xx H' q v a b→Q v H')
end My
namespace L2
open PySem PySem.Spec PyProof.Rows
section
variable {X:Cx}
end
end L2
namespace My
open PySem L2
variable {q c:Int}
theorem Rx{t:Int}(h:Int.gcd q c=1)(d:q∣c-t):Int.gcd q t=1:=by
 refine nh fun e h1 h2=>ni h h1 ?_;have z:=Int.dvd_add (jE h1 d) h2;rw [show c-t+t=c by lia] at z
 exact z
theorem Ry{a:Int}(q2:2≤q)(g:Int.gcd q c=1)(d:q∣a*c):q∣a:=by
 have qq:((q.natAbs:Nat):Int)=q:=by lia
 have z:=pK (a:=a) (b:=q) (c:=c) (d:=q.natAbs) g (by rw [qq];exact iQ q) (by rw [qq];exact d)
 rw [qq] at z;exact z
theorem Rz(a q:Int):∃w,a % q+q*w=a:=⟨a / q,BY a q⟩
section
variable {C N z:Addr} {q:Int} {v u:V} {t b t' b':Int} {H:Hp} {Q:VK} {E:XK}
end
theorem bh.bG{B:Nat}{H H':Hp}{v:V}{x m:Int}{D:Addr}{ys:List V}(h:bh B H q v x m)(eD:H D=some (.lst ys))(k:∀b o,b≠D→H b=some o→H' b=some o):bh B H' q v x m:=by
 cases h with
 | b6 e l bx bm=>refine .b6 (k _ _ (fun z=>?_) e) l bx bm;rw [z,eD] at e;cases e
 | rem h0 h1 h2=>exact .rem h0 h1 h2
end My
namespace L2
open PySem PySem.Spec PyProof.Rows
structure nC (J:It) (xs:List V) (H1:Hp):Prop where
 go:∀i Hc,ae H1 Hc→i<xs.length→J.go i Hc
 dY:∀i Hc x H',ae H1 Hc→J.dY i Hc x H'→H'=Hc∧(i<xs.length→xs[i]?=some x)
 stop:∀i Hc,ae H1 Hc→xs.length≤i→J.stop i Hc
variable {xs:List V} {H1:Hp}
theorem nE{K:aD}{a:Addr}(h:bO K H1 a xs):nC (sI K a) xs H1 where
 go:=fun i Hc s hi=>⟨xs,xs[i],s.seq h,by simp [hi]⟩
 dY:=fun i Hc x H' s y=>⟨y.1,fun _=>y.2 xs (s.seq h)⟩
 stop:=fun i Hc s hi=>⟨xs,s.seq h,hi⟩
theorem zG{lo:Int}{n:Nat}:nC (lV lo n) ((List.range n).map fun i:Nat=>V.int (lo+(i:Int))) H1 where
 go:=fun i Hc s hi=>by
  have hi:i<n:=by simpa using hi
  exact hi
 dY:=fun i Hc x H' s y=>⟨y.1,fun hi=>by
  have hi:i<n:=by simpa using hi
  rw [y.2];simp [hi]⟩
 stop:=fun i Hc s hi=>by
  have hi:n≤i:=by simpa using hi
  exact hi
variable {H:Hp} {D:Addr}
theorem iE{H':Hp}{o:HO}(s:ae H H')(n:H D=none):ae H (upd H' D o):=fun b u e=>by rw [aO (fk e n)];exact s b u e
variable {te:TE} {Q:VK}
theorem ID{J:It}{ρσ:St}(js:nC J xs H1)(nD:H1 D=none)(hn:xs.length<sizeLine)
  (P:Nat→V→Hp→Prop) (mono:∀i y H H' ys,P i y H→H D=some (.lst ys)→(∀b o,b≠D→H b=some o→H' b=some o)→P i y H')
  (step:∀i x,xs[i]?=some x→∀(Hc:Hp) (R:VK),ae H1 Hc→(∃ys,Hc D=some (.lst ys))→(∀y H3,ae Hc H3→P i y H3→R y H3)→te (some x::ρσ) Hc R)
  (fin:∀ys Hc,ae H1 Hc→ys.length=xs.length→(∀i y,ys[i]?=some y→P i y Hc)→Hc D=some (.lst ys)→Q (.ref D) Hc) :
  ∃W:Nat→Nat→List V→Hp→Prop,(∃m,W 0 m [] (upd H1 D (.lst []))) ∧
   ∀i m ys Hc,W i m ys Hc→Hc D=some (.lst ys)∧((J.stop i Hc∧Q (.ref D) Hc)∨(J.go i Hc∧∀x H',J.dY i Hc x H'→
    if true=true then te (some x::ρσ) H' fun y H3=>H3 D=some (.lst ys)∧ys.length<sizeLine∧∃m',m'<m∧W (i+1) m' (ys++[y]) (upd H3 D (.lst (ys++[y]))) else ∃m',m'<m∧W (i+1) m' ys H')):=by
 refine ⟨fun i m ys Hc=>m=xs.length-i∧i≤xs.length∧Hc D=some (.lst ys)∧ae H1 Hc∧ys.length=i∧∀j y,ys[j]?=some y→P j y Hc,⟨_,rfl,b_ _,au,iE (ae.refl H1) nD,rfl,fun j y e=>by simp at e⟩,?_⟩
 rintro i m ys Hc ⟨rfl,hi,eD,sH,el,hP⟩;refine ⟨eD,?_⟩;by_cases bP:i<xs.length
 ·refine .inr ⟨js.go i Hc sH bP,fun x H' hy=>?_⟩
  obtain ⟨rfl,hx⟩:=js.dY i Hc x H' sH hy;rw [aq rfl];refine step i x (hx bP) _ _ sH ⟨ys,eD⟩ fun y H3 s3 hp=>?_;have e3:=s3 _ _ eD;refine ⟨e3,by lia,xs.length-(i+1),by lia,rfl,bP,au,iE (sH.trans s3) nD,by simp [el],fun j y' e=>?_⟩
  have bG:∀b o,b≠D→H3 b=some o→upd H3 D (.lst (ys++[y])) b=some o:=fun b o nb e=>by rw [aO nb];exact e
  by_cases hj:j<i
  ·have e':ys[j]?=some y':=by rw [mI (by lia)] at e;exact e
   refine mono j y' H' _ ys (hP j y' e') eD fun b o nb e=>?_;exact bG b o nb (s3 _ _ e)
  ·have hj:j=i:=by have:=(bV.mp e).1;simp at this;lia
   subst hj;have e':y'=y:=by rw [mH (by lia),el,Nat.sub_self] at e;simpa using e.symm
   subst e';exact mono _ _ H3 _ ys hp e3 bG
 ·have e:i=xs.length:=by lia
  subst e;exact .inl ⟨js.stop _ Hc sH (aN _),fin ys Hc sH el hP eD⟩
variable {wi:TI} {ρ:St→St} {σ:St}
theorem IE(jY:∀R:It→Hp→Prop,(∀J H1,ae H H1→nC J xs H1→R J H1)→wi σ H R)(hn:xs.length<sizeLine)
  (P:Addr→Nat→V→Hp→Prop) (mono:∀D i y H H' ys,P D i y H→H D=some (.lst ys)→(∀b o,b≠D→H b=some o→H' b=some o)→P D i y H')
  (step:∀D i x,xs[i]?=some x→∀(Hc:Hp) (R:VK),ae H Hc→(∃ys,Hc D=some (.lst ys))→(∀y H3,ae Hc H3→P D i y H3→R y H3)→te (some x::ρ σ) Hc R)
  (fin:∀D ys Hc,ae H Hc→ys.length=xs.length→(∀i y,ys[i]?=some y→P D i y Hc)→Hc D=some (.lst ys)→Q (.ref D) Hc):jS wi ρ (fun _ H Q=>Q true H) te σ H Q:=by
 refine jY _ fun J H1 s1 js=>?_;intro D nD;exact ID (ρσ:=ρ σ) (te:=te) (Q:=Q) js nD hn (P D) (mono D) (fun i x hx Hc R sc=>step D i x hx Hc R (s1.trans sc)) (fun ys Hc sc=>fin D ys Hc (s1.trans sc))
theorem aY{g:TG}{D:Ends}(h:te σ H fun x H1=>g x σ H1 D.nx):mY te g D σ H:=h
theorem nF{a b:TS}{D:Ends}(h:a {D with nx:=fun σ H=>b D σ H} σ H):Ci a b D σ H:=h
section
variable {X:Cx} {N:List Str} {scope:Scope} {cl:List (Str×Addr)} {x:Str} {px pos:Pos} {iter elt:Expr} {ifs:List Expr} {wi:TI} {ρ:St→St} {tt:TT} {te:TE}
theorem zH{y:Str}{py xy:Pos}{i0:Nat}(B:CZ X N scope cl x ρ)(hc:X.calm=true)(hN:X.N.Nodup)(Dd:X.N[i0]?=some y)(hy:Loc X.env.scope y)(hi:PI X (.Name x px) iter wi)(ht:∀s₃ H₃ fp,k_ (X.bw N scope cl s₃ H₃ fp) ifs tt)(he:∀s₃ H₃ fp,PE (X.bw N scope cl s₃ H₃ fp) elt te)
  (De:swapsWith (.ListComp elt [⟨.Name x px,iter,ifs,0⟩] scope pos) (some (.Name y py)) xy.line X.env=pure true:=by rfl) (hf:X.fn y=true∨X.env.scope.names.lookup y=some .local:=by first | exact .inl rfl | exact .inr rfl | assumption)
  (hs:∀x,foldedSetIterable iter X.env x=pure x:=by intro _;rfl):PS X (.Assign [.Name y py] (.ListComp elt [⟨.Name x px,iter,ifs,0⟩] scope pos) xy) (mY (jS wi ρ tt te) (cg i0)):=by
 intro pins s σ H D0 I h
 have h:jS wi ρ tt te σ H (fun v H1=>D0.nx (σ.set i0 (some v)) H1):=h
 rw [exec_Assign_Name_used _ _ _ _ De]
 refine b9 (wF (b9 ?_))
 show wpAny _ X.A (do let _ ←comprehension (.ListComp elt [⟨.Name x px,iter,ifs,0⟩] scope pos) scope X.env _ (newList []) false (eval iter X.env) (some (assign (.Name y py) X.env))) _ _ s
 refine b9 (bM (Q:=fun _ s'=>SP X pins D0 .next s') ?_ (fun _ s' hq=>eG (eG hq)) fun _ _ e=>e)
 refine yL (use:=some (assign (.Name y py) X.env)) rfl hs B.xr B.kind B.names (aK (hi pins s σ H _ I h) fun v s1 h1=>aK h1 fun sF s2 h2=>?_)
 obtain ⟨it,fp,tn,J,H2,rfl,I2,T,eP,f2,q2⟩:=h2
 have nD:H2 s2.heap.objs.size=none:=I2.ay.fresh (aN _)
 obtain ⟨W,⟨m0,w0⟩,turn⟩:=q2 _ nD
 refine wG (yM B.xt (by intro y hy;simp at hy) (fun h₁ fC fD=>?_) B.kind)
 dsimp only at fC fD ⊢
 generalize hD:s2.heap.objs.size=D at nD w0 turn fC fD ⊢
 generalize g9:({s2 with heap:=s2.heap.push {cls:=.type "list",dict:=none,data:=.seq ([]:List Value).toArray}}:Shared)=s3
 have I3:Inv X pins σ (upd H2 D (.lst [])) s3:=by
  subst hD g9
  exact I2.laid (t':=s2.toks) (fun b u e=>cu _ e) (aN _) ⟨b_ _,[],_,.nil,eJ _ rfl⟩
 have e3:s3.heap=s2.heap.push {cls:=.type "list",dict:=none,data:=.seq ([]:List Value).toArray}:=by rw [←g9]
 have fE:∀b o,s2.heap.get? b=some o→s3.heap.get? b=some o:=fun b o e=>by rw [e3];exact cu _ e
 rw [←e3] at fC fD ⊢
 have below:∀b o,s3.heap.get? b=some o→b≠s3.heap.objs.size:=fun b o e=>cV (bL e)
 have dq:∀b o,s3.heap.get? b=some o→h₁.get? b=some o:=fun b o e=>fD.extBut b o (below b o e) (cu _ e)
 have g_:∀b∈fp,∃o,s2.heap.get? b=some o∧∀v,o.data≠.cell v:=T.obj _ _ eP
 have pA:∀b∈fp,b≠D:=fun b hb z=>by
  obtain ⟨o,e,_⟩:=g_ b hb
  rw [z,←hD] at e
  exact absurd (bL e) (eV _)
 have cP:∀y c,cl.lookup y=some c→X.env.cells.lookup y=some c:=fun y c e=>B.sub (y,c) (kC e)
 have pB:=I3.sA
 have dP:(X.bw N scope cl s3 (upd H2 D (.lst [])) fp).Ok:=by
  refine ⟨I.ok.mod,B.kind,I.ok.glob,I.ok.blt,aN _,fun a b c e1 e2=>I.ok.inj a b c (cP a c e1) (cP b c e2),fun y hy=>B.has y hy,(fun _ _ z _=>absurd z cW),(fun _=>I.ok.hd hc),I.ok.frames,.inl rfl,fun b hb=>⟨?_,fun y c e z=>?_⟩,fun b o e=>?_,a8 I.ok.gA I3.sz,fun b o e hb=>?_,fun b hb z=>?_,I3.stack,pB⟩
  ·obtain ⟨o,e,_⟩:=g_ b hb
   exact below b o (fE b o e)
  ·exact (f2 b hb).2.2.2.2.1 y c (cP y c e) z
  ·exact I3.bs b o e
  ·rcases (f2 b hb).2.2.2.1 with z | z
   ·exact I.ok.lS b o e z
   ·exact absurd (dJ (bL e) (a8 I.ok.gA z)) (eV _)
  ·rcases cM.mp (I3.sv b z) with z | z
   ·exact (f2 b hb).2.1 z
   ·exact (f2 b hb).2.2.1 z
 have IB:∀tk:Nat,Inv (X.bw N scope cl s3 (upd H2 D (.lst [])) fp) [] (none::ρ σ) (upd H2 D (.lst [])) {s3 with heap:=h₁,toks:=tk}:=fun tk=>by
  refine ⟨dP,rfl,I3.bare,Un.kept dq,⟨_,fC,fun j y v e1 e2 e3=>?_⟩,fun y c e=>?_,?_,fun y c e=>I3.gB y c (cP y c e),(fun p hp=>nomatch hp),I3.ay.kept dq,?_⟩
  ·cases j with
   | zero=>cases e2
   | succ j=>
    obtain ⟨i,y',a1,a2,a3,a4,a5,a6⟩:=B.xu σ j v e2
    have pD:N[j+1]?=some y:=e1
    rw [pD] at a1
    cases a1
    obtain ⟨m,hn,hl⟩:=I3.loc
    obtain ⟨u,r,l⟩:=hl i y v a2 a3 a4
    refine ⟨u,r,.inr ⟨a6,?_⟩⟩
    obtain ⟨c,ec⟩:=B.has y a6
    rcases l with ⟨k,_⟩ | ⟨_,c',jU,z⟩
    ·rcases a5 with q | q <;> (rw [k] at q;cases q)
    ·have:=cP y c ec
     rw [this] at jU
     cases jU
     obtain ⟨o,ho,hd⟩:=z
     exact ⟨c,ec,o,dq _ _ ho,hd⟩
  ·obtain ⟨v,o,ho,hd⟩:=I3.cell y c (cP y c e)
   exact ⟨v,o,dq _ _ ho,hd⟩
  ·exact I3.ay.fresh (aN _)
  ·show (none::ρ σ).length=N.length
   rw [eK]
   exact B.len σ I.len
 have pL:∀b o,s3.heap.get? b=some o→b≠s3.heap.objs.size:=below
 have fin:∀{σ':St} {H':Hp} {s':Shared},Inv (X.bw N scope cl s3 (upd H2 D (.lst [])) fp) [] σ' H' s'→D0.nx (σ.set i0 (some (.ref D))) H'→compPost (model X.prog X.w) X.A X.xe (some (assign (.Name y py) X.env)) (fun _ s'=>SP X pins D0 .next s') (.ref D) s3.heap.objs.size (.ok .next) s':=fun{σ' H' s'} J q=>by
  obtain ⟨m,hn,_⟩:=J.loc
  have hn:s'.heap.Ns s3.heap.objs.size m:=hn
  have JC:H' s3.heap.objs.size=none:=J.free
  have u1:Un (cf X.stack) fp (upd H2 D (.lst [])) H' s3.heap s'.heap:=by
   refine ⟨fun b o e n hb hx=>J.base.keep b o e n hb hx,fun b o e n hb hx=>J.base.slot b o e n hb hx,J.base.free,fun b o e hx=>J.base.there b o e hx,J.base.eL,J.base.d5,J.base.eN⟩
  have IX:Inv X pins σ H' s':=I3.kP (ch:=fp) (J.os) u1 J.ay J.bare fun b hb=>by
   obtain ⟨g0,g1,g2,g3,g4,g5⟩:=f2 b hb
   exact ⟨g3,g1,g4,g5⟩
  have nl:X.env.locals≠s3.heap.objs.size:=by
   obtain ⟨m3,⟨o3,_,_,e3,_⟩,_⟩:=I3.loc
   exact pL _ _ e3
  have nc:∀z c,X.env.cells.lookup z=some c→c≠s3.heap.objs.size:=fun z c e=>by
   obtain ⟨v3,o3,e3,_⟩:=I3.cell z c e
   exact pL _ _ e3
  refine wpAny_assign_Name (B_ (v:=.ref D) IX hN Dd hy rfl (fun iY pM pN=>?_) hf)
  obtain ⟨a,pN,ha⟩:=pN
  have na:s3.heap.objs.size≠a:=by
   rcases ha with rfl | e
   ·exact fun z=>nl z.symm
   ·exact fun z=>nc _ _ e z.symm
  refine ⟨m,hn.sameBut pN na,fun h' fF=>⟨σ.set i0 (some (.ref D)),H',?_,q⟩⟩
  have u2:Un (cf X.stack) [s3.heap.objs.size] H' H' iY.heap h':=by
   refine ⟨fun b o e n hb hx=>(fF.2 b (by simpa using hx)).trans e,fun b o e n hb hx=>⟨o.slots,(fF.2 b (by simpa using hx)).trans e⟩,fun b o e n hx=>n,fun b o e hx=>⟨o,(fF.2 b (by simpa using hx)).trans e⟩,fun b xs z=>z,fun b o u z=>z,fun b ps z=>⟨#[],by simpa using z⟩⟩
  have pE:bW X.prog X.w H' h':=fun b u e=>by
   refine (pM.ay b u e).iz (fun c v hc z=>(fF.2 c fun y=>?_).trans z) (fun _ z=>z) fun _ _ z=>z
   have y':c=s3.heap.objs.size:=y
   rcases hc with hc | hc
   ·rw [←hc,y',JC] at e
    cases e
   ·rw [y',JC] at hc
    cases hc
  refine pM.kP (s':={iY with heap:=h'}) (ch:=[s3.heap.objs.size]) rfl u2 pE pM.bare fun b hb=>?_
  have eb:b=s3.heap.objs.size:=by simpa using hb
  subst eb
  refine ⟨.inr I3.sz,fun z=>nl z.symm,fun z c e=>nc z c e,fun p hp=>?_⟩
  exact pL _ _ (I3.pin p hp).1
 have ft:∀{H':Hp},(∀b∈fp,H' b=none)→∀b∈fp,kW (X.bw N scope cl s3 (upd H2 D (.lst [])) fp) [] H' b:=fun hn b hb=>by
  refine ⟨hn b hb,?_,?_,.inl hb,fun y c e z=>(f2 b hb).2.2.2.2.1 y c (cP y c e) z,fun p hp=>nomatch hp⟩
  ·obtain ⟨o,e,_⟩:=g_ b hb
   exact below b o (fE b o e)
  ·exact dP.lU b hb
 have loop:∀tk:Nat,codeAny (model X.prog X.w) X.A (.compLoop (.ListComp elt [⟨.Name x px,iter,ifs,0⟩] scope pos) 0 (.ref it) (.ref D) (compEnvC scope cl s3.heap.objs.size X.env))
   (compPost (model X.prog X.w) X.A X.xe (some (assign (.Name y py) X.env)) (fun _ s'=>SP X pins D0 .next s') (.ref D) s3.heap.objs.size) {s3 with heap:=h₁,toks:=tk}:=fun tk=>by
  refine codeAny_compLoop_tests (fun n s'=>∃i ys o H',Inv (X.bw N scope cl s3 (upd H2 D (.lst [])) fp) [] (o::ρ σ) H' s'∧tn i s'.heap∧(∀b∈fp,H' b=none)∧W i n ys H') ?_ m0
   ⟨0,[],none,_,IB tk,T.keep _ _ _ eP fun b hb o e=>dq _ _ (fE _ _ e),fun b hb=>by rw [aO (pA b hb)];exact (f2 b hb).1,w0⟩
  rintro n s4 ⟨i,ys,o,H4,I4,jV,jW,w4⟩
  obtain ⟨C1,pF⟩:=turn i n ys H4 w4
  rcases pF with ⟨stop,qn⟩ | ⟨go,step⟩
  ·refine bM (T.done (X.bw N scope cl s3 (upd H2 D (.lst [])) fp) rfl rfl rfl hc i [] s4 _ H4 (fun _ _=>False) I4 (ft jW) jV stop) (fun r s5 ⟨hr,I5⟩=>?_) fun _ _ z=>z.elim
   subst hr
   exact fin I5 qn
  ·refine bM (T.item (X.bw N scope cl s3 (upd H2 D (.lst [])) fp) rfl rfl rfl hc i [] s4 _ H4 (fun _ _=>False) I4 (ft jW) jV go) (fun r s5 ⟨u,hr,h5⟩=>?_) fun _ _ z=>z.elim
   subst hr
   have z:letOwnedTupleGo (.Name x px) (.ref it) u=pure ():=rfl
   rw [z] at h5
   show wpAny _ _ ((pure ():Sem Unit) >>= fun _=>assign (.Name x px) (compEnvC scope cl s3.heap.objs.size X.env) u) _ _ s5
   refine b9 (bM h5 (fun _ s5 ⟨y,H5,I5,r5,y5,fv,lW⟩=>?_) fun _ _ z=>z.elim)
   have lX:=I5.pinned (ft lW) (T.obj _ _ fv)
   have pg:PG (X.bw N scope cl s3 (upd H2 D (.lst [])) fp) (.Name x px) (cg 0):=cj (i:=0) B.nd B.n0 (.inl (jd B.hx)) (.inr (jd B.hx))
   have again:∀{σ7:St} {H7:Hp} {s7:Shared},Inv (X.bw N scope cl s3 (upd H2 D (.lst [])) fp) ([]++jk fp s5.heap) σ7 H7 s7→Inv (X.bw N scope cl s3 (upd H2 D (.lst [])) fp) [] σ7 H7 s7∧tn (i+1) s7.heap∧∀b∈fp,H7 b=none:=fun{σ7 H7 s7} I7=>by
    refine ⟨I7.oX,T.keep _ _ _ fv fun b hb o e=>(I7.pin (b,o) (dX _ (dX _ (kZ hb e)))).1,fun b hb=>?_⟩
    obtain ⟨o,e,d⟩:=T.obj _ _ fv b hb
    exact (I7.pin (b,o) (dX _ (dX _ (kZ hb e)))).2.1
   refine bM (pg _ s5 _ H5 y u (fun σ2 H6=>σ2=some y::ρ σ∧H6=H5) lX r5 ⟨rfl,rfl⟩) (fun _ s6 ⟨σ6,H6,I6,q6⟩=>?_) fun _ _ z=>z.elim
   obtain ⟨rfl,rfl⟩:=q6
   have pG:=step y _ y5
   have tests:∀{hE:TT},k_ (X.bw N scope cl s3 (upd H2 D (.lst [])) fp) ifs hE→∀{R:Bool→Hp→Prop},hE (some y::ρ σ) H6 R→wpAny (model X.prog X.w) X.A
     (forIn ifs true fun c r=>if r=true then do let ok ←isTrue c (compEnvC scope cl s3.heap.objs.size X.env) (eval c (compEnvC scope cl s3.heap.objs.size X.env));pure (ForInStep.yield ok) else pure (ForInStep.yield r))
     (fun ok s7=>∃H7,Inv (X.bw N scope cl s3 (upd H2 D (.lst [])) fp) ([]++jk fp s5.heap) (some y::ρ σ) H7 s7∧R ok H7) (fun _ _=>False) s6:=fun{hE} p {R} hR=>by
    cases p with
    | nil=>exact yN ⟨_,I6,hR⟩
    | one p=>exact yO (p _ s6 _ _ _ I6 hR)
   refine bM (tests (ht s3 _ fp) pG) (fun ok s7 ⟨H7,I7,q7⟩=>?_) fun _ _ z=>z.elim
   cases ok with
   | false=>
    obtain ⟨m',e8,w7⟩:=q7
    obtain ⟨a1,a2,a3⟩:=again I7
    exact ⟨m',e8,i+1,ys,_,H7,a1,a2,a3,w7⟩
   | true=>
    refine bM (he s3 _ fp _ s7 _ H7 _ I7 q7) (fun ev s8 ⟨z,H8,I8,r8,pH,hz,m',e8,w8⟩=>?_) fun _ _ z=>z.elim
    refine bM (xl (X:=X.bw N scope cl s3 (upd H2 D (.lst [])) fp) _ s8 _ H8 (.ref D) [z] (.ref D) [ev] (fun _ H9=>H9=upd H8 D (.lst (ys++[z]))) I8 rfl (.cons r8 .nil) ⟨D,ys,z,rfl,rfl,pH,hz,rfl⟩) (fun _ s9 ⟨_,H9,I9,_,q9⟩=>?_) fun _ _ z=>z.elim
    subst q9
    obtain ⟨a1,a2,a3⟩:=again I9
    exact ⟨m',e8,i+1,ys++[z],_,_,a1,a2,a3,w8⟩
 have start:=loop (s3.toks+([]:List (Str×Value)).length)
 have es:({s3 with heap:=h₁,toks:=s3.toks+([]:List (Str×Value)).length}:Shared)={s2 with heap:=h₁,toks:=s2.toks+([]:List (Str×Value)).length}:=by rw [←g9]
 rw [es] at start
 exact yP start (T.self _ 0 _ _ _ (T.keep _ _ _ eP fun b hb o e=>dq _ _ (fE _ _ e)) start)
end
section
variable {X:Cx}
end
section
variable {prog:Program} {w:World} {A:Around} {R:Result→Shared→Prop} {s:Shared}
theorem IF{elt target iter:Expr}{ifs:List Expr}{scope:Scope}{pos:Pos}{it acc:Value}{env:Env}(I:Nat→Shared→Prop)
  (turn:∀n s,I n s→wpAny (model prog w) A (pyNext it) (fun r s₁=>match r with
   | none=>R (.ok .next) s₁
   | some v=>wpAny (model prog w) A (letOwnedTupleGo target it v) (fun _ s₁=>wpAny (model prog w) A (assign target env v) (fun _ s₂=>
     wpAny (model prog w) A (forIn ifs true fun c r=>if r=true then do let ok ←isTrue c env (eval c env);pure (ForInStep.yield ok) else pure (ForInStep.yield r)) (fun ok s₃=>
      if ok=true then wpAny (model prog w) A (eval elt env) (fun x s₄=>
       wpAny (model prog w) A (call (.builtin "list.append") [acc,x]) (fun _ s₅=>∃m,m<n∧I m s₅) (notedBy (model prog w) A env fun e s'=>R (.error e) s') s₄) (notedBy (model prog w) A env fun e s'=>R (.error e) s') s₃
      else ∃m,m<n∧I m s₃) (notedBy (model prog w) A env fun e s'=>R (.error e) s') s₂) (notedBy (model prog w) A env fun e s'=>R (.error e) s') s₁) (notedBy (model prog w) A env fun e s'=>R (.error e) s') s₁) (notedBy (model prog w) A env fun e s'=>R (.error e) s') s)
  (n:Nat) (h:I n s):codeAny (model prog w) A (.compLoop (.ListComp elt [⟨target,iter,ifs,0⟩] scope pos) 0 it acc env) R s:=by
 refine codeAny_loop rfl I (fun n s hI=>?_) n h
 show wpAny _ A ((compTurn (.ListComp elt [⟨target,iter,ifs,0⟩] scope pos) 0 it acc env).onRaise (fun x=>do noteFrame x env;theTreesLotGoes x)) _ _ s
 refine wpAny_noted ?_
 rw [compTurn_list]
 refine b9 (wF (b9 (bM (turn n s hI) (fun r s₁ h₁=>?_) fun _ _ h'=>h')))
 cases r with
 | none=>exact eG h₁
 | some v=>
  refine b9 (bM h₁ (fun _ s₁ h₁=>?_) fun _ _ h'=>h')
  refine b9 (bM h₁ (fun _ s₂ h₂=>b9 (bM h₂ (fun ok s₃ h₃=>?_) fun _ _ h'=>h')) fun _ _ h'=>h')
  cases ok with
  | false=>exact eG ⟨rfl,h₃⟩
  | true=>
   exact b9 (b9 (bM h₃ (fun x s₄ h₄=>b9 (bM h₄ (fun _ s₅ h₅=>eG (eG ⟨rfl,h₅⟩)) fun _ _ h'=>h')) fun _ _ h'=>h'))
end
def zI(K:aD)(wi:TI)(ρ:St→St)(tt:TT)(te:TE):TE:=fun σ H Q=>wi σ H fun J H1=>∀D,H1 D=none→∃W:Nat→Nat→List V→Hp→Prop,(∃m,W 0 m [] (upd H1 D (.lst []))) ∧
 ∀i m ys Hc,W i m ys Hc→Hc D=some (.lst ys)∧((J.stop i Hc∧Q (.ref D) Hc)∨(J.go i Hc∧∀v H',J.dY i Hc v H'→∃T x1 x2,v=.ref T∧d8 K H' T [x1,x2]∧tt (some x1::some x2::ρ σ) H' fun b H2=>
  if b=true then te (some x1::some x2::ρ σ) H2 fun y H3=>H3 D=some (.lst ys)∧ys.length<sizeLine∧∃m',m'<m∧W (i+1) m' (ys++[y]) (upd H3 D (.lst (ys++[y]))) else ∃m',m'<m∧W (i+1) m' ys H2))
section
variable {X:Cx} {N:List Str} {scope:Scope} {cl:List (Str×Addr)} {x y:Str} {px py pos tp:Pos} {jZ:Nat} {iter elt:Expr} {ifs:List Expr} {wi:TI} {ρ:St→St} {tt:TT} {te:TE}
structure Df (X:Cx) (N:List Str) (scope:Scope) (cl:List (Str×Addr)) (x y:Str) (ρ:St→St):Prop where
 xr:closureFor scope X.env=pure cl
 kind:scope.kind=.function
 xt:∀y∈scope.names,y.2≠.cell
 names:∀y∈scope.names,y.2=.local→scope.names.lookup y.1=some .local
 sub:∀p∈cl,X.env.cells.lookup p.1=some p.2
 has:∀y,((relabel scope X.env).names.lookup y=some .cell∨(relabel scope X.env).names.lookup y=some .free)→∃c,cl.lookup y=some c
 n0:N[0]?=some x
 n1:N[1]?=some y
 nd:N.Nodup
 hx:scope.names.lookup x=some .local
 hy:scope.names.lookup y=some .local
 xu:∀(σ:St) (j:Nat) (v:V),(ρ σ)[j]?=some (some v)→∃(i:Nat) (y:Str),N[j+1+1]?=some y∧X.N[i]?=some y∧σ[i]?=some (some v)∧mT X.env.scope y∧(X.env.kindOf y=some .cell∨X.env.kindOf y=some .free)∧((relabel scope X.env).names.lookup y=some .cell∨(relabel scope X.env).names.lookup y=some .free)
 len:∀σ:St,σ.length=X.N.length→(ρ σ).length+1+1=N.length
theorem zJ(is:List Nat)(h1:closureFor scope X.env=pure cl)(h:zu X scope N.tail.tail is:=by repeat' first | exact True.intro | refine And.intro ⟨rfl,Or.inr (Or.inl rfl),.inl rfl,.inl rfl⟩ ?_)(h2:scope.kind=.function:=by rfl)(h3:∀y∈scope.names,y.2≠.cell:=by decide +kernel)(h4:∀y∈scope.names,y.2=.local→scope.names.lookup y.1=some .local:=by decide +kernel)(h5:∀p∈cl,X.env.cells.lookup p.1=some p.2:=by repeat' first | exact yK _ | refine List.forall_mem_cons.mpr ⟨rfl,?_⟩)(h6:((relabel scope X.env).names.all fun q=>(q.2 != .cell && q.2 != .free) || (cl.lookup q.1).isSome)=true:=by rfl)(h7:N[0]?=some x:=by rfl)(RA:N[1]?=some y:=by rfl)(h8:N.Nodup:=by decide +kernel)(h9:scope.names.lookup x=some .local:=by rfl)(RB:scope.names.lookup y=some .local:=by rfl)(hr:∀σ:St,ρ σ=is.map fun i=>σ[i]?.join:=by exact fun _=>rfl)(hl:is.length+1+1=N.length:=by rfl):Df X N scope cl x y ρ:=
 ⟨h1,h2,h3,h4,h5,zt h6,h7,RA,h8,h9,RB,fun σ j v e=>by rw [hr] at e;rw [←List.getElem?_tail,←List.getElem?_tail];exact C0 h σ j v e,fun σ _=>by rw [hr,bg];exact hl⟩
theorem Dg(B:Df X N scope cl x y ρ)(hc:X.calm=true)(hi:PI X (.Tuple [.Name x px,.Name y py] jZ tp) iter wi)(ht:∀s₃ H₃ fp,k_ (X.bw N scope cl s₃ H₃ fp) ifs tt)(he:∀s₃ H₃ fp,PE (X.bw N scope cl s₃ H₃ fp) elt te)
  (hs:∀x,foldedSetIterable iter X.env x=pure x:=by intro _;rfl):PE X (.ListComp elt [⟨.Tuple [.Name x px,.Name y py] jZ tp,iter,ifs,0⟩] scope pos) (zI X.K wi ρ tt te):=by
 intro pins s σ H Q I h
 rw [eval_ListComp]
 refine yL (use:=none) rfl hs B.xr B.kind B.names (aK (hi pins s σ H _ I h) fun v s1 h1=>aK h1 fun sF s2 h2=>?_)
 obtain ⟨it,fp,tn,J,H2,rfl,I2,T,eP,f2,q2⟩:=h2
 have nD:H2 s2.heap.objs.size=none:=I2.ay.fresh (aN _)
 obtain ⟨W,⟨m0,w0⟩,turn⟩:=q2 _ nD
 refine wG (yM B.xt (by intro y hy;simp at hy) (fun h₁ fC fD=>?_) B.kind)
 dsimp only at fC fD ⊢
 generalize hD:s2.heap.objs.size=D at nD w0 turn fC fD ⊢
 generalize g9:({s2 with heap:=s2.heap.push {cls:=.type "list",dict:=none,data:=.seq ([]:List Value).toArray}}:Shared)=s3
 have I3:Inv X pins σ (upd H2 D (.lst [])) s3:=by
  subst hD g9
  exact I2.laid (t':=s2.toks) (fun b u e=>cu _ e) (aN _) ⟨b_ _,[],_,.nil,eJ _ rfl⟩
 have e3:s3.heap=s2.heap.push {cls:=.type "list",dict:=none,data:=.seq ([]:List Value).toArray}:=by rw [←g9]
 have fE:∀b o,s2.heap.get? b=some o→s3.heap.get? b=some o:=fun b o e=>by rw [e3];exact cu _ e
 rw [←e3] at fC fD ⊢
 have below:∀b o,s3.heap.get? b=some o→b≠s3.heap.objs.size:=fun b o e=>cV (bL e)
 have dq:∀b o,s3.heap.get? b=some o→h₁.get? b=some o:=fun b o e=>fD.extBut b o (below b o e) (cu _ e)
 have g_:∀b∈fp,∃o,s2.heap.get? b=some o∧∀v,o.data≠.cell v:=T.obj _ _ eP
 have pA:∀b∈fp,b≠D:=fun b hb z=>by
  obtain ⟨o,e,_⟩:=g_ b hb
  rw [z,←hD] at e
  exact absurd (bL e) (eV _)
 have cP:∀y c,cl.lookup y=some c→X.env.cells.lookup y=some c:=fun y c e=>B.sub (y,c) (kC e)
 have pB:=I3.sA
 have dP:(X.bw N scope cl s3 (upd H2 D (.lst [])) fp).Ok:=by
  refine ⟨I.ok.mod,B.kind,I.ok.glob,I.ok.blt,aN _,fun a b c e1 e2=>I.ok.inj a b c (cP a c e1) (cP b c e2),fun y hy=>B.has y hy,(fun _ _ z _=>absurd z cW),(fun _=>I.ok.hd hc),I.ok.frames,.inl rfl,fun b hb=>⟨?_,fun y c e z=>?_⟩,fun b o e=>?_,a8 I.ok.gA I3.sz,fun b o e hb=>?_,fun b hb z=>?_,I3.stack,pB⟩
  ·obtain ⟨o,e,_⟩:=g_ b hb
   exact below b o (fE b o e)
  ·exact (f2 b hb).2.2.2.2.1 y c (cP y c e) z
  ·exact I3.bs b o e
  ·rcases (f2 b hb).2.2.2.1 with z | z
   ·exact I.ok.lS b o e z
   ·exact absurd (dJ (bL e) (a8 I.ok.gA z)) (eV _)
  ·rcases cM.mp (I3.sv b z) with z | z
   ·exact (f2 b hb).2.1 z
   ·exact (f2 b hb).2.2.1 z
 have IB:∀tk:Nat,Inv (X.bw N scope cl s3 (upd H2 D (.lst [])) fp) [] (none::none::ρ σ) (upd H2 D (.lst [])) {s3 with heap:=h₁,toks:=tk}:=fun tk=>by
  refine ⟨dP,rfl,I3.bare,Un.kept dq,⟨_,fC,fun j y v e1 e2 e3=>?_⟩,fun y c e=>?_,?_,fun y c e=>I3.gB y c (cP y c e),(fun p hp=>nomatch hp),I3.ay.kept dq,?_⟩
  ·cases j with
   | zero=>cases e2
   | succ j=>
   cases j with
   | zero=>cases e2
   | succ j=>
    obtain ⟨i,y',a1,a2,a3,a4,a5,a6⟩:=B.xu σ j v e2
    have pD:N[j+1+1]?=some y:=e1
    rw [pD] at a1
    cases a1
    obtain ⟨m,hn,hl⟩:=I3.loc
    obtain ⟨u,r,l⟩:=hl i y v a2 a3 a4
    refine ⟨u,r,.inr ⟨a6,?_⟩⟩
    obtain ⟨c,ec⟩:=B.has y a6
    rcases l with ⟨k,_⟩ | ⟨_,c',jU,z⟩
    ·rcases a5 with q | q <;> (rw [k] at q;cases q)
    ·have:=cP y c ec
     rw [this] at jU
     cases jU
     obtain ⟨o,ho,hd⟩:=z
     exact ⟨c,ec,o,dq _ _ ho,hd⟩
  ·obtain ⟨v,o,ho,hd⟩:=I3.cell y c (cP y c e)
   exact ⟨v,o,dq _ _ ho,hd⟩
  ·exact I3.ay.fresh (aN _)
  ·show (none::none::ρ σ).length=N.length
   rw [eK,eK]
   exact B.len σ I.len
 have fin:∀{σ':St} {H':Hp} {s':Shared},Inv (X.bw N scope cl s3 (upd H2 D (.lst [])) fp) [] σ' H' s'→Q (.ref D) H'→compPost (model X.prog X.w) X.A X.xe none (EP X pins σ Q) (.ref D) s3.heap.objs.size (.ok .next) s':=fun{σ' H' s'} J q=>by
  obtain ⟨m,hn,_⟩:=J.loc
  refine ⟨m,hn,fun h' fF=>⟨.ref D,H',?_,rfl,q⟩⟩
  have old:∀b o,s3.heap.get? b=some o→b≠s3.heap.objs.size:=below
  have u1:Un (cf X.stack) fp (upd H2 D (.lst [])) H' s3.heap h':=by
   refine ⟨fun b o e n hb hx=>?_,fun b o e n hb hx=>?_,J.base.free,fun b o e hx=>?_,J.base.eL,J.base.d5,J.base.eN⟩
   ·exact (fF.2 b (old b o e)).trans (J.base.keep b o e n hb hx)
   ·obtain ⟨sl,z⟩:=J.base.slot b o e n hb hx
    exact ⟨sl,(fF.2 b (old b o e)).trans z⟩
   ·obtain ⟨o',z⟩:=J.base.there b o e hx
    exact ⟨o',(fF.2 b (old b o e)).trans z⟩
  have pE:bW X.prog X.w H' h':=fun b u e=>by
   refine (J.ay b u e).iz (fun c v hc z=>(fF.2 c fun y=>?_).trans z) (fun _ z=>z) fun _ _ z=>z
   have fr:=J.free
   have y':c=s3.heap.objs.size:=y
   rcases hc with hc | hc
   ·rw [←hc,y'] at e
    exact absurd (fr.symm.trans e) (by simp)
   ·rw [y'] at hc
    exact absurd (fr.symm.trans hc) (by simp)
  refine I3.kP (s':={s' with heap:=h'}) (ch:=fp) (J.os) u1 pE J.bare fun b hb=>?_
  obtain ⟨g0,g1,g2,g3,g4,g5⟩:=f2 b hb
  exact ⟨g3,g1,g4,g5⟩
 have ft:∀{H':Hp},(∀b∈fp,H' b=none)→∀b∈fp,kW (X.bw N scope cl s3 (upd H2 D (.lst [])) fp) [] H' b:=fun hn b hb=>by
  refine ⟨hn b hb,?_,?_,.inl hb,fun y c e z=>(f2 b hb).2.2.2.2.1 y c (cP y c e) z,fun p hp=>nomatch hp⟩
  ·obtain ⟨o,e,_⟩:=g_ b hb
   exact below b o (fE b o e)
  ·exact dP.lU b hb
 have loop:∀tk:Nat,codeAny (model X.prog X.w) X.A (.compLoop (.ListComp elt [⟨.Tuple [.Name x px,.Name y py] jZ tp,iter,ifs,0⟩] scope pos) 0 (.ref it) (.ref D) (compEnvC scope cl s3.heap.objs.size X.env))
   (compPost (model X.prog X.w) X.A X.xe none (EP X pins σ Q) (.ref D) s3.heap.objs.size) {s3 with heap:=h₁,toks:=tk}:=fun tk=>by
  refine IF (fun n s'=>∃i ys o o2 H',Inv (X.bw N scope cl s3 (upd H2 D (.lst [])) fp) [] (o::o2::ρ σ) H' s'∧tn i s'.heap∧(∀b∈fp,H' b=none)∧W i n ys H') ?_ m0
   ⟨0,[],none,none,_,IB tk,T.keep _ _ _ eP fun b hb o e=>dq _ _ (fE _ _ e),fun b hb=>by rw [aO (pA b hb)];exact (f2 b hb).1,w0⟩
  rintro n s4 ⟨i,ys,o,o2,H4,I4,jV,jW,w4⟩
  obtain ⟨C1,pF⟩:=turn i n ys H4 w4
  rcases pF with ⟨stop,qn⟩ | ⟨go,step⟩
  ·refine bM (T.done (X.bw N scope cl s3 (upd H2 D (.lst [])) fp) rfl rfl rfl hc i [] s4 _ H4 (fun _ _=>False) I4 (ft jW) jV stop) (fun r s5 ⟨hr,I5⟩=>?_) fun _ _ z=>z.elim
   subst hr
   exact fin I5 qn
  ·refine bM (T.item (X.bw N scope cl s3 (upd H2 D (.lst [])) fp) rfl rfl rfl hc i [] s4 _ H4 (fun _ _=>False) I4 (ft jW) jV go) (fun r s5 ⟨u,hr,h5⟩=>?_) fun _ _ z=>z.elim
   subst hr
   refine bM h5 (fun _ s5 ⟨y0,H5,I5,r5,y5,fv,lW⟩=>?_) fun _ _ z=>z.elim
   obtain ⟨Tt,x1,x2,e0,Dh,pG⟩:=step y0 _ y5
   subst e0
   have lX:=I5.pinned (ft lW) (T.obj _ _ fv)
   have pg:PG (X.bw N scope cl s3 (upd H2 D (.lst [])) fp) (.Tuple [.Name x px,.Name y py] jZ tp) (Cm X.K 2 (xa (cg 0) (xa (cg 1) Ck))):=
    mX (X:=X.bw N scope cl s3 (upd H2 D (.lst [])) fp) hc (fM (cj (i:=0) B.nd B.n0 (.inl (jd B.hx)) (.inr (jd B.hx))) (fM (cj (i:=1) B.nd B.n1 (.inl (jd B.hy)) (.inr (jd B.hy))) mW))
   have again:∀{σ7:St} {H7:Hp} {s7:Shared},Inv (X.bw N scope cl s3 (upd H2 D (.lst [])) fp) ([]++jk fp s5.heap) σ7 H7 s7→Inv (X.bw N scope cl s3 (upd H2 D (.lst [])) fp) [] σ7 H7 s7∧tn (i+1) s7.heap∧∀b∈fp,H7 b=none:=fun{σ7 H7 s7} I7=>by
    refine ⟨I7.oX,T.keep _ _ _ fv fun b hb o e=>(I7.pin (b,o) (dX _ (dX _ (kZ hb e)))).1,fun b hb=>?_⟩
    obtain ⟨o,e,d⟩:=T.obj _ _ fv b hb
    exact (I7.pin (b,o) (dX _ (dX _ (kZ hb e)))).2.1
   refine bM (pg _ s5 _ H5 (.ref Tt) u (fun σ2 H6=>σ2=some x1::some x2::ρ σ∧H6=H5) lX r5 ⟨Tt,_,rfl,Dh,rfl,_,_,rfl,_,_,rfl,rfl,rfl,rfl⟩) (fun _ s6 ⟨σ6,H6,I6,q6⟩=>?_) fun _ _ z=>z.elim
   obtain ⟨rfl,rfl⟩:=q6
   have tests:∀{hE:TT},k_ (X.bw N scope cl s3 (upd H2 D (.lst [])) fp) ifs hE→∀{R:Bool→Hp→Prop},hE (some x1::some x2::ρ σ) H6 R→wpAny (model X.prog X.w) X.A
     (forIn ifs true fun c r=>if r=true then do let ok ←isTrue c (compEnvC scope cl s3.heap.objs.size X.env) (eval c (compEnvC scope cl s3.heap.objs.size X.env));pure (ForInStep.yield ok) else pure (ForInStep.yield r))
     (fun ok s7=>∃H7,Inv (X.bw N scope cl s3 (upd H2 D (.lst [])) fp) ([]++jk fp s5.heap) (some x1::some x2::ρ σ) H7 s7∧R ok H7) (fun _ _=>False) s6:=fun{hE} p {R} hR=>by
    cases p with
    | nil=>exact yN ⟨_,I6,hR⟩
    | one p=>exact yO (p _ s6 _ _ _ I6 hR)
   refine bM (tests (ht s3 _ fp) pG) (fun ok s7 ⟨H7,I7,q7⟩=>?_) fun _ _ z=>z.elim
   cases ok with
   | false=>
    obtain ⟨m',e8,w7⟩:=q7
    obtain ⟨a1,a2,a3⟩:=again I7
    exact ⟨m',e8,i+1,ys,_,_,H7,a1,a2,a3,w7⟩
   | true=>
    refine bM (he s3 _ fp _ s7 _ H7 _ I7 q7) (fun ev s8 ⟨z,H8,I8,r8,pH,hz,m',e8,w8⟩=>?_) fun _ _ z=>z.elim
    refine bM (xl (X:=X.bw N scope cl s3 (upd H2 D (.lst [])) fp) _ s8 _ H8 (.ref D) [z] (.ref D) [ev] (fun _ H9=>H9=upd H8 D (.lst (ys++[z]))) I8 rfl (.cons r8 .nil) ⟨D,ys,z,rfl,rfl,pH,hz,rfl⟩) (fun _ s9 ⟨_,H9,I9,_,q9⟩=>?_) fun _ _ z=>z.elim
    subst q9
    obtain ⟨a1,a2,a3⟩:=again I9
    exact ⟨m',e8,i+1,ys++[z],_,_,_,a1,a2,a3,w8⟩
 have start:=loop (s3.toks+([]:List (Str×Value)).length)
 have es:({s3 with heap:=h₁,toks:=s3.toks+([]:List (Str×Value)).length}:Shared)={s2 with heap:=h₁,toks:=s2.toks+([]:List (Str×Value)).length}:=by rw [←g9]
 rw [es] at start
 exact yP start (T.self _ 0 _ _ _ (T.keep _ _ _ eP fun b hb o e=>dq _ _ (fE _ _ e)) start)
end
section
variable {X:Cx}
def anyR(K:aD):List V→Hp→VK→Prop:=fun xs H Q=>∃(p:Addr) (bs:List Bool),xs=[.ref p]∧bO K H p (bs.map V.bl)∧Q (.bl (bs.any id)) H
variable {K:aD}
theorem RC(hc:X.calm=true)(hK:X.K=K:=by rfl):fN X (.builtin "any") (anyR K):=by
 intro pins s σ H xs us Q I r h;subst hK;obtain ⟨p,bs,rfl,hq,q⟩:=h;obtain ⟨u,rfl,ru⟩:=vals1 r;cases ru;obtain ⟨ah,rv,pl,hz⟩:=I.list hq;have eS:p≠s.heap.objs.size:=by obtain ⟨o,e,_⟩:=pl.isList;exact cV (bL e)
 have hl:ah.length=bs.length:=by rw [←rv.length,bg]
 refine call_any_walk (yE pl.isList ?_);refine ⟨s.heap.objs.size,_,_,_,_,_,fun i=>bs.getD i false,rfl,Walks.list (A:=X.A.in1) (show X.A.in1.handled=none from I.ok.hd hc) s.heap.objs.size p eS ah.toArray,⟨⟨_,eJ _ rfl,rfl,rfl⟩,pl.isList.push _⟩,fun i v s' Q' E' hv eR=>?_,fun h' tk hk=>?_⟩
 ·have gD:ah[i]?=some v:=by simpa using hv
  cases eb:bs[i]? with
  | none=>
   have:=rv.none_of (i:=i) (by rw [cw,eb];rfl)
   rw [this] at gD;cases gD
  | some b=>
   obtain ⟨u,hu,ru⟩:=rv.get (i:=i) (x:=V.bl b) (by rw [cw,eb];rfl)
   rw [hu] at gD;cases gD;cases ru;have e:bs.getD i false=b:=by rw [ir,eb];rfl
   have pI:Q' (bs.getD i false) s':=eR;rw [e] at pI;exact mG pI
 ·refine ⟨.bl (bs.any id),H,I.kept fun b o e=>hk b o (fun z=>?_) (cu _ e),?_,q⟩
  ·exact absurd (bL e) (by rw [iu.mp z];exact eV _)
  ·show Value.bool _=Value.bool _
   congr 1
   rw [cX,hl];clear hk q rv pl hz hl hq
   induction bs with
   | nil=>rfl
   | cons b bs ih=>rw [eK,BX,wN,List.any_map,wN];show (b || (List.range bs.length).any fun i=>bs.getD i false)=(b || bs.any id);rw [ih]
def RD(K:aD):List V→Hp→VK→Prop:=fun xs H Q=>∃(p:Addr) (ns:List Int),xs=[.ref p]∧bO K H p (ns.map V.int)∧Q (.int ns.sum) H
theorem RE:∀(ns:List Int),preSum (fun i=>ns.getD i 0) ns.length=ns.sum:=by
 intro ns;have key:∀k,k≤ns.length→preSum (fun i=>ns.getD i 0) k=(ns.take k).sum:=by
  intro k
  induction k with
  | zero=>intro _;rfl
  | succ k ih=>
   intro hk;show preSum (fun i=>ns.getD i 0) k+ns.getD k 0=_;rw [ih (by lia),List.take_add_one,List.sum_append]
   have e:ns[k]?=some ns[k]:=by simp [show k<ns.length by lia]
   rw [ir,e];simp
 rw [key ns.length (aN _),kH]
theorem RF(hc:X.calm=true)(hK:X.K=K:=by rfl):fN X (.builtin "sum") (RD K):=by
 intro pins s σ H xs us Q I r h;subst hK;obtain ⟨p,ns,rfl,hq,q⟩:=h;obtain ⟨u,rfl,ru⟩:=vals1 r;cases ru;obtain ⟨ah,rv,pl,hz⟩:=I.list hq;have eS:p≠s.heap.objs.size:=by obtain ⟨o,e,_⟩:=pl.isList;exact cV (bL e)
 have hl:ah.length=ns.length:=by rw [←rv.length,bg]
 refine call_sum_walkG (yE pl.isList ?_);refine ⟨s.heap.objs.size,_,_,_,_,_,fun i=>ns.getD i 0,rfl,Walks.list (A:=X.A.in1) (show X.A.in1.handled=none from I.ok.hd hc) s.heap.objs.size p eS ah.toArray,⟨⟨_,eJ _ rfl,rfl,rfl⟩,pl.isList.push _⟩,?_,fun i v hv=>?_,fun h' tk t' hk=>?_⟩
 ·intro b hb
  rw [Heap.size_push];simp only [cM,mL,or_false] at hb;rcases hb with rfl | rfl;·exact yG _
  ·obtain ⟨o,e,_⟩:=pl.isList
   exact Nat.lt_succ_of_lt (bL e)
 ·have gD:ah[i]?=some v:=by simpa using hv
  cases eb:ns[i]? with
  | none=>
   have:=rv.none_of (i:=i) (by rw [cw,eb];rfl)
   rw [this] at gD;cases gD
  | some b=>
   obtain ⟨u,hu,ru⟩:=rv.get (i:=i) (x:=V.int b) (by rw [cw,eb];rfl)
   rw [hu] at gD;cases gD;obtain ⟨t,rfl⟩:=ru;exact ⟨t,by show Value.int b t=Value.int (ns.getD i 0) t;rw [ir,eb];rfl⟩
 ·refine ⟨.int ns.sum,H,I.kept fun b o e=>hk b o (fun z=>?_) (cu _ e),⟨t',?_⟩,q⟩
  ·exact absurd (bL e) (by rw [iu.mp z];exact eV _)
  ·congr 1
   rw [cX,hl];exact RE ns
end
theorem boot_any:bootBuiltins "any"=some (.builtin "any"):=by decide +kernel
theorem boot_sum:bootBuiltins "sum"=some (.builtin "sum"):=by decide +kernel
section
variable {M:Model} {A:Around} {E:aR} {s:Shared}
end
section
variable {X:Cx} {N:List Str} {scope:Scope} {cl:List (Str×Addr)} {x:Str} {px pos:Pos} {iter elt:Expr} {ifs:List Expr} {wi:TI} {ρ:St→St} {tt:TT} {te:TE}
end
theorem RG{v:V}(h:pd v=true):l7 v v=true:=by
 cases v with
 | aF=>rfl
 | bl b=>show (b == b)=true;simp
 | int i=>show (i == i)=true;simp
 | str x=>show (x == x)=true;simp
 | _=>cases h
section
variable {X:Cx} {pins:aU} {σ:St} {H:Hp} {s:Shared}
end
section
variable {X:Cx}
end
section
variable {X:Cx} {N:List Str} {scope:Scope} {cl:List (Str×Addr)} {x:Str} {px pos:Pos} {iter elt:Expr} {ifs:List Expr} {wi:TI} {ρ:St→St} {tt:TT} {te:TE}
end
structure IG (J:It) (zs:List (V×V)) (H1:Hp):Prop where
 go:∀i Hc,ae H1 Hc→i<zs.length→J.go i Hc
 dY:∀i Hc v H',ae H1 Hc→J.dY i Hc v H'→∃T x y,v=.ref T∧Hc T=none∧H'=upd Hc T (.tup [x,y])∧(i<zs.length→zs[i]?=some (x,y))
 stop:∀i Hc,ae H1 Hc→zs.length≤i→J.stop i Hc
theorem IH(jY:∀R:It→Hp→Prop,(∀J H1,ae H H1→nC J xs H1→R J H1)→wi σ H R)(hn:xs.length<sizeLine)
  (P:Addr→Nat→V→Hp→Prop) (mono:∀D i y H H' ys,P D i y H→H D=some (.lst ys)→(∀b o,b≠D→H b=some o→H' b=some o)→P D i y H')
  (step:∀D i x,xs[i]?=some x→∀(Hc:Hp) (R:VK),ae H Hc→(∃ys,Hc D=some (.lst ys))→(∀y H3,ae Hc H3→P D i y H3→R y H3)→te (some x::ρ σ) Hc R)
  (fin:∀D ys Hc,H D=none→ae H Hc→ys.length=xs.length→(∀(i:Nat) (y:V),ys[i]?=some y→P D i y Hc)→Hc D=some (.lst ys)→Q (.ref D) Hc):jS wi ρ (fun _ H Q=>Q true H) te σ H Q:=by
 refine jY _ fun J H1 s1 js=>?_;intro D nD;have hD:H D=none:=by
  cases e:H D with
  | none=>rfl
  | some o=>rw [s1 _ _ e] at nD;cases nD
 exact ID (ρσ:=ρ σ) (te:=te) (Q:=Q) js nD hn (P D) (mono D) (fun i x hx Hc R sc=>step D i x hx Hc R (s1.trans sc)) (fun ys Hc sc=>fin D ys Hc hD (s1.trans sc))
section
variable {X:Cx} {K:aD}
theorem lq(hK:X.K=K:=by rfl):xi X (HN K):=by subst hK;exact bJ
def RH(K:aD):List V→Hp→VK→Prop:=fun xs H Q=>∃p ys,xs=[.ref p]∧(bO K H p ys∨d8 K H p ys)∧Q (.int (ys.length:Int)) H
theorem II(hK:X.K=K:=by rfl):fN X (.builtin "len") (RH K):=by subst hK;exact fQ
def RI(K:aD):List V→Hp→VK→Prop:=fun xs H Q=>∃p ys,xs=[.ref p]∧(bO K H p ys∨d8 K H p ys)∧∀l,H l=none→Q (.ref l) (upd H l (.lst ys))
theorem RJ(hK:X.K=K:=by rfl):fN X (.type "list") (RI K):=by subst hK;exact CD
end
end L2
namespace My
open PySem L2
variable {te:TE} {σ:St} {H:Hp}
theorem Di{r:List V→Hp→VK→Prop}{Q:VK}(h:te σ H fun x H1=>r [x] H1 Q):zg r (lZ te jN) σ H Q:=h
variable {D:Ends}
theorem gi(h:te σ H D.rt):G0 te D σ H:=h
variable {q:Int}
theorem RK{b c:Int}(hq:bC q)(h1:¬q∣b)(h2:¬q∣c):¬q∣b*c:=fun h=>by
 rcases hq with rfl | ⟨q2,q3,q4⟩
 ·have z:=jf.mp h
  rcases oK.mp z with z | z;·exact h1 (by rw [z];exact iQ 0)
  ·exact h2 (by rw [z];exact iQ 0)
 ·have k1:=gw c (show q≠0 by lia)
  have k2:=gW c (show 0<q by lia)
  have k3:c % q≠0:=fun z=>h2 (BZ z);have g:=C_ q2 q3 q4 (show 1≤c % q by lia) k2
  obtain ⟨w,ew⟩:=Rz c q;exact h1 (Ry q2 (Rx g ⟨-w,by rw [mM];lia⟩) h)
theorem RL{c:TT}{t u:TS}(h:c σ H fun b H1=>if b=true then t D σ H1 else u D σ H1):G1 c t u D σ H:=h
theorem RM{Q:Bool→Hp→Prop}(h:te σ H fun x H1=>∃c,x=.bl c∧Q c H1):tB te σ H Q:=h
theorem IJ{vs:List V}{b:Bool}(h:∀(i:Nat) (v:V),vs[i]?=some v→v=.bl b):vs=(List.replicate vs.length b).map V.bl:=by
 refine List.ext_getElem? fun i=>?_;rw [cw];by_cases hi:i<vs.length
 ·rw [show vs[i]?=some vs[i] by simp [hi],h i vs[i] (by simp [hi])]
  simp [hi]
 ·rw [List.getElem?_eq_none (by lia),List.getElem?_eq_none (by simp;lia)]
  rfl
theorem RN(n:Nat):(List.replicate n false).any id=false:=by simp
theorem RO(n:Nat):(List.replicate n true).all id=true:=by simp
variable {H':Hp}
theorem none_of{b:Addr}(s:ae H H')(h:H' b=none):H b=none:=by
 cases e:H b with
 | none=>rfl
 | some o=>rw [s _ _ e] at h;cases h
def o1:Int×Int:=(0,1)
theorem getD_at{α:Type}{xs:List α}{d:α}{i:Nat}(hi:i<xs.length):xs.getD i d=xs[i]:=by
 rw [ir,show xs[i]?=some xs[i] by simp [hi]]
 rfl
def a9:Nat→(Nat→Int)→Int
 | 0,_=>0
 | n+1,f=>f 0+a9 n fun i=>f (i+1)
theorem gj:∀{n:Nat} {f g:Nat→Int},(∀i,i<n→f i=g i)→a9 n f=a9 n g
 | 0,f,g,_=>rfl
 | n+1,f,g,h=>by unfold a9;rw [h 0 (by lia),gj fun i hi=>h (i+1) (by lia)]
theorem pO:∀(n:Nat) (f g:Nat→Int),a9 n (fun i=>f i+g i)=a9 n f+a9 n g
 | 0,f,g=>rfl
 | n+1,f,g=>by show f 0+g 0+a9 n (fun i=>f (i+1)+g (i+1))=(f 0+a9 n fun i=>f (i+1))+(g 0+a9 n fun i=>g (i+1));rw [pO n];lia
theorem jr(c:Int):∀(n:Nat) (f:Nat→Int),c*a9 n f=a9 n fun i=>c*f i
 | 0,f=>by unfold a9;rw [iw]
 | n+1,f=>by unfold a9;rw [Int.mul_add,jr c n]
theorem xA:∀(n:Nat),a9 n (fun _=>0)=0
 | 0=>rfl
 | n+1=>by unfold a9;rw [xA n];rfl
variable {B:Nat} {v:V}
theorem pP(hB:1≤B){a:Int}(h:xx H q v a 1)(hq:bC q)(ha:a=0∨a=1):bh B H q v a 1:=by
 rcases h with ⟨rfl,r,rfl,e⟩ | ⟨q2,r,rfl,r0,r1,er⟩
 ·rw [(IC a).1,(IC a).2] at e
  exact .b6 e ⟨by decide,Int.gcd_one_right ..⟩ (by rcases ha with rfl | rfl <;> simp [hB]) (by simpa using hB)
 ·have q3:q≤997:=by rcases hq with z | ⟨_,z,_⟩ <;> lia
  rw [oJ (show (0:Int)≤1 by decide) (show (1:Int)<q by lia),gu,oJ r0 r1] at er
  have ea:a % q=a:=oJ (by lia) (by lia)
  rw [ea] at er;subst er;exact .rem r0 r1 q3
theorem xB(hq:bC q):¬nB q 1:=fun h=>by
 unfold nB at h;rcases hq with rfl | ⟨q2,q3,q4⟩;·rw [aq rfl] at h;lia
 ·rw [ak (by lia),oJ (by lia) (by lia)] at h;lia
def tG(B:Nat)(H:Hp)(q:Int)(a:Addr)(ps:cx):Prop:=∃vs:List V,H a=some (.lst vs)∧vs.length=ps.length∧∀(i:Nat) (v:V) (p:Int×Int),vs[i]?=some v→ps[i]?=some p→bh B H q v p.1 p.2
theorem tG.mono{a:Addr}{ps:cx}(h:tG B H q a ps)(s:ae H H'):tG B H' q a ps:=by obtain ⟨vs,e,l,k⟩:=h;exact ⟨vs,s _ _ e,l,fun i v p h1 h2=>(k i v p h1 h2).mono s⟩
theorem IK{K:aD}{B':Nat}{u:V}{x m:Int}{R:VK}(hv:bh B H q v x m)(hu:bh B' H q u 0 1)(k:R (.bl (decide (x=0))) H):Iz K v u H R:=by
 cases hv with
 | b6 e l bx bm=>
  cases hu with
  | b6 e' l' _ _=>
   refine .inr (.inr (.inl ⟨_,_,_,_,rfl,rfl,.of e,.of e',rfl,rfl,?_⟩));have z:(g8 [V.int x,V.int m] [V.int 0,V.int 1])=decide (x=0):=by
    show ((x == 0) && ((m == 1) && true))=_;by_cases hx:x=0
    ·subst hx
     have:=l.fT;rw [Int.gcd_zero_left] at this;have:=l.pos;have:m=1:=by lia
     subst this;rfl
    ·rw [da hx,show (x == 0)=false from r6.mpr hx]
     rfl
   show R (.bl (g8 [V.int x,V.int m] [V.int 0,V.int 1])) H;rw [z];exact k
  | rem h0 h1 h2=>lia
 | rem h0 h1 h2=>
  cases hu with
  | b6=>lia
  | rem h0' tH pJ=>
   refine .inr (.inr (.inr ⟨by simp [Cs],?_⟩))
   rw [i5];exact k
end My
namespace L2
open PySem PySem.Spec PyProof.Rows
end L2
namespace My
open PySem L2
def lA(q:Int):Td:=if q=0 then .a "fractions" else .b "wheel" q
theorem RP{q:Int}(hq:bC q):(lA q).good=true:=by
 unfold lA;rcases hq with rfl | ⟨h1,h2,h3⟩;·rw [aq rfl];simp [Td.good,Td.xq]
 ·rw [ak (by lia)];simp [Td.good,Td.xq,Td.jq,h1,h2,h3]
def IL(H:Hp)(td:Addr)(q:Int):Prop:=H td=some (.tup (lA q).vs)
end My
namespace L2
open PySem PySem.Spec PyProof.Rows
theorem zK{K:aD}{wi:TI}{ρ:St→St}{te:TE}{σ:St}{H:Hp}{Q:VK}{Z:List (V×V)→Hp→Prop}(jY:∀R:It→Hp→Prop,(∀J H1 zs,ae H H1→IG J zs H1→zs.length<sizeLine→Z zs H1→R J H1)→wi σ H R)
  (P:Addr→Nat→V→Hp→Prop) (mono:∀D i y H H' ys,P D i y H→H D=some (.lst ys)→(∀b o,b≠D→H b=some o→H' b=some o)→P D i y H')
  (step:∀zs H1,Z zs H1→ae H H1→∀D i x y,zs[i]?=some (x,y)→∀(Hc:Hp) (R:VK),ae H1 Hc→(∃ys,Hc D=some (.lst ys))→(∀v H3,ae Hc H3→P D i v H3→R v H3)→te (some x::some y::ρ σ) Hc R)
  (fin:∀zs H1,Z zs H1→ae H H1→∀D vs Hc,H D=none→ae H1 Hc→vs.length=zs.length→(∀(i:Nat) (v:V),vs[i]?=some v→P D i v Hc)→Hc D=some (.lst vs)→Q (.ref D) Hc):zI K wi ρ (fun _ H Q=>Q true H) te σ H Q:=by
 refine jY _ fun J H1 zs s1 js hn hZ=>?_;intro D nD;have hD:H D=none:=by
  cases e:H D with
  | none=>rfl
  | some o=>rw [s1 _ _ e] at nD;cases nD
 refine ⟨fun i m vs Hc=>m=zs.length-i∧i≤zs.length∧Hc D=some (.lst vs)∧ae H1 Hc∧vs.length=i∧∀(j:Nat) (v:V),vs[j]?=some v→P D j v Hc,⟨_,rfl,b_ _,au,iE (ae.refl H1) nD,rfl,fun j y e=>by simp at e⟩,?_⟩
 rintro i m vs Hc ⟨rfl,hi,eD,sH,el,hP⟩;refine ⟨eD,?_⟩;by_cases bP:i<zs.length
 ·refine .inr ⟨js.go i Hc sH bP,fun v H' hy=>?_⟩
  obtain ⟨T,x,y,ev,nT,eH,hx⟩:=js.dY i Hc v H' sH hy;subst ev eH;refine ⟨T,x,y,rfl,.of au,?_⟩;dsimp only;rw [aq rfl];have sT:ae Hc (upd Hc T (.tup [x,y])):=fun b o e=>by rw [aO (fk e nT)];exact e
  refine step zs H1 hZ s1 D i x y (hx bP) _ _ (sH.trans sT) ⟨vs,sT _ _ eD⟩ fun w H3 s3 hp=>?_;have e3:=s3 _ _ (sT _ _ eD);have bG:∀b o,b≠D→H3 b=some o→upd H3 D (.lst (vs++[w])) b=some o:=fun b o nb e=>by rw [aO nb];exact e
  refine ⟨e3,by lia,zs.length-(i+1),by lia,rfl,bP,au,iE (sH.trans (sT.trans s3)) nD,by simp [el],fun j v' e=>?_⟩
  by_cases hj:j<i;·exact mono D j v' Hc _ vs (hP j v' (by rw [mI (by lia)] at e;exact e)) eD fun b o nb e=>bG b o nb (s3 _ _ (sT _ _ e))
  ·have hj:j=i:=by have:=(bV.mp e).1;simp at this;lia
   subst hj;have e':v'=w:=by rw [mH (by lia),el,Nat.sub_self] at e;simpa using e.symm
   subst e';exact mono D _ _ H3 _ vs hp e3 bG
 ·have e:i=zs.length:=by lia
  subst e;exact .inl ⟨js.stop _ Hc sH (aN _),fin zs H1 hZ s1 D vs Hc hD sH el hP eD⟩
end L2
namespace My
open PySem L2
end My
namespace L2
open PySem PySem.Spec PyProof.Rows
def tI(K:aD)(l:Addr):It:=
  ⟨fun i H=>∃xs x,bO K H l xs∧xs[i]?=some x,
   fun i H v H'=>∃T x,H T=none∧v=.ref T∧H'=upd H T (.tup [.int (i:Int),x])∧∀xs,bO K H l xs→xs[i]?=some x,
   fun i H=>∃xs,bO K H l xs∧xs.length≤i⟩
variable {K:aD} {l:Addr}
theorem RQ{P:Program}{w:World}{elts:List Expr}{k:Nat}{pos:Pos}{e it:Addr}(IM:e≠it):Turn P w K (.Tuple elts k pos) (tI K l) [e,it] e
  (fun i h=>(∃old,IsEnum h e it (i:Int) old)∧h.IsListIter it l i) where
 mem:=by simp
 obj:=fun i h st b hb=>by
  obtain ⟨⟨old,he⟩,h1⟩:=st;simp only [cM,mL,or_false] at hb;rcases hb with rfl | rfl;·exact ⟨_,he,fun v z=>by cases z⟩
  ·obtain ⟨o,e,c,d⟩:=h1
   exact ⟨o,e,fun v z=>by rw [d] at z;cases z⟩
 keep:=fun i h h' st k=>by obtain ⟨⟨old,he⟩,h1⟩:=st;exact ⟨⟨old,k _ (by simp) _ he⟩,h1.at fun o e=>k _ (by simp) o e⟩
 item:=by
  intro X hP hw hK hc i pins s σ H E I hf st hg;subst hP hw hK;obtain ⟨⟨old,he⟩,h1⟩:=st;obtain ⟨xs,x,tJ,hx⟩:=hg;obtain ⟨ah,rv,p,_⟩:=I.list tJ;obtain ⟨u,hu,ru⟩:=rv.get hx;refine wpAny_pyNext_enum_item he h1 p.isList (x:=u) (by simpa using hu) IM fun h' g1 g2 g3 g4 g5=>⟨_,rfl,?_⟩
  refine wpAny_letOwnedTupleGo_enum g1 fun zL q1 sb=>?_;have zm:H s.heap.objs.size=none:=I.ay.fresh (aN _);have lt:∀b o,s.heap.get? b=some o→b≠s.heap.objs.size:=fun b o e=>cV (bL e);have keep:∀b o,b∉[e,it]→s.heap.get? b=some o→zL.get? b=some o:=fun b o nb e=>by simp only [cM,mL,or_false,not_or] at nb;exact sb.extBut _ _ nb.1 (g5 b o nb.1 nb.2 e)
  have elt:e≠s.heap.objs.size:=lt _ _ he;have pT:=sb.extBut _ _ elt.symm g3;have xC:∀{b:Addr} {o:HO} (e:H b=some o),upd H s.heap.objs.size (.tup [.int (i:Int),x]) b=some o:=fun e=>by rw [aO (fk e zm)];exact e
  have ay:bW X.prog X.w (upd H s.heap.objs.size (.tup [.int (i:Int),x])) zL:=fun b o e=>by
   by_cases hb:b=s.heap.objs.size
   ·subst hb
    rw [au] at e;cases e;exact ⟨by show 2≤sizeLine;decide,[.int i s.toks,u],.cons ⟨_,rfl⟩ (.cons ru .nil),⟨_,pT,rfl,_,rfl⟩⟩
   ·rw [aO hb] at e
    refine (I.ay b o e).iz (fun c v fm q=>keep c v (fun m=>?_) q) (fun c q=>xC q) fun c xs q=>xC q;have nn:=(hf c m).1;rcases fm with rfl | fm;·rw [nn] at e;cases e
    ·rw [nn] at fm;cases fm
  have u1:Un (cf X.stack) [e,it] H (upd H s.heap.objs.size (.tup [.int (i:Int),x])) s.heap zL:=
   ⟨fun b o e n _ hx=>keep b o hx e,fun b o e n _ hx=>⟨o.slots,keep b o hx e⟩,fun b o e n hx=>by rw [aO (lt b o e)];exact n,fun b o e hx=>⟨o,keep b o hx e⟩,fun b xs e=>xC e,fun b o u e=>xC e,fun b ps e=>⟨#[],by rw [xC e];simp⟩⟩
  refine ⟨.ref s.heap.objs.size,upd H s.heap.objs.size (.tup [.int (i:Int),x]),I.kP (s':={s with heap:=zL,toks:=s.toks+1}) (ch:=[e,it]) rfl u1 ay I.bare (fun b hb=>?_),rfl,⟨_,x,zm,rfl,rfl,fun as ha=>by rw [I.Ce ha tJ];exact hx⟩,?_,fun b hb=>?_⟩
  ·obtain ⟨f0,f1,f2,f3,f4,f5⟩:=hf b hb
   exact ⟨f3,f1,f4,f5⟩
  ·refine ⟨⟨u,?_⟩,g2.extBut sb.extBut IM.symm⟩
   have z:((i+1:Nat):Int)=(i:Int)+1:=by lia
   rw [z];exact q1
  ·have nb:b≠s.heap.objs.size:=by
    simp only [cM,mL,or_false] at hb;rcases hb with rfl | rfl;·exact lt _ _ he
    ·obtain ⟨o,e,_⟩:=h1;exact lt _ _ e
   rw [aO nb];exact (hf b hb).1
 done:=by
  intro X hP hw hK hc i pins s σ H E I hf st hg;subst hP hw hK;obtain ⟨⟨old,he⟩,h1⟩:=st;obtain ⟨xs,tJ,hx⟩:=hg;obtain ⟨ah,rv,p,_⟩:=I.list tJ;have hl:=rv.length;refine wpAny_pyNext_enum_end (I.ok.hd hc) he h1 p.isList (by simp;lia) fun h' g=>⟨rfl,?_⟩
  have keep:∀b o,b∉[e,it]→s.heap.get? b=some o→h'.get? b=some o:=fun b o nb e=>by simp only [cM,mL,or_false,not_or] at nb;exact g b o nb.2 e
  have ay:bW X.prog X.w H h':=fun b o e=>by
   refine (I.ay b o e).iz (fun c v fm q=>keep c v (fun m=>?_) q) (fun c q=>q) fun c xs q=>q;have nn:=(hf c m).1;rcases fm with rfl | fm;·rw [nn] at e;cases e
   ·rw [nn] at fm;cases fm
  have u1:Un (cf X.stack) [e,it] H H s.heap h':=
   ⟨fun b o e n _ hx=>keep b o hx e,fun b o e n _ hx=>⟨o.slots,keep b o hx e⟩,fun b o e n hx=>n,fun b o e hx=>⟨o,keep b o hx e⟩,fun b xs e=>e,fun b o u e=>e,fun b ps e=>⟨#[],by rw [e];simp⟩⟩
  refine I.kP (s':={s with heap:=h'}) (ch:=[e,it]) rfl u1 ay I.bare fun b hb=>?_;obtain ⟨f0,f1,f2,f3,f4,f5⟩:=hf b hb;exact ⟨f3,f1,f4,f5⟩
 self:=fun _ _ _ _ _ st h=>by obtain ⟨⟨old,he⟩,_⟩:=st;exact wpAny_pyIter_enum he h
theorem boot_enumerate:bootBuiltins "enumerate"=some (.type "enumerate"):=by decide +kernel
def RR(K:aD)(ta:TA):TI:=fun σ H R=>ta σ H fun vs H1=>∃l,vs=[.ref l]∧(∃xs,bO K H1 l xs)∧R (tI K l) H1
section
variable {X:Cx}
theorem tK{elts:List Expr}{k:Nat}{zf:Pos}{a:Expr}{ta:TA}{p pos:Pos}(hg:Gl X "enumerate")(hm:X.mg "enumerate"=none)(ha:PA X [a] ta)(hs:starEach [a] X.env=[(false,eval a X.env)]:=by rfl) :
  PI X (.Tuple elts k zf) (.Call (.Name "enumerate" p) [a] [] pos) (RR X.K ta):=by
 intro pins s σ H R I h;refine Call_ (mU I hg hm boot_enumerate (r_ (aK (ha pos pins s σ H _ I h) fun us s1 ⟨vs,H1,I1,r1,q1⟩=>?_) hs rfl));obtain ⟨l,e,⟨xs,tJ⟩,q⟩:=q1;subst e;obtain ⟨u,rfl,ru⟩:=vals1 r1;cases ru;obtain ⟨ah,rv,p1,_⟩:=I1.list tJ;refine call_enumerate_list p1.isList fun h' z1 z2 z3 z4=>?_;refine wpAny_pyIter_enum (s:={s1 with heap:=h'}) z1 ?_;refine ⟨_,_,_,_,H1,rfl,I1.kept (t':=s1.toks) z4,RQ (Nat.succ_ne_self _),⟨⟨_,z1⟩,z2⟩,fun b hb=>?_,q⟩;have le:s1.heap.objs.size≤b:=by
  simp only [cM,mL,or_false] at hb;rcases hb with rfl | rfl;·exact Nat.le_add_right ..
  ·exact aN _
 exact I1.oW le (I1.ay.fresh le)
end
theorem IP{xs:List V}{g:TG}{tb:TS}{D:Ends}{σ:St}{H:Hp}(Pv:Nat→St→Hp→Prop)(h0:Pv 0 σ H)(hl:∀i σ H,Pv i σ H→bO K H l xs)
  (hs:∀(i:Nat) (x:V) σ H T,xs[i]?=some x→Pv i σ H→H T=none→g (.ref T) σ (upd H T (.tup [.int (i:Int),x])) fun σ2 H2=>tb {D with nx:=Pv (i+1),ct:=Pv (i+1),bk:=D.nx} σ2 H2) (hd:∀σ H,Pv xs.length σ H→D.nx σ H) :
  ∃W:Nat→Nat→St→Hp→Prop,(∃m,W 0 m σ H)∧∀i m σ H,W i m σ H→
   ((tI K l).stop i H∧D.nx σ H)∨((tI K l).go i H∧∃N:St→Hp→Prop,(∀σ' H',N σ' H'→∃m',m'<m∧W (i+1) m' σ' H')∧∀x H',(tI K l).dY i H x H'→g x σ H' fun σ2 H2=>tb {D with nx:=N,ct:=N,bk:=D.nx} σ2 H2):=by
 refine ⟨fun i m σ H=>m=xs.length-i∧i≤xs.length∧Pv i σ H,⟨xs.length,by simp,b_ _,h0⟩,?_⟩
 rintro i m σ H ⟨rfl,hi,p⟩;have q1:=hl i σ H p;by_cases bP:i<xs.length
 ·refine .inr ⟨⟨xs,xs[i],q1,by simp [bP]⟩,Pv (i+1),fun σ' H' p'=>⟨xs.length-(i+1),by lia,rfl,bP,p'⟩,fun v H' hy=>?_⟩
  obtain ⟨T,x,nT,rfl,rfl,hx⟩:=hy;exact hs i x σ H T (hx xs q1) p nT
 ·have e:i=xs.length:=by lia
  subst e;exact .inl ⟨⟨xs,q1,aN _⟩,hd σ H p⟩
end L2
namespace My
open PySem L2
theorem tL:∀(n:Nat) (f:Nat→Int),a9 (n+1) f=a9 n f+f n
 | 0,f=>by show f 0+0=0+f 0;lia
 | n+1,f=>by show f 0+a9 (n+1) (fun i=>f (i+1))=(f 0+a9 n fun i=>f (i+1))+f (n+1);rw [tL n];lia
end My
namespace L2
open PySem PySem.Spec PyProof.Rows
section
variable {X:Cx} {tg:Expr}
end
end L2
namespace My
open PySem L2
def Cg(q a b:Int):Prop:=q∣a-b
variable {q:Int}
theorem Cg.refl(a:Int):Cg q a a:=⟨0,by lia⟩
variable {a b:Int}
theorem Cg.of_eq(h:a=b):Cg q a b:=h▸Cg.refl a
theorem Cg.symm(h:Cg q a b):Cg q b a:=by obtain ⟨k,e⟩:=h;exact ⟨-k,by rw [mM];lia⟩
variable {c:Int}
theorem Cg.trans(h1:Cg q a b)(h2:Cg q b c):Cg q a c:=by obtain ⟨k,e⟩:=h1;obtain ⟨l,e'⟩:=h2;exact ⟨k+l,by rw [Int.mul_add];lia⟩
theorem Cg.sub{d:Int}(h1:Cg q a b)(h2:Cg q c d):Cg q (a-c) (b-d):=by obtain ⟨k,e⟩:=h1;obtain ⟨l,e'⟩:=h2;exact ⟨k-l,by rw [Int.mul_sub];lia⟩
theorem Cg.mulL(c:Int)(h:Cg q a b):Cg q (c*a) (c*b):=by obtain ⟨k,e⟩:=h;exact ⟨c*k,by rw [←Int.mul_sub,e];grind⟩
theorem Cg.mulR(c:Int)(h:Cg q a b):Cg q (a*c) (b*c):=by rw [dM a,dM b];exact h.mulL c
theorem Dj(q a:Int):Cg q (a % q) a:=⟨-(a / q),by have:=yS a q;rw [mM];lia⟩
theorem RS(xs:List V):cT xs none (some (-1))=xs.dropLast:=by
 have e:HT.d_ xs.length xs.length (some (-1))=xs.length-1:=by unfold HT.d_;simp;lia
 unfold cT;rw [e,show HT.d_ xs.length 0 none=0 from rfl,List.drop_zero,Nat.sub_zero,List.dropLast_eq_take]
def bI(j:Nat)(v:aS):Nat→Nat→Int:=fun i=>if i<j then v i else v (i+1)
def sgn(j:Nat):Int:=if j % 2=0 then 1 else -1
theorem Dk(j:Nat):sgn (j+1)=-sgn j:=by
 unfold sgn;by_cases h:j % 2=0;·rw [aq h,ak (by lia)]
 ·rw [ak h,aq (by lia)];rfl
def aE:List Nat→(Nat→Nat→Int)→Int
 | [],_=>1
 | c::cs,v=>a9 (cs.length+1) fun j=>sgn j*v j c*aE cs (bI j v)
theorem xD(c:Nat)(cs:List Nat)(v:aS):aE (c::cs) v=a9 (cs.length+1) fun j=>sgn j*v j c*aE cs (bI j v):=rfl
theorem RT{l j:Nat}(h:l≤j)(v:aS):bI l (bI (j+1) v)=bI j (bI l v):=by
 funext i
 unfold bI;by_cases h1:i<l;·rw [aq h1,aq (by lia),aq (by lia),aq h1]
 ·rw [ak h1]
  by_cases h2:i<j;·rw [aq h2,ak h1,aq (by lia)]
  ·rw [ak h2,ak (by lia),ak (by lia)]
theorem IQ(n:Nat)(f:Nat→Int):a9 n (fun i=>-f i)=-a9 n f:=by
 have:=jr (-1) n f;rw [show (fun i=>-f i)=fun i=>-1*f i from funext fun i=>by lia,←this]
 lia
theorem RU(n:Nat)(F:aS):(a9 (n+1) fun j=>a9 n fun l=>F j l)=(a9 n fun j=>a9 (j+1) fun l=>F (j+1) l)+a9 n fun l=>a9 (l+1) fun j=>F j l:=by
 induction n with
 | zero=>rfl
 | succ n ih=>
  rw [tL (n+1) fun j=>a9 (n+1) fun l=>F j l];have e1:(a9 (n+1) fun j=>a9 (n+1) fun l=>F j l)=(a9 (n+1) fun j=>a9 n fun l=>F j l)+a9 (n+1) fun j=>F j n:=by rw [←pO];exact gj fun j _=>tL n _
  rw [e1,ih,tL n fun j=>a9 (j+1) fun l=>F (j+1) l,tL n fun l=>a9 (l+1) fun j=>F j l];lia
theorem IS(a b:Nat)(cs:List Nat)(v:aS):aE (a::b::cs) v=-aE (b::a::cs) v:=by
 have ex:∀x y:Nat,aE (x::y::cs) v=(a9 (cs.length+1) fun j=>a9 (j+1) fun l=>sgn (j+1)*sgn l*(v (j+1) x*v l y)*aE cs (bI j (bI l v)))-a9 (cs.length+1) fun j=>a9 (j+1) fun l=>sgn (j+1)*sgn l*(v l x*v (j+1) y)*aE cs (bI j (bI l v)):=fun x y=>by
  have e0:aE (x::y::cs) v=a9 (cs.length+2) fun j=>a9 (cs.length+1) fun l=>sgn j*v j x*(sgn l*bI j v l y*aE cs (bI l (bI j v))):=by rw [xD,eK];refine gj fun j _=>?_;rw [xD,jr]
  rw [e0,RU (cs.length+1)];rw [Int.sub_eq_add_neg,←IQ]
  congr 1
  ·refine gj fun j _=>gj fun l hl=>?_
   rw [RT (by lia),show bI (j+1) v l y=v l y by unfold bI;rw [aq (by lia)]]
   grind
  ·refine gj fun l _=>?_
   rw [←IQ];refine gj fun j hj=>?_;rw [show bI j v l y=v (l+1) y by unfold bI;rw [ak (by lia)],Dk]
   grind
 rw [ex a b,ex b a];have f:∀x y:Nat,(a9 (cs.length+1) fun j=>a9 (j+1) fun l=>sgn (j+1)*sgn l*(v l x*v (j+1) y)*aE cs (bI j (bI l v)))=a9 (cs.length+1) fun j=>a9 (j+1) fun l=>sgn (j+1)*sgn l*(v (j+1) y*v l x)*aE cs (bI j (bI l v)):=fun x y=>gj fun j _=>gj fun l _=>by rw [dM (v l x)]
 rw [f a b,f b a];lia
theorem tM(c:Nat):∀(cs:List Nat) (v:aS),c∈cs→aE (c::cs) v=0
 | b::cs,v,h=>by
  by_cases e:c=b
  ·subst e
   have:=IS c c cs v;lia
  ·have h':c∈cs:=by
    rcases cM.mp h with z | z;·exact absurd z e
    ·exact z
   rw [IS,xD];rw [show (fun j=>sgn j*v j b*aE (c::cs) (bI j v))=fun _=>0 from funext fun j=>by rw [tM c cs _ h',iw],xA]
   rfl
def aP(e:Nat→Int)(R:aS):Nat→Nat→Int
 | 0=>e
 | i+1=>R i
theorem IT(e:Nat→Int)(R:aS):bI 0 (aP e R)=R:=by
 funext i
 unfold bI;rw [ak (by lia)]
 rfl
theorem IU(i:Nat)(e:Nat→Int)(R:aS):bI (i+1) (aP e R)=aP e (bI i R):=by
 funext j
 unfold bI;cases j with
 | zero=>rw [aq (by lia)];rfl
 | succ j=>
  by_cases h:j<i
  ·rw [aq (by lia)]
   show R j=if j<i then R j else R (j+1)
   rw [aq h]
  ·rw [ak (by lia)]
   show R (j+1)=if j<i then R j else R (j+1)
   rw [ak h]
theorem i7(k:Nat)(C:List Nat)(e:Nat→Int)(R:aS):aE (k::C) (aP e R)=aE C R*e k+a9 C.length fun i=>R i k*(-(sgn i)*aE C (aP e (bI i R))):=by
 rw [xD,a9];have e0:sgn 0*aP e R 0 k*aE C (bI 0 (aP e R))=aE C R*e k:=by rw [IT];show 1*e k*aE C R=_;rw [oM,dM]
 rw [e0]
 congr 1
 refine gj fun i _=>?_;rw [IU,Dk];show -sgn i*R i k*_=_;grind
def tN(C:List Nat)(R:aS):Prop:=∀x:Nat→Int,(∀c∈C,(a9 C.length fun i=>R i c*x i)=0)→∀k,(a9 C.length fun i=>R i k*x i)=0
theorem RV(R:aS):tN [] R:=fun _ _ _=>rfl
variable {C:List Nat} {R:aS}
theorem RW{h:Nat→Int}{c:Nat}(sp:tN C R)(d0:aE C R≠0)(p0:aE (c::C) (aP h R)≠0):tN (c::C) (aP h R):=by
 intro x hx k;have ex:∀k,(a9 (c::C).length fun i=>aP h R i k*x i)=h k*x 0+a9 C.length fun i=>R i k*x (i+1):=fun k=>rfl;have hz:∀k,aE C R*(h k*x 0+a9 C.length fun i=>R i k*x (i+1))-x 0*aE (k::C) (aP h R)=a9 C.length fun i=>R i k*(aE C R*x (i+1)-x 0*(-(sgn i)*aE C (aP h (bI i R)))):=fun k=>by
  rw [i7,show (fun i=>R i k*(aE C R*x (i+1)-x 0*(-(sgn i)*aE C (aP h (bI i R)))))=fun i=>aE C R*(R i k*x (i+1)) + -(x 0)*(R i k*(-(sgn i)*aE C (aP h (bI i R)))) from funext fun i=>by grind,pO,←jr,←jr]
  grind
 have z:=sp _ fun c' fm=>by rw [←hz c',←ex c',hx c' (gT _ fm),tM c' C _ fm];simp
 have z1:∀k,aE C R*(h k*x 0+a9 C.length fun i=>R i k*x (i+1))=x 0*aE (k::C) (aP h R):=fun k=>by have:=hz k;rw [z k] at this;omega
 have x0:x 0=0:=by
  have e:=z1 c;rw [←ex c,hx c kA,iw] at e;rcases oK.mp e.symm with h | h;·exact h
  ·exact absurd h p0
 have e:=z1 k;rw [x0,eW] at e;rw [ex k,x0];rcases oK.mp e with h | h;·exact absurd h d0
 ·exact h
theorem RX(sp:tN C R)(e h:Nat→Int)(c k:Nat) :
  aE C R*aE (k::c::C) (aP e (aP h R))=aE (c::C) (aP h R)*aE (k::C) (aP e R)-aE (c::C) (aP e R)*aE (k::C) (aP h R):=by
 have two:∀k,aE (k::c::C) (aP e (aP h R))=aE (c::C) (aP h R)*e k-aE (c::C) (aP e R)*h k+a9 C.length fun i=>R i k*(sgn i*aE (c::C) (aP e (aP h (bI i R)))):=fun k=>by
  rw [i7,eK,a9];have e0:aP h R 0 k*(-(sgn 0)*aE (c::C) (aP e (bI 0 (aP h R))))=-(aE (c::C) (aP e R)*h k):=by rw [IT];show h k*(-1*_)=_;grind
  rw [e0,show (fun i=>aP h R (i+1) k*(-(sgn (i+1))*aE (c::C) (aP e (bI (i+1) (aP h R)))))=fun i=>R i k*(sgn i*aE (c::C) (aP e (aP h (bI i R)))) from funext fun i=>by rw [IU,Dk,Int.neg_neg];rfl]
  lia
 have hz:∀k,aE C R*aE (k::c::C) (aP e (aP h R))-(aE (c::C) (aP h R)*aE (k::C) (aP e R)-aE (c::C) (aP e R)*aE (k::C) (aP h R))=a9 C.length fun i=>R i k*(aE C R*(sgn i*aE (c::C) (aP e (aP h (bI i R))))-aE (c::C) (aP h R)*(-(sgn i)*aE C (aP e (bI i R)))+aE (c::C) (aP e R)*(-(sgn i)*aE C (aP h (bI i R)))):=fun k=>by
  rw [two k,i7 k C e R,i7 k C h R];rw [show (fun i=>R i k*(aE C R*(sgn i*aE (c::C) (aP e (aP h (bI i R))))-aE (c::C) (aP h R)*(-(sgn i)*aE C (aP e (bI i R)))+aE (c::C) (aP e R)*(-(sgn i)*aE C (aP h (bI i R)))))=fun i=>(aE C R*(R i k*(sgn i*aE (c::C) (aP e (aP h (bI i R))))) + -(aE (c::C) (aP h R))*(R i k*(-(sgn i)*aE C (aP e (bI i R)))))+aE (c::C) (aP e R)*(R i k*(-(sgn i)*aE C (aP h (bI i R)))) from funext fun i=>by grind,pO,pO,←jr,←jr,←jr]
  grind
 have z:=sp _ fun c' fm=>by rw [←hz c',tM c' (c::C) _ (gT _ fm),tM c' C _ fm,tM c' C _ fm];simp
 have:=hz k;rw [z k] at this;omega
def lB(C:List Nat)(R:aS)(f:Nat→Int):Nat→Int:=fun k=>aE (k::C) (aP f R)
theorem RY(R:aS)(f:Nat→Int)(k:Nat):lB [] R f k=f k:=by show aE [k] (aP f R)=f k;rw [i7];show 1*f k+0=f k;lia
theorem RZ(R:aS)(f:Nat→Int){c:Nat}(h:c∈C):lB C R f c=0:=tM c C _ h
theorem IV{e:Nat→Int}:∀{C:List Nat} (S:aS),C≠[]→(∀x∈C,e x=0)→aE C (aP e S)=0
 | x::C,S,_,h=>by
  rw [i7,h x kA,iw,oN];cases C with
  | nil=>rfl
  | cons y C=>rw [show (fun i=>S i x*(-(sgn i)*aE (y::C) (aP e (bI i S))))=fun _=>0 from funext fun i=>by rw [IV (bI i S) (by simp) fun z hz=>h z (gT _ hz)];simp,xA]
theorem R0(sp:tN C R)(f h:Nat→Int)(c k:Nat):lB C R h c*lB C R f k-lB C R f c*lB C R h k=aE C R*lB (c::C) (aP h R) f k:=(RX sp f h c k).symm
def gM:Nat→Nat
 | 0=>1
 | n+1=>(n+1)*gM n
theorem IW{M:Nat}:∀(n:Nat) (f:Nat→Int),(∀i,i<n→(f i).natAbs≤M)→(a9 n f).natAbs≤n*M
 | 0,_,_=>by show (0:Int).natAbs≤_;simp
 | n+1,f,h=>by rw [tL,Nat.succ_mul];exact a8 (Int.natAbs_add_le ..) (Nat.add_le_add (IW n f fun i hi=>h i (by lia)) (h n (by lia)))
theorem zM{B:Nat}:∀(C:List Nat) (v:aS),(∀i c,(v i c).natAbs≤B)→(aE C v).natAbs≤gM C.length*B ^ C.length
 | [],_,_=>by show (1:Int).natAbs≤1*B ^ 0;simp
 | c::C,v,h=>by
  rw [xD];refine a8 (IW (M:=B*(gM C.length*B ^ C.length)) _ _ fun j _=>?_) (Nat.le_of_eq ?_)
  ·rw [fK,fK]
   have s1:(sgn j).natAbs=1:=by unfold sgn;split <;> rfl
   rw [s1,Nat.one_mul];refine gz (h j c) (zM C _ fun i c'=>?_);unfold bI
   split
   ·exact h _ _
   ·exact h _ _
  ·rw [eK,gM,Nat.pow_succ]
   rw [Nat.mul_assoc,Nat.mul_left_comm B,Nat.mul_comm B]
theorem zN(hq:bC q):¬q∣1:=fun h=>by
 rcases hq with rfl | ⟨h2,_⟩
 ·have:=jf.mp h
  lia
 ·have:=Int.le_of_dvd (by decide) h
  lia
theorem Dl{u x:Int}(hq:bC q)(nu:¬q∣u)(h:Cg q (u*x) 0):Cg q x 0:=by unfold Cg at h ⊢;rw [mO] at h ⊢;exact wO fun nx=>RK hq nu nx h
end My
namespace L2
open PySem PySem.Spec PyProof.Rows
theorem R1{xs ys:List Int}(h:xs.length=ys.length):((List.range xs.length).all fun j=>l7 (.int (xs.getD j 0)) (.int (ys.getD j 0)))=decide (xs=ys):=by
 by_cases e:xs=ys
 ·subst e
  rw [dc rfl,wK];intro j _;exact RG rfl
 ·rw [da e]
  cases z:((List.range xs.length).all fun j=>l7 (.int (xs.getD j 0)) (.int (ys.getD j 0))) with
  | false=>rfl
  | true=>refine absurd (eX h fun j h1 h2=>?_) e;have:=wK.mp z j (gS.mpr h1);have this:(xs.getD j 0 == ys.getD j 0)=true:=this;rw [kB,ir,ir] at this;simpa [h1,h2] using this
end L2
namespace My
open PySem L2
def iF(B:Nat)(H:Hp)(q:Int)(a:Addr)(ai:fZ):Prop:=∃vs:List V,H a=some (.lst vs)∧vs.length=ai.length∧∀(i:Nat) (v:V) (ps:cx),vs[i]?=some v→ai[i]?=some ps→∃r:Addr,v=.ref r∧tG B H q r ps
theorem iF.mono{B:Nat}{H H':Hp}{q:Int}{a:Addr}{ai:fZ}(h:iF B H q a ai)(s:ae H H'):iF B H' q a ai:=by obtain ⟨vs,e,l,k⟩:=h;exact ⟨vs,s _ _ e,l,fun i v ps h1 h2=>by obtain ⟨r,e1,e2⟩:=k i v ps h1 h2;exact ⟨r,e1,e2.mono s⟩⟩
def R3(N:Addr):Sp:=fun vs H Q E=>∃(a:Addr) (q:Int) (B:Nat) (ai:fZ) (m:Nat),vs=[.ref a]∧iF B H q a ai∧1≤ai.length∧ai.length≤40∧(∀ps∈ai,ps.length=m)∧∀H',ae H H'→Q (.int (m:Int)) H'
def R4(N:Addr):Sp:=fun vs H Q E=>∃(a:Addr) (q:Int) (B:Nat) (ai:fZ) (m:Nat),vs=[.ref a]∧iF B H q a ai∧1≤ai.length∧ai.length≤40∧(∀ps∈ai,ps.length=m)∧(m≠ai.length→∀H',ae H H'→E (.ref N) none H')∧(m=ai.length→∀H',ae H H'→Q (.int (m:Int)) H')
def atT(ai:fZ)(i j:Nat):Int×Int:=(ai.getD i []).getD j o1
end My
namespace L2
open PySem PySem.Spec PyProof.Rows
theorem R5{X:Cx}{K:aD}(hK:X.K=K:=by rfl):CA X (m8 K):=by subst hK;exact gJ
end L2
namespace My
open PySem L2
theorem R6{x m a b:Int}(l:b8 x m)(e:x*b=a*m):m∣b:=by
 have h:m∣x*b:=⟨a,by rw [e,dM]⟩
 have g:Int.gcd m x=1:=by rw [Int.gcd_comm];exact l.fT
 have h2:m.natAbs∣x.natAbs*b.natAbs:=by rw [←fK];exact Int.natAbs_dvd_natAbs.mpr h
 exact Int.natAbs_dvd_natAbs.mp (Nat.Coprime.dvd_of_dvd_mul_left g h2)
end My
namespace L2
open PySem PySem.Spec PyProof.Rows
section
variable {X:Cx}
end
end L2
namespace My
open PySem L2
end My
namespace L2
open PySem PySem.Spec PyProof.Rows
end L2
namespace My
open PySem L2
theorem pQ{wi:TI}{ρ:St→St}{te:TE}{σ:St}{H:Hp}{Q:VK}{xs:List V}{n:Nat}(hl:xs.length=n)(jY:∀R:It→Hp→Prop,(∀J H1,ae H H1→nC J xs H1→R J H1)→wi σ H R)(hn:n<sizeLine)
  (P:Addr→Nat→Addr→Hp→Prop) (mono:∀D i y H H' ys,P D i y H→y≠D→H D=some (.lst ys)→(∀b o,b≠D→H b=some o→H' b=some o)→P D i y H')
  (step:∀D (i:Nat) (x:V),xs[i]?=some x→∀(Hc:Hp) (R:VK),ae H Hc→(∃ys,Hc D=some (.lst ys))→(∀y H3,ae Hc H3→Hc y=none→(∃o,H3 y=some o)→P D i y H3→R (.ref y) H3)→te (some x::ρ σ) Hc R)
  (fin:∀D (A:Nat→Addr) Hc,H D=none→ae H Hc→(∀i j,i<n→j<n→A i=A j→i=j)→(∀i,i<n→P D i (A i) Hc∧A i≠D)→Hc D=some (.lst ((List.range n).map fun i=>V.ref (A i)))→Q (.ref D) Hc):jS wi ρ (fun _ H Q=>Q true H) te σ H Q:=by
 refine jY _ fun J H1 s1 js=>?_;intro D nD;have hD:H D=none:=by
  cases e:H D with
  | none=>rfl
  | some o=>rw [s1 _ _ e] at nD;cases nD
 refine ⟨fun i m ys Hc=>m=n-i∧i≤n∧Hc D=some (.lst ys)∧ae H1 Hc∧∃A:Nat→Addr,ys=(List.range i).map (fun j=>V.ref (A j))∧(∀a b,a<i→b<i→A a=A b→a=b)∧∀j,j<i→P D j (A j) Hc∧A j≠D∧∃o,Hc (A j)=some o,⟨_,rfl,b_ _,au,iE (ae.refl H1) nD,fun _=>D,rfl,(fun a b h=>by lia),fun j h=>by lia⟩,?_⟩
 rintro i m ys Hc ⟨rfl,hi,eD,sH,A,rfl,inj,hA⟩;refine ⟨eD,?_⟩;by_cases bP:i<n
 ·refine .inr ⟨js.go i Hc sH (by lia),fun x H' hy=>?_⟩
  obtain ⟨rfl,hx⟩:=js.dY i Hc x H' sH hy;rw [aq rfl];refine step D i x (hx (by lia)) _ _ (s1.trans sH) ⟨_,eD⟩ fun y H3 s3 ny ⟨o,ho⟩ hp=>?_
  have e3:=s3 _ _ eD;have yD:y≠D:=fun e=>by rw [e,eD] at ny;cases ny
  have bG:∀b o,b≠D→H3 b=some o→upd H3 D (.lst ((List.range i).map (fun j=>V.ref (A j))++[.ref y])) b=some o:=fun b o nb e=>by rw [aO nb];exact e
  have nA:∀j,j<i→A j≠y:=fun j hj e=>by obtain ⟨_,_,o',h'⟩:=hA j hj;rw [e,ny] at h';cases h'
  refine ⟨e3,by simp;lia,n-(i+1),by lia,rfl,bP,au,iE (sH.trans s3) nD,fun j=>if j=i then y else A j,?_,fun a b ha hb e=>?_,fun j hj=>?_⟩
  ·rw [oO,kI]
   congr 1
   ·refine jg fun j hj=>?_
    dsimp only;rw [ak (by have:=gS.mp hj;lia)]
   ·simp
  ·dsimp only at e
   by_cases z1:a=i
   ·by_cases z2:b=i
    ·lia
    ·rw [aq z1,ak z2] at e
     exact absurd e.symm (nA b (by lia))
   ·by_cases z2:b=i
    ·rw [ak z1,aq z2] at e
     exact absurd e (nA a (by lia))
    ·rw [ak z1,ak z2] at e
     exact inj a b (by lia) (by lia) e
  ·dsimp only
   by_cases z:j=i
   ·rw [aq z,z]
    exact ⟨mono D i y H3 _ _ hp yD e3 bG,yD,o,bG _ _ yD ho⟩
   ·rw [ak z]
    obtain ⟨h1,h2,o',h3⟩:=hA j (by lia)
    exact ⟨mono D j (A j) H' _ _ h1 h2 eD (fun b o nb e=>bG b o nb (s3 _ _ e)),h2,o',bG _ _ h2 (s3 _ _ h3)⟩
 ·have e:i=n:=by lia
  subst e;exact .inl ⟨js.stop _ Hc sH (by lia),fin D A Hc hD (s1.trans sH) inj (fun j hj=>⟨(hA j hj).1,(hA j hj).2.1⟩) eD⟩
open PySem PySem.W PyProof.Rows
section
variable {n:Nat} {c:Nat→Int}
end
end My
namespace Tm
open PySem PySem.W PyProof.Rows
section
variable {prog:Program} {w:World} {A:Around} {E:aR} {s:Shared} {κ:SortKind} {key:Keyed→Int} {Ok:Keyed→Prop}
end
section
variable {prog:Program} {w:World} {A:Around} {E:aR} {s:Shared} {κ:SortKind} {key:Keyed→Int} {Ok:Keyed→Prop}
section
end
end
section
variable {key:Keyed→Int}
end
section
variable {prog:Program} {w:World} {A:Around} {E:aR} {s:Shared} {κ:SortKind} {key:Keyed→Int} {Ok:Keyed→Prop}
end
section
variable {prog:Program} {w:World} {A:Around} {E:aR} {s:Shared} {κ:SortKind} {key:Keyed→Int} {Ok:Keyed→Prop}
variable {arr:Array Keyed} {pend:Array (Nat×Nat×Nat)} {g:Nat}
end
section
variable {prog:Program} {w:World} {A:Around} {E:aR} {s:Shared} {κ:SortKind} {key:Keyed→Int} {Ok:Keyed→Prop} {arr:Array Keyed} {pend:Array (Nat×Nat×Nat)} {g:Nat}
end
section
variable {prog:Program} {w:World} {A:Around} {E:aR} {s:Shared} {κ:SortKind} {key:Keyed→Int} {Ok:Keyed→Prop} {arr:Array Keyed} {pend:Array (Nat×Nat×Nat)} {g:Nat}
end
section
variable {prog:Program} {w:World} {A:Around} {E:aR} {s:Shared} {κ:SortKind} {key:Keyed→Int} {Ok:Keyed→Prop} {arr:Array Keyed} {pend:Array (Nat×Nat×Nat)} {g:Nat}
end
section
variable {key:Keyed→Int} {arr ael:Array Keyed}
end
section
variable {prog:Program} {w:World} {A:Around} {E:aR} {s:Shared} {κ:SortKind} {key:Keyed→Int} {Ok:Keyed→Prop} {arr:Array Keyed} {pend:Array (Nat×Nat×Nat)} {g:Nat}
end
end Tm
namespace My
open PySem PySem.W PyProof.Rows Tm
section
variable {prog:Program} {w:World} {A:Around} {E:aR} {s:Shared}
end
open PySem PySem.W PyProof.Rows
section
variable {prog:Program} {w:World} {A:Around} {E:aR} {s:Shared}
end
end My
namespace L2
open PySem PySem.W PyProof.Rows My
end L2
namespace My
open PySem L2
def dD(H:Hp)(vs:List V)(L:cx):Prop:=vs.length=L.length∧∀(k:Nat) (v:V) (p:Int×Int),vs[k]?=some v→L[k]?=some p→∃b,v=.ref b∧H b=some (.tup [.int p.1,.int p.2])
theorem dD.nil(H:Hp):dD H [] []:=⟨rfl,fun k v p h=>by simp at h⟩
variable {H H':Hp} {L:cx}
theorem dD.mono{vs:List V}(h:dD H vs L)(s:ae H H'):dD H' vs L:=⟨h.1,fun k v p h1 h2=>by obtain ⟨b,e,g⟩:=h.2 k v p h1 h2;exact ⟨b,e,s _ _ g⟩⟩
variable {xs:List V}
theorem dD.bG{vs:List V}{r:Addr}(h:dD H vs L)(e:H r=some (.lst xs))(k:∀b o,b≠r→H b=some o→H' b=some o):dD H' vs L:=⟨h.1,fun i v p h1 h2=>by obtain ⟨b,eb,g⟩:=h.2 i v p h1 h2;refine ⟨b,eb,k b _ (fun z=>?_) g⟩;rw [z,e] at g;cases g⟩
def Dn(H:Hp)(t:Addr)(n:Nat)(L:cx):Prop:=∃(lt:Addr) (us:List V),H t=some (.tup [.int (n:Int),.ref lt])∧H lt=some (.tup us)∧dD H us L
theorem dD.cat{us zs:List V}{M:cx}(h:dD H us L)(g:dD H zs M):dD H (us++zs) (L++M):=⟨by simp [h.1,g.1],fun k v p h1 h2=>by
 have hl:=h.1;by_cases z:k<us.length
 ·rw [mI z] at h1
  rw [mI (by lia)] at h2
  exact h.2 k v p h1 h2
 ·rw [mH (by lia)] at h1
  rw [mH (by lia),show k-L.length=k-us.length by lia] at h2
  exact g.2 _ v p h1 h2⟩
variable {K:aD}
theorem IY{X:Cx}(hu:X.A.units<cLine)(hK:X.K=K:=by rfl):cq X (compareOp .NotEq) (Dc K):=by subst hK;exact Rt hu
theorem IZ{B B':Nat}{q:Int}{v u:V}{x m:Int}{R:VK}(hv:bh B H q v x m)(hu:bh B' H q u 0 1)(k:R (.bl (!decide (x=0))) H):Dc K v u H R:=by
 cases hv with
 | b6 e l bx bm=>
  cases hu with
  | b6 e' l' _ _=>
   refine .inl ⟨_,_,_,_,rfl,rfl,.of e,.of e',rfl,rfl,?_⟩;have z:(g8 [V.int x,V.int m] [V.int 0,V.int 1])=decide (x=0):=by
    show ((x == 0) && ((m == 1) && true))=_;by_cases hx:x=0
    ·subst hx
     have:=l.fT;rw [Int.gcd_zero_left] at this;have:=l.pos;have:m=1:=by lia
     subst this;rfl
    ·rw [da hx,show (x == 0)=false by simp [hx],Bool.false_and]
   rw [z];simpa using k
  | rem h0 h1 _=>lia
 | rem h0 h1 h2=>
  cases hu with
  | b6 _ _ _ _=>lia
  | rem _ _ _=>
   refine .inr ⟨rfl,?_⟩;rw [show decide (V.int x=V.int 0)=decide (x=0) by simp]
   exact k
theorem I0{wi:TI}{ρ:St→St}{tt:TT}{te:TE}{σ:St}{Q:VK}(pr:Nat→Bool)(jY:∀R:It→Hp→Prop,(∀J,nC J xs H→R J H)→wi σ H R)(hn:xs.length<sizeLine)
  (P:Addr→Nat→V→Hp→Prop) (mono:∀D i y H H' ys,P D i y H→H D=some (.lst ys)→(∀b o,b≠D→H b=some o→H' b=some o)→P D i y H')
  (test:∀(i:Nat) (x:V),xs[i]?=some x→∀(Hc:Hp) (R:Bool→Hp→Prop),ae H Hc→R (pr i) Hc→tt (some x::ρ σ) Hc R)
  (step:∀D (i:Nat) (x:V),xs[i]?=some x→∀(Hc:Hp) (R:VK),ae H Hc→(∃ys,Hc D=some (.lst ys))→(∀y H3,ae Hc H3→P D i y H3→R y H3)→te (some x::ρ σ) Hc R)
  (fin:∀D ys Hc,H D=none→ae H Hc→ys.length=((List.range xs.length).filter pr).length→(∀(k i:Nat) (y:V),ys[k]?=some y→((List.range xs.length).filter pr)[k]?=some i→P D i y Hc)→Hc D=some (.lst ys)→Q (.ref D) Hc):jS wi ρ tt te σ H Q:=by
 refine jY _ fun J js=>?_;intro D nD;refine ⟨fun i m ys Hc=>m=xs.length-i∧i≤xs.length∧Hc D=some (.lst ys)∧ae H Hc∧ys.length=((List.range i).filter pr).length∧∀(k i':Nat) (y:V),ys[k]?=some y→((List.range i).filter pr)[k]?=some i'→P D i' y Hc,⟨_,rfl,b_ _,au,iE (ae.refl H) nD,rfl,fun k i y h=>by simp at h⟩,?_⟩
 rintro i m ys Hc ⟨rfl,hi,eD,sH,ly,hP⟩;refine ⟨eD,?_⟩;by_cases bP:i<xs.length
 ·refine .inr ⟨js.go i Hc sH bP,fun x H' hy=>?_⟩
  obtain ⟨rfl,hx⟩:=js.dY i Hc x H' sH hy;refine test i x (hx bP) _ _ sH ?_;have fs:(List.range (i+1)).filter pr=(List.range i).filter pr++(if pr i=true then [i] else []):=by
   rw [oO,List.filter_append]
   congr 1
   cases e:pr i <;> simp [e]
  have fl:((List.range i).filter pr).length≤i:=a8 (B0 _ _) (by simp)
  cases e:pr i with
  | true=>
   rw [aq rfl];refine step D i x (hx bP) _ _ sH ⟨_,eD⟩ fun y H3 s3 hp=>?_;have e3:=s3 _ _ eD;have bG:∀b o,b≠D→H3 b=some o→upd H3 D (.lst (ys++[y])) b=some o:=fun b o nb e=>by rw [aO nb];exact e
   refine ⟨e3,by lia,xs.length-(i+1),by lia,rfl,bP,au,iE (sH.trans s3) nD,?_,fun k i' y' h1 h2=>?_⟩
   ·rw [fs,e,aq rfl,cR,cR,ly]
    rfl
   ·rw [fs,e,aq rfl] at h2
    by_cases z:k<ys.length
    ·rw [mI z] at h1
     rw [mI (by lia)] at h2
     refine mono D i' y' H' _ ys (hP k i' y' h1 h2) eD fun b o nb e=>bG b o nb (s3 _ _ e)
    ·have hk:=(bV.mp h1).1
     rw [cR,BV] at hk;obtain rfl:k=ys.length:=by lia
     rw [mH (aN _),Nat.sub_self] at h1;rw [mH (by lia),show ys.length-((List.range i).filter pr).length=0 by lia] at h2
     cases h1;cases h2;exact mono D _ _ H3 _ ys hp e3 bG
  | false=>
   rw [ak (by simp)]
   refine ⟨xs.length-(i+1),by lia,rfl,bP,eD,sH,?_,fun k i' y' h1 h2=>?_⟩
   ·rw [fs,e,ak (by simp),yH]
    exact ly
   ·rw [fs,e,ak (by simp),yH] at h2
    exact hP k i' y' h1 h2
 ·have e:i=xs.length:=by lia
  subst e;exact .inl ⟨js.stop _ Hc sH (aN _),fin D ys Hc nD sH ly hP eD⟩
def lC(n:Nat)(f:Nat→Nat→Bool)(i:Nat):List (Int×Int):=((List.range (n-(i+1))).filter fun k=>f i (i+1+k)).map fun k=>((i:Int),((i+1+k:Nat):Int))
def dA(n:Nat)(f:Nat→Nat→Bool):Nat→List (Int×Int)
 | 0=>[]
 | i+1=>dA n f i++lC n f i
variable {n i:Nat} {f:Nat→Nat→Bool}
theorem R7{p:Int×Int}(h:p∈lC n f i):∃j,i<j∧j<n∧f i j=true∧p=((i:Int),(j:Int)):=by obtain ⟨k,hk,rfl⟩:=jG.mp h;obtain ⟨h1,h2⟩:=r9.mp hk;have:=gS.mp h1;exact ⟨i+1+k,by lia,by lia,h2,rfl⟩
theorem R8{j:Nat}(h1:i<j)(h2:j<n)(h3:f i j=true):((i:Int),(j:Int))∈lC n f i:=by
 refine jG.mpr ⟨j-(i+1),r9.mpr ⟨gS.mpr (by lia),?_⟩,?_⟩
 ·show f i (i+1+(j-(i+1)))=true
  rw [show i+1+(j-(i+1))=j by lia]
  exact h3
 ·rw [show i+1+(j-(i+1))=j by lia]
theorem mem_of{n:Nat}{f:Nat→Nat→Bool}{p:Int×Int}:∀{k:Nat},p∈dA n f k→∃i j,i<k∧i<j∧j<n∧f i j=true∧p=((i:Int),(j:Int))
 | 0,h=>by cases h
 | k+1,h=>by
  rcases jB.mp h with h | h
  ·obtain ⟨i,j,h1,h2⟩:=mem_of h
   exact ⟨i,j,by lia,h2⟩
  ·obtain ⟨j,h1⟩:=R7 h
   exact ⟨k,j,by lia,h1⟩
theorem Dp{n:Nat}{f:Nat→Nat→Bool}{i j:Nat}(h1:i<j)(h2:j<n)(h3:f i j=true):∀{k:Nat},i<k→((i:Int),(j:Int))∈dA n f k
 | k+1,h=>by
  by_cases z:i=k
  ·subst z
   exact dX _ (R8 h1 h2 h3)
  ·exact yB _ (Dp h1 h2 h3 (by lia))
def nG(ai:fZ)(i j:Nat):Bool:=!decide (((ai.getD i []).getD j o1).1=0)
def cA(ai:fZ)(i j:Nat):Bool:=nG ai i j || nG ai j i
def R9(C:Addr):Sp:=fun vs H Q _=>∃(z a:Addr) (q:Int) (B:Nat) (ai:fZ) (n i:Nat),vs=[.ref z,.ref a,.int (i:Int)]∧dy C H z q∧bC q∧iF B H q a ai∧ai.length=n∧n≤40∧(∀ps∈ai,ps.length=n)∧i<n ∧
 ∀(r:Addr) (us:List V) (H':Hp),ae H H'→H r=none→H' r=some (.lst us)→dD H' us (lC n (cA ai) i)→Q (.ref r) H'
def R_(C N:Addr):Sp:=fun vs H Q E=>∃(z a:Addr) (q:Int) (B:Nat) (ai:fZ) (m:Nat),vs=[.ref z,.ref a]∧dy C H z q∧bC q∧iF B H q a ai∧1≤ai.length∧ai.length≤40∧(∀ps∈ai,ps.length=m) ∧
 (m≠ai.length→∀H',ae H H'→E (.ref N) none H') ∧
 (m=ai.length→∀(t:Addr) (H':Hp),ae H H'→H t=none→Dn H' t m (dA m (cA ai) m)→Q (.ref t) H')
end My
namespace L2
open PySem PySem.Spec PyProof.Rows
section
variable {X:Cx} {pins:aU} {σ:St} {H:Hp} {s:Shared}
end
end L2
namespace My
open PySem L2
theorem Sa{q:Int}:(lA q).prime=if q=0 then V.aF else .int q:=by
 unfold lA
 split <;> rfl
end My
namespace L2
open PySem PySem.Spec PyProof.Rows
def Dq(o:Obj):Nat:=match o.data with
 | .dict _ ep=>ep
 | _=>0
def tO(a:Addr)(o:Obj)(ao:List (Key×V)):It:=
 ⟨fun i H=>H a=some (.cp o (.dK ao))∧i<ao.length,fun i H x H'=>H'=H∧∃kv,ao[i]?=some kv∧x=kV kv.1,fun i H=>H a=some (.cp o (.dK ao))∧ao.length≤i⟩
variable {k:Key}
theorem Sb{v:Value}(h:oQ k v=true):RelV (kV k) v:=by
 rcases kJ h with ⟨i,t,rfl,rfl⟩ | ⟨x,t,rfl,rfl⟩;·exact ⟨t,rfl⟩
 ·exact ⟨t,rfl⟩
theorem I_{ao:List (Key×V)}{vs:List (Key×Value)}:∀{i:Nat} {kv:Key×V},KV ao vs→ao[i]?=some kv→∃v,vs[i]?=some (kv.1,v)
 | _,_,.nil,h=>by simp at h
 | 0,kv,.cons (b:=b) r _,h=>by simp at h;subst h;obtain ⟨k,v⟩:=b;have e:_=k:=r.1;exact ⟨v,by rw [e];rfl⟩
 | i+1,kv,.cons _ t,h=>by simp at h;obtain ⟨v,e⟩:=I_ t h;exact ⟨v,by simpa using e⟩
section
variable {X:Cx} {pins:aU} {σ:St} {H:Hp} {s:Shared}
theorem Inv.Dr{a:Addr}{o:Obj}{ao:List (Key×V)}(I:Inv X pins σ H s)(h:H a=some (.cp o (.dK ao))):∃vs,KV ao vs∧s.heap.DictAt (iy X.prog X.w) a vs (Dq o):=by obtain ⟨g,_,_,vs,r,o',es,ep,g',c,d,rest⟩:=(show cy X.prog X.w H s.heap a (.cp o (.dK ao)) from I.ay a _ h);rw [g] at g';cases g';refine ⟨vs,r,o,es,g,c,?_,rest⟩;rw [d];unfold Dq;rw [d]
end
variable {P:Program} {w:World}
theorem Sd{K:aD}{tg:Expr}(a it:Addr)(o:Obj)(ao:List (Key×V)):Turn P w K tg (tO a o ao) [it] it (fun i h=>h.IsKeyIter it a i ao.length (Dq o)) where
 mem:=by simp
 obj:=fun i h st b hb=>by
  have e:b=it:=by simpa using hb
  subst e;obtain ⟨o,e,c,d⟩:=st;exact ⟨o,e,fun v z=>by rw [d] at z;cases z⟩
 keep:=fun i h h' st k=>by obtain ⟨o,e,c,d⟩:=st;exact ⟨o,k it (by simp) o e,c,d⟩
 item:=by
  intro X hP hw hK hc i pins s σ H E I hf st hg;subst hP hw hK;obtain ⟨eH,hi⟩:=hg;obtain ⟨vs,r,hm⟩:=I.Dr eH;have lr:ao.length=vs.length:=Paired.length r;have ek:ao[i]?=some ao[i]:=by simp [hi]
  obtain ⟨v,ev⟩:=I_ r ek;obtain ⟨f0,f1,f2,f3,f4,f5⟩:=hf it (by simp)
  rw [lr] at st;refine wpAny_pyNext_dict_item st hm ev fun key h' hk f_ sb=>?_;have I1:Inv X pins σ H {s with heap:=h'}:=I.turned (t':=s.toks) (fun b o hb e=>(sb.2 b hb).trans e) f0 f1 f3 f4 f5;obtain ⟨o',e,c,d⟩:=id f_;rw [←lr] at f_;exact ⟨key,rfl,sG (s:={s with heap:=h'}) e c d (by decide) ⟨kV ao[i].1,H,I1,Sb hk,⟨rfl,_,ek,rfl⟩,f_,fun b hb=>(hf b hb).1⟩⟩
 done:=by
  intro X hP hw hK hc i pins s σ H E I hf st hg;subst hP hw hK;obtain ⟨eH,hi⟩:=hg;obtain ⟨vs,r,hm⟩:=I.Dr eH;have lr:ao.length=vs.length:=Paired.length r;obtain ⟨f0,f1,f2,f3,f4,f5⟩:=hf it (by simp)
  rw [lr] at st;exact wpAny_pyNext_dict_end (I.ok.hd hc) st hm (by simp;lia) fun h' eb=>⟨rfl,I.turned (t':=s.toks) (fun b o hb e=>eb b o hb e) f0 f1 f3 f4 f5⟩
 self:=fun _ _ _ _ _ st h=>wpAny_pyIter_keyiter st h
section
variable {X:Cx} {tg:Expr}
def Se(tl:TE):TI:=fun σ H R=>tl σ H fun x H1=>∃a ao,x=.ref a∧((H1 a=some (.dK ao)∧∀o,R (tO a o ao) (upd H1 a (.cp o (.dK ao))))∨∃o,H1 a=some (.cp o (.dK ao))∧R (tO a o ao) H1)
theorem Sf{l:Expr}{tl:TE}(hl:PE X l tl):PI X tg l (Se tl):=by
 intro pins s σ H R I h;refine aK (hl pins s σ H _ I h) fun v s1 ⟨x,H1,I1,r1,q1⟩=>?_;obtain ⟨a,ao,e,q⟩:=q1;subst e;cases r1;have main:∀{H2:Hp} {o:Obj},Inv X pins σ H2 s1→H2 a=some (.cp o (.dK ao))→R (tO a o ao) H2→wpAny (model X.prog X.w) X.A (pyIter (.ref a)) (za X pins σ tg R) X.xe s1:=fun{H2 o} I2 eH q=>by
  obtain ⟨vs,r,hm⟩:=I2.Dr eH;obtain ⟨_,_,sys,_⟩:=(show cy X.prog X.w H2 s1.heap a (.cp o (.dK ao)) from I2.ay a _ eH);have lr:ao.length=vs.length:=Paired.length r;refine wpAny_pyIter_dict sys hm ?_;refine ⟨s1.heap.objs.size,[s1.heap.objs.size],_,_,H2,rfl,I2.kept (t':=s1.toks) fun b o e=>cu _ e,Sd a _ o ao,⟨_,eJ _ rfl,rfl,by rw [lr];rfl⟩,fun b hb=>?_,q⟩
  have e:b=s1.heap.objs.size:=by simpa using hb
  subst e;exact I2.oW (aN _) (I2.ay.fresh (aN _))
 rcases q with ⟨eH,q⟩ | ⟨o,eH,q⟩
 ·obtain ⟨hz,sys,vs,r,o,es,ep,g,c,d,rest⟩:=(show cy X.prog X.w H1 s1.heap a (.dK ao) from I1.ay a _ eH)
  refine main (H2:=upd H1 a (.cp o (.dK ao))) ?_ au (q o);exact I1.write (t':=s1.toks) (x:=a) (e:=a) (by rw [eH];exact trivial) (.inl rfl) (fun b u _ e=>e) ⟨o,g⟩ ⟨g,hz,sys,vs,r,o,es,ep,g,c,d,rest⟩
 ·exact main I1 eH q
end
section
variable (P:Program) (w:World)
end
section
variable {P:Program} {w:World} {H H':Hp} {h h':Heap} {a:Addr} {o:HO}
end
section
variable {P:Program} {w:World} {H:Hp} {h h':Heap} {x e:Addr} {o':HO}
end
section
variable {fs B3 ex B4:List Addr} {H H1 H2:Hp} {h h1 h2 h':Heap} {a x e:Addr} {o:HO}
end
section
variable {X:Cx} {pins:aU} {σ:List (Option V)} {H H':Hp} {s:Shared} {h':Heap}
end
section
variable {X:Cx}
variable {a b:Expr} {ta tb:TE} {pos:Pos}
variable {tA w5:TT} {rest:List Expr}
end
section
variable {X:Cx} {pins:aU} {σ:St} {H:Hp} {s:Shared} {a:Addr} {xs ys:List V}
end
section
variable {X:Cx} {pins:aU} {σ:St} {H:Hp} {s:Shared} {E:aR}
end
section
variable {X:Cx} {st:Stmt} {rest:List Stmt} {t u:TS} {e:Expr} {te:TE} {pos:Pos}
end
section
variable {X:Cx} {pos:Pos}
end
section
variable {X:Cx} {pos:Pos}
end
section
variable {X:Cx} {tg:Expr}
end
section
variable {X:Cx} {a b c:Expr} {ta tb tc:TE} {pos:Pos}
end
section
variable {X:Cx} {a b c:Expr} {ta tb tc:TE} {pos:Pos}
end
section
variable {prog:Program} {w:World} {A:Around} {E:aR} {s:Shared} {K:aD} {x dx C f:Addr} {mA:cG} {name:Str} {v:Value}
end
section
variable {P:Program} {w:World} {H H':Hp} {h h':Heap} {a C dx:Addr} {fs B3:List (Str×V)}
end
section
variable {X:Cx} {pins:aU} {σ:St} {H:Hp} {s:Shared} {a C dx:Addr} {fs:List (Str×V)} {f:Str} {v:V} {A:Around} {E:aR}
end
section
variable {X:Cx} {o e value:Expr} {f:Str} {pos pos' zf:Pos} {ta tv:TE}
end
section
variable {X:Cx} {pins:aU} {σ:St} {H:Hp} {s:Shared} {A:Around} {E:aR} {Q:aR} {c:Value} {b:Bool}
end
section
variable {X:Cx} {e:Expr} {es:List Expr} {te:TE} {t:TA} {pos:Pos}
end
section
variable {X:Cx} {pins:aU} {σ:St} {H:Hp} {s s':Shared}
end
section
variable {X:Cx} {CX:gZ} {k:Nat} {f C:Addr} {fd:FuncData} {ps:List Str} {sp:Sp} {cY:List V} {ds:List Value} {E:XK} {x m:Str} {p pos apos:Pos} {e o:Expr} {es:List Expr} {ta:TE} {t:TA}
end
section
variable {X:Cx} {CX:gZ} {k:Nat} {f C:Addr} {fd:FuncData} {ps ks:List Str} {sp:Sp} {E:XK} {x m:Str} {p pos apos HB:Pos} {e o:Expr} {es:List Expr} {Pm:List Keyword} {te ta:TE} {t tk:TA} {nm:Option Str}
variable {g:List Value→List Value→List Value} {gV:List V→List V→List V}
end
section
variable {X:Cx} {x:Str} {p pos:Pos} {e:Expr} {es:List Expr} {t:TA} {id T:String} {r:List V→Hp→VK→Prop}
end
section
variable {κ:Type} [DecidableEq κ]
def pR(ao:List (κ×V))(k:κ):Option V:=(ao.find? fun kv=>decide (kv.1=k)).map (·.2)
def putK(ao:List (κ×V))(k:κ)(v:V):List (κ×V):=
 if (ao.any fun kv=>decide (kv.1=k))=true then ao.map (fun kv=>if kv.1=k then (kv.1,v) else kv) else ao++[(k,v)]
variable {p:κ×V}
theorem Ja{r:List (κ×V)}{k:κ}(e:p.1=k):pR (p::r) k=some p.2:=by simp [pR,yT,e]
theorem Jb{r:List (κ×V)}{k:κ}(e:¬p.1=k):pR (p::r) k=pR r k:=by simp [pR,yT,e]
theorem Jc(k:κ):∀ao:List (κ×V),(ao.any fun kv=>decide (kv.1=k))=(pR ao k).isSome
 | []=>rfl
 | p::r=>by
  rw [wN];by_cases e:p.1=k;·simp only [Ja e,dc e,Bool.true_or,Option.isSome_some]
  ·rw [Jb e,da e,Bool.false_or];exact Jc k r
theorem Jd(ao:List (κ×V))(k:κ)(v:V):(putK ao k v).length≤ao.length+1:=by
 unfold putK
 split
 ·rw [bg];lia
 ·rw [cR,eK,List.length_nil];lia
theorem iS.Sg{o:Option V}{u:Option Value}(r:iS o u):o.isSome=u.isSome:=by
 cases o with
 | none=>cases u with
  | none=>rfl
  | some _=>exact (show False from r).elim
 | some _=>cases u with
  | none=>exact (show False from r).elim
  | some _=>rfl
variable {ao:List (κ×V)}
theorem KV.any{vs:List (κ×Value)}(r:KV ao vs)(k:κ):(ao.any fun kv=>decide (kv.1=k))=vs.any fun kv=>decide (kv.1=k):=by
 unfold KV at r
 induction r with
 | nil=>rfl
 | cons h t ih=>rw [wN,wN,ih,h.1]
variable {y:V} {u:Value}
theorem KV.Ds{vs:List (κ×Value)}(r:KV ao vs)(k:κ)(ry:RelV y u) :
  KV (ao.map fun kv=>if kv.1=k then (kv.1,y) else kv) (vs.map fun kv=>if kv.1=k then (kv.1,u) else kv):=by
 unfold KV at r ⊢
 induction r with
 | nil=>exact .nil
 | @cons p q ps qs h t ih=>
  rw [cQ,cQ];refine .cons ?_ ih;obtain ⟨h1,h2⟩:=h;by_cases e:p.1=k;·rw [aq e,aq (h1.symm.trans e)];exact ⟨h1,ry⟩
  ·rw [ak e,ak (fun z=>e (h1.trans z))];exact ⟨h1,h2⟩
theorem KV.put{vs:List (κ×Value)}(r:KV ao vs)(k:κ)(ry:RelV y u):KV (putK ao k y) (stored vs k u):=by
 unfold putK stored;rw [r.any k];by_cases e:(vs.any fun kv=>decide (kv.1=k))=true;·rw [aq e,aq e];exact r.Ds k ry
 ·rw [ak e,ak e];exact Paired.snoc r ⟨rfl,ry⟩
theorem KV.length{vs:List (κ×Value)}(r:KV ao vs):ao.length=vs.length:=Paired.length r
end
variable {u:Value}
theorem Je(r:RelV (kV k) u):(iy P w).is k u=true:=by
 cases k with
 | inl i=>obtain ⟨t,e⟩:=(show ∃t,u=Value.int i t from r);subst e;exact NX P w i t
 | inr x=>obtain ⟨t,e⟩:=(show ∃t,u=Value.str x t from r);subst e;exact NY P w x t
theorem Jf{P:Program}{w:World}:∀{ks:List Key} {us:List Value},Vals (ks.map kV) us→ItemsAre (iy P w) ks us
 | [],_,r=>by rw [List.map_nil] at r;cases r;exact .nil
 | k::ks,_,r=>by
  rw [cQ] at r;cases r with
  | cons h t=>exact .cons (Je h) (Jf t)
abbrev KT (H:Hp):List (List Key×V)→List (List Key×Addr×Value)→Prop:=Paired fun p q=>p.1=q.1∧H q.2.1=some (.tup (p.1.map kV))∧RelV p.2 q.2.2
variable {H:Hp} {ao:List (List Key×V)} {xs:List (List Key×Addr×Value)}
theorem KT.val(r:KT H ao xs)(k:List Key):iS (pR ao k) ((atKey xs k).map (·.2)):=by
 induction r with
 | nil=>exact True.intro
 | @cons p q ps qs h t ih=>
  obtain ⟨h1,_,h2⟩:=h;by_cases e:p.1=k
  ·have e':q.1=k:=h1.symm.trans e
   have b:atKey (q::qs) k=some q.2:=by simp [atKey,yT,e']
   rw [Ja e,b];exact h2
  ·have e':¬q.1=k:=fun z=>e (h1.trans z)
   have b:atKey (q::qs) k=atKey qs k:=by simp [atKey,yT,e']
   rw [Jb e,b];exact ih
variable {y:V}
theorem KT.Ds(r:KT H ao xs)(k:List Key)(ry:RelV y u) :
  KT H (ao.map fun kv=>if kv.1=k then (kv.1,y) else kv) (xs.map (putAt k u)):=by
 induction r with
 | nil=>exact .nil
 | @cons p q ps qs h t ih=>
  rw [cQ,cQ];refine .cons ?_ ih;obtain ⟨h1,h2,h3⟩:=h;unfold putAt;by_cases e:p.1=k;·rw [aq e,aq (h1.symm.trans e)];exact ⟨h1,h2,ry⟩
  ·rw [ak e,ak (fun z=>e (h1.trans z))];exact ⟨h1,h2,h3⟩
theorem KT.put(r:KT H ao xs)(k:List Key){b:Addr}(hb:H b=some (.tup (k.map kV)))(ry:RelV y u) :
  KT H (putK ao k y) (storedH xs k b u):=by
 have e:(ao.any fun kv=>decide (kv.1=k))=(atKey xs k).isSome:=by rw [Jc,(r.val k).Sg,Option.isSome_map]
 unfold putK storedH;rw [e];by_cases q:(atKey xs k).isSome=true;·rw [aq q,aq q];exact r.Ds k ry
 ·rw [ak q,ak q];exact Paired.snoc r ⟨rfl,hb,ry⟩
theorem KT.keeps{H':Hp}(r:KT H ao xs)(ht:∀b ys,H b=some (.tup ys)→H' b=some (.tup ys)):KT H' ao xs:=
 Paired.B2 r fun _ _ z=>⟨z.1,ht _ _ z.2.1,z.2.2⟩
section
variable {P:Program} {w:World} {H:Hp} {h:Heap} {a:Addr}
theorem Jg{u:HO}(ok:bW P w H h)(e:Rd H a u):cy P w H h a u:=e.ok ok
theorem Sh{ao:List (Key×V)}(ok:bW P w H h)(e:Rd H a (.dK ao)):ao.length≤sizeLine∧(a == sysModules)=false∧∃vs,KV ao vs∧h.DictOf (iy P w) a vs:=
 show cy P w H h a (.dK ao) from Jg ok e
theorem Si{ao:List (Key×V)}(ok:bW P w H h)(e:H a=some (.dK ao)):ao.length≤sizeLine∧(a == sysModules)=false∧∃vs,KV ao vs∧h.DictOf (iy P w) a vs:=Sh ok (.inl e)
theorem Jh{ks:List Key}(ok:bW P w H h)(e:H a=some (.tup (ks.map kV))):(tupleKind (iy P w)).is h ks a:=by obtain ⟨_,ah,r,o,h1,h2,n,h3⟩:=(show cy P w H h a (.tup (ks.map kV)) from ok a _ e);exact ⟨o,ah.toArray,n,h1,h2,h3,by simpa using Jf r⟩
theorem Sj(ok:bW P w H h)(e:Rd H a (.dT ao)):ao.length≤sizeLine∧(a == sysModules)=false ∧
  ∃xs,KT H ao xs∧h.DictOfH (tupleKind (iy P w)) a xs:=by
 obtain ⟨z,y,xs,r,o,es,ep,h1,h2,h3,h4,h5⟩:=(show cy P w H h a (.dT ao) from Jg ok e);refine ⟨z,y,xs,r,o,es,ep,h1,h2,h3,h4,fun x hx=>?_,h5⟩;have all:∀{l:List (List Key×V)} {m:List (List Key×Addr×Value)},KT H l m→∀x∈m,(tupleKind (iy P w)).is h x.1 x.2.1:=by
  intro l m q
  induction q with
  | nil=>intro x hx;exact nomatch hx
  | @cons p q ps qs hq t ih=>
   intro x hx;rcases cM.mp hx with e | hx
   ·subst e
    exact Jh ok (by rw [←hq.1];exact hq.2.1)
   ·exact ih x hx
 exact all r x hx
theorem Sk(ok:bW P w H h)(e:H a=some (.dT ao)):ao.length≤sizeLine∧(a == sysModules)=false ∧
  ∃xs,KT H ao xs∧h.DictOfH (tupleKind (iy P w)) a xs:=Sj ok (.inl e)
end
def Dt(H:Hp)(a:Addr)(y v:V)(H':Hp):Prop:=
 (∃ao k,H a=some (.dK ao)∧y=kV k∧ao.length<sizeLine∧H'=upd H a (.dK (putK ao k v))) ∨
 ∃ao k b,H a=some (.dT ao)∧y=.ref b∧H b=some (.tup (k.map kV))∧ao.length<sizeLine∧H'=upd H a (.dT (putK ao k v))
section
variable {X:Cx} {pins:aU} {σ:St} {H:Hp} {s:Shared} {a:Addr} {y v:V} {u r:Value} {o:Option V} {A:Around} {E:aR}
theorem Inv.big(I:Inv X pins σ H s):sysModules<s.heap.objs.size:=by have h:mainGlobals<s.heap.objs.size:=(I.mod.glob.keeps I.bk).lt;exact Nat.lt_trans (by decide) h
variable {h':Heap}
theorem Ji{t':Nat}{ob:HO}(I:Inv X pins σ H s)(mu:wY (H a))(hs:Heap.SameBut a s.heap h')(he:∃q,h'.get? a=some q)(new:cy X.prog X.w (upd H a ob) h' a ob) :
  Inv X pins σ (upd H a ob) {s with heap:=h',toks:=t'}:=
 I.write (x:=a) (e:=a) mu (.inl rfl) (fun b q hb z=>(hs.2 b hb).trans z) he new
variable {H':Hp}
theorem Sl{ao:List (Key×V)}{vs:List (Key×Value)}(z:ao.length≤sizeLine)(hd:(a == sysModules)=false)(rel:KV ao vs)(dd:h'.DictOf (iy P w) a vs) :
  cy P w H' h' a (.dK ao):=⟨z,hd,vs,rel,dd⟩
theorem Sm{Q:Unit→Shared→Prop}(hu:A.units+1<cLine)(I:Inv X pins σ H s)(g:Dt H a y v H')(ry:RelV y u)(rv:RelV v r)(h:∀s',Inv X pins σ H' s'→Q () s') :
  wpAny (model X.prog X.w) A (setItem (.ref a) u r) Q E s:=by
 rcases g with ⟨ao,k,e,ey,l,eH⟩ | ⟨ao,k,b,e,ey,eb,l,eH⟩
 ·subst ey eH
  obtain ⟨z,hd,vs,rel,dd⟩:=Si I.ay e;have hz:vs.length≤sizeLine:=by rw [←rel.length];exact z
  have hl:(putK ao k v).length≤sizeLine:=by have:=Jd ao k v;lia
  refine wpAny_setItem_pairs (hsz:=hz) (Je ry) dd fun h' pq hs=>h _ ?_;have he:∃q,h'.get? a=some q:=let ⟨q,_,_,hq,_⟩:=pq;⟨q,hq⟩
  exact Ji I (by rw [e];exact True.intro) hs he (Sl hl hd (rel.put k rv) pq)
 ·subst ey eH
  cases (show u=Value.ref b from ry);obtain ⟨z,hd,xs,rel,dd⟩:=Sk I.ay e;have hz:xs.length≤sizeLine:=by rw [←Paired.length rel];exact z
  have hl:(putK ao k v).length≤sizeLine:=by have:=Jd ao k v;lia
  refine wpAny_setItem_heap (hsz:=hz) (tupleKind_room_in1 hu) (Jh I.ay eb) dd fun h' pq hs=>h _ ?_;obtain ⟨q,es,ep,hq,h2,h3,h4,_,h5⟩:=pq;refine Ji I (by rw [e];exact True.intro) hs ⟨q,hq⟩ ⟨hl,hd,_,(rel.put k eb rv).keeps fun c ys ec=>?_,q,es,ep,hq,h2,h3,h4,h5⟩
  rw [aO (NZ ec e (fun z=>nomatch z))];exact ec
end
section
variable {X:Cx} {pins:aU} {σ:St} {H:Hp} {s:Shared} {a:Addr} {ao:List (Key×V)} {k:Key} {u:Value} {A:Around} {E:aR}
end
def Sn(td ty tv:TE):TS:=fun D σ H=>tv σ H fun v H1=>td σ H1 fun x H2=>ty σ H2 fun y H3=>∃a H4,x=.ref a∧Dt H3 a y v H4∧D.nx σ H4
section
variable {X:Cx} {o i e value:Expr} {pos pos' zf:Pos} {td ty tv:TE}
theorem Du(hu:X.A.units+1<cLine)(ho:PE X o td)(hi:PE X i ty)(hv:PE X value tv)(hs:swapsWith value (some (.Subscript o i pos')) pos.line X.env=pure false) :
  PS X (.Assign [.Subscript o i pos'] value pos) (Sn td ty tv):=by
 intro pins s σ H D I h;refine wpAny_Assign_Subscript (aK (hv pins s σ H _ I h) fun r s1 ⟨v,H1,I1,rv,q1⟩=>aK (ho pins s1 σ H1 _ I1 q1) fun u s2 ⟨x,H2,I2,rx,q2⟩=>aK (hi pins s2 σ H2 _ I2 q2) fun iv s3 ⟨y,H3,I3,ry,a,H4,ex,g,q3⟩=>?_) hs;subst ex;obtain rfl:u=Value.ref a:=rx;exact Sm hu I3 g ry rv fun s4 I4=>⟨σ,H4,I4,q3⟩
end
theorem So(h:Heap)(hb:sysModules<h.objs.size):cy P w H (h.push {cls:=.type "dict",data:=.dict #[]}) h.objs.size (.dK []):=
 ⟨b_ _,r6.mpr (Ne.symm (cV hb)),[],.nil,Heap.DictOf.new h⟩
def Sq:TE:=fun _ H Q=>∀p,H p=none→Q (.ref p) (upd H p (.dK []))
section
variable {X:Cx} {pos:Pos}
theorem Sr:PE X (.Dict [] [] pos) Sq:=fun pins s σ H Q I h=>wpAny_Dict_empty ⟨.ref s.heap.objs.size,_,I.laid (a:=s.heap.objs.size) (o:=.dK []) (t':=s.toks) (fun _ _ q=>cu _ q) (aN _) (So s.heap I.big),rfl,h _ (I.ay.fresh (aN _))⟩
end
section
variable {X:Cx} {pins:aU} {σ:St} {H:Hp} {s:Shared} {a:Addr} {y d:V} {u r:Value} {o:Option V} {A:Around} {E:aR}
end
section
variable {X:Cx} {o e f:Expr} {apos g7:Pos} {td ty tx:TE}
end
section
variable {X:Cx} {pins:aU} {σ:St} {H:Hp} {s:Shared} {a:Addr} {ao:List (Key×V)} {A:Around} {E:aR}
end
section
variable {X:Cx} {pins:aU} {σ:St} {H:Hp} {s:Shared} {a:Addr} {y:V} {u:Value} {A:Around} {E:aR}
end
end L2
namespace Att
open PySem PySem.W PySem.Calls PyProof.Rows
section
variable {prog:Program} {w:World} {A:Around} {E:aR} {s:Shared} {K:Frag}
end
end Att
namespace L2
open PySem PySem.Spec PyProof.Rows
section
variable {P:Program} {w:World} {K:aD} {mg:cG} {base:Heap}
end
section
variable {X:Cx}
end
section
variable {κ:Type} [DecidableEq κ]
end
theorem Jj:∀{us:List Value} {ns:List Int},IntsAre us ns→Vals (ns.map V.int) us
 | _,_,.nil=>.nil
 | _,_,.cons a u r=>.cons ⟨u,rfl⟩ (Jj r)
def Ss:List V→Hp→VK→Prop:=fun xs H Q=>∃(a:Addr) (zs:List Int),xs=[.ref a]∧H a=some (.lst (zs.map V.int))∧zs.length<64∧∀(ws:List Int) (D:Addr),ws.Perm zs→ws.Pairwise (·≤·)→H D=none→Q (.ref D) (upd H D (.lst (ws.map V.int)))
theorem Jk{X:Cx}:fN X (.builtin "sorted") Ss:=by
 intro pins s σ H xs us Q I r h;obtain ⟨a,zs,rfl,ha,h64,k⟩:=h;obtain ⟨u,rfl,ru⟩:=vals1 r;cases ru;obtain ⟨ah,rv,pl,hz⟩:=I.list (.of ha);have hl:=rv.length;rw [bg] at hl;refine sorted_ints pl.isList (intsAre_of rv) (by lia) fun out Jl a1 a2 a3=>?_
 obtain ⟨e,he⟩:=sortedAll_at s.heap ah out;refine ⟨.ref (s.heap.objs.size+1),_,I.laid (t':=s.toks) (o:=.lst (Jl.map .int)) (fun _ _=>sortedAll_old) (Nat.le_succ _) ⟨?_,out.toList,e,Jj a1,?_⟩,rfl,k Jl _ a2 a3 (I.ay.fresh (Nat.le_succ _))⟩
 ·rw [bg,a2.length_eq]
  rw [sizeLine_eq];lia
 ·simpa using he
end L2
namespace My
open PySem L2
def dk(ks:List Nat):List (Key×V):=ks.map fun k:Nat=>((Sum.inl (k:Int):Key),V.bl true)
def e9(ks:List Nat)(k:Nat):List Nat:=if k∈ks then ks else ks++[k]
theorem Su{a b:Nat}:((Sum.inl (a:Int):Key)=Sum.inl (b:Int))↔a=b:=by
 constructor
 ·intro h
  have:=Sum.inl.inj h;lia
 ·rintro rfl;rfl
theorem Sv(ks:List Nat):(dk ks).length=ks.length:=bg _
theorem SA(ks:List Nat)(k:Nat):((dk ks).any fun kv=>decide (kv.1=(Sum.inl (k:Int):Key)))=decide (k∈ks):=by
 rw [oE,List.any_eq_true,wQ];constructor
 ·rintro ⟨kv,h1,h2⟩
  obtain ⟨j,hj,rfl⟩:=jG.mp h1;have:=Su.mp (fh h2);subst this;exact hj
 ·intro h
  exact ⟨_,jG.mpr ⟨k,h,rfl⟩,dc rfl⟩
theorem SD(ks:List Nat)(k:Nat):putK (dk ks) (Sum.inl (k:Int):Key) (V.bl true)=dk (e9 ks k):=by
 unfold putK e9;rw [SA];by_cases h:k∈ks
 ·rw [aq (dc h),aq h]
  unfold dk;rw [iR];refine jg fun j _=>?_;show (if _ then _ else _)=_
  split <;> rfl
 ·rw [ak (by rw [wQ];exact h),ak h]
  unfold dk;rw [kI];rfl
variable {ks:List Nat} {k j:Nat}
theorem zO:j∈e9 ks k↔j∈ks∨j=k:=by
 unfold e9;by_cases h:k∈ks
 ·rw [aq h]
  constructor;·exact .inl
  ·rintro (e | rfl)
   ·exact e
   ·exact h
 ·rw [ak h,jB,iu]
theorem SE(h:ks.Nodup):(e9 ks k).Nodup:=by
 unfold e9;by_cases m:k∈ks;·rw [aq m];exact h
 ·rw [ak m]
  refine yU.mpr ⟨h,(by simp),fun a ha b hb=>?_⟩
  rw [iu] at hb;subst hb;rintro rfl;exact m ha
def lD(n:Nat)(ks:List Nat):Prop:=ks.Nodup∧∀k∈ks,k<n
theorem lD.nil(n:Nat):lD n []:=⟨List.nodup_nil,fun _ h=>by cases h⟩
variable {n:Nat}
theorem lD.add(h:lD n ks)(hk:k<n):lD n (e9 ks k):=⟨SE h.1,fun j hj=>by
 rcases zO.mp hj with e | rfl;·exact h.2 j e
 ·exact hk⟩
theorem Dv:∀{n:Nat} {ks:List Nat},ks.Nodup→(∀k∈ks,k<n)→ks.length≤n
 | 0,ks,_,h=>by
  cases ks with
  | nil=>exact aN _
  | cons a r=>exact absurd (h a (kA ..)) (mJ _)
 | n+1,ks,nd,h=>by
  have e:=Dv (n:=n) (ks:=ks.erase n) (nd.erase n) (fun k hk=>by have m:=(List.Nodup.mem_erase_iff nd).mp hk;have:=h k m.2;have:=m.1;lia)
  by_cases hm:n∈ks
  ·have:=List.length_erase_of_mem hm
   lia
  ·rw [List.erase_of_not_mem hm] at e
   lia
theorem lD.len(h:lD n ks):ks.length≤n:=Dv h.1 h.2
structure dQ (H:Hp) (D:Addr) (n:Nat) (ds:Nat→Addr) (un:Nat→Prop) (f:Nat→List Nat):Prop where
 lst:H D=some (.lst ((List.range n).map fun i=>V.ref (ds i)))
 inj:∀i j,i<n→j<n→ds i=ds j→i=j
 ne:∀i,i<n→ds i≠D
 at':∀i,i<n→un i→H (ds i)=some (.dK (dk (f i)))
 pl:∀i,i<n→lD n (f i)
def fG(f:Nat→List Nat)(i:Nat)(ks:List Nat):Nat→List Nat:=fun j=>if j=i then ks else f j
variable {H:Hp} {D:Addr} {ds:Nat→Addr} {f:Nat→List Nat} {i:Nat}
theorem dQ.put{un:Nat→Prop}(h:dQ H D n ds un f)(hi:i<n)(hj:j<n)(ui:un i)(hn:n≤1000) :
  Dt H (ds i) (.int (j:Int)) (.bl true) (upd H (ds i) (.dK (dk (e9 (f i) j))))∧dQ (upd H (ds i) (.dK (dk (e9 (f i) j)))) D n ds un (fG f i (e9 (f i) j)):=by
 refine ⟨.inl ⟨dk (f i),Sum.inl (j:Int),h.at' i hi ui,rfl,?_,by rw [SD]⟩,?_,h.inj,h.ne,fun k hk uk=>?_,fun k hk=>?_⟩
 ·rw [Sv]
  have:=(h.pl i hi).len;exact kD this (kD hn (by rw [sizeLine_eq];decide))
 ·rw [aO (Ne.symm (h.ne i hi))]
  exact h.lst
 ·unfold fG
  by_cases e:k=i
  ·subst e
   rw [aq rfl,au]
  ·rw [ak e,aO (fun z=>e (h.inj k i hk hi z))]
   exact h.at' k hk uk
 ·unfold fG
  by_cases e:k=i;·rw [aq e];exact (h.pl i hi).add hj
  ·rw [ak e];exact h.pl k hk
theorem dQ.ix{un:Nat→Prop}(h:dQ H D n ds un f)(hi:i<n):gI ((List.range n).map fun i=>V.ref (ds i)) (i:Int)=some (V.ref (ds i)):=
 jQ (by rw [cw,je hi];rfl)
def Dw(n:Nat)(L:cx):Prop:=∀p∈L,0≤p.1∧p.1<(n:Int)∧0≤p.2∧p.2<(n:Int)
def mf(n:Nat)(L:cx)(f:Nat→List Nat):Prop:=∀i j:Nat,i<n→(j∈f i↔((i:Int),(j:Int))∈L∨((j:Int),(i:Int))∈L)
theorem mf.nil(n:Nat):mf n [] (fun _=>[]):=fun i j _=>by simp
theorem mf.more{L:cx}(h:mf n L f)(hi:i<n)(hj:j<n):mf n (L++[((i:Int),(j:Int))]) (fG (fG f i (e9 (f i) j)) j (e9 (fG f i (e9 (f i) j) j) i)):=fun a b ha=>by
 have e1:∀x y:Nat,y∈fG f i (e9 (f i) j) x↔y∈f x∨(x=i∧y=j):=fun x y=>by
  unfold fG;by_cases e:x=i
  ·subst e
   rw [aq rfl,zO];simp
  ·rw [ak e]
   simp [e]
 have e2:b∈fG (fG f i (e9 (f i) j)) j (e9 (fG f i (e9 (f i) j) j) i) a↔b∈fG f i (e9 (f i) j) a∨(a=j∧b=i):=by
  unfold fG;by_cases e:a=j
  ·subst e
   rw [aq rfl,zO];simp
  ·rw [ak e]
   simp [e]
 rw [e2,e1,h a b ha];simp only [jB,iu,Prod.mk.injEq];constructor
 ·rintro ((e | e) | ⟨rfl,rfl⟩)
  ·rcases e with e | e
   ·exact .inl (.inl e)
   ·exact .inr (.inl e)
  ·exact .inl (.inr ⟨by lia,by lia⟩)
  ·exact .inr (.inr ⟨rfl,rfl⟩)
 ·rintro ((e | ⟨e1,e2⟩) | (e | ⟨e1,e2⟩))
  ·exact .inl (.inl (.inl e))
  ·exact .inl (.inr ⟨by lia,by lia⟩)
  ·exact .inl (.inl (.inr e))
  ·exact .inr ⟨by lia,by lia⟩
def SF:Sp:=fun vs H Q _=>∃(t:Addr) (n:Nat) (L:cx),vs=[.ref t]∧Dn H t n L∧Dw n L∧n≤1000 ∧
 ∀(H':Hp) (D:Addr) (ds:Nat→Addr) (f:Nat→List Nat),ae H H'→H D=none→(∀i,i<n→H (ds i)=none)→dQ H' D n ds (fun _=>True) f→mf n L f→Q (.ref D) H'
end My
namespace L2
open PySem PySem.Spec PyProof.Rows
def SG(K:aD):R2:=fun x y H Q=>∃(a b:Addr) (xs ys:List Int),x=.ref a∧y=.ref b∧bO K H a (xs.map V.int)∧bO K H b (ys.map V.int)∧Q (.bl (decide (xs=ys))) H
theorem SH{X:Cx}(hu:X.A.units+64<cLine):cq X (compareOp .Eq) (SG X.K):=by
 intro pins s σ H x y v u Q I rx ry h;obtain ⟨a,b,xs,ys,rfl,rfl,h1,h2,q⟩:=h;cases rx;cases ry;obtain ⟨us,r1,t1,_⟩:=I.list h1;obtain ⟨vs,r2,t2,_⟩:=I.list h2;have l1:=r1.length;have l2:=r2.length;rw [bg] at l1 l2;by_cases hl:xs.length=ys.length
 ·refine SeqAt.RcAt.lists (e:=fun j=>l7 (.int (xs.getD j 0)) (.int (ys.getD j 0))) t1.isList t2.isList (by simp;lia) (by lia) (fun j z1 z2=>?_) _ _ _ _ ?_
  ·have z1':j<us.length:=by simpa using z1
   have z2':j<vs.length:=by simpa using z2
   have ex:(xs.map V.int)[j]?=some (.int (xs.getD j 0)):=by rw [cw,ir];simp [show j<xs.length by lia]
   have ey:(ys.map V.int)[j]?=some (.int (ys.getD j 0)):=by rw [cw,ir];simp [show j<ys.length by lia]
   obtain ⟨x',B4,rx⟩:=r1.get ex;obtain ⟨y',SI,ry⟩:=r2.get ey;have e1:us.toArray[j]=x':=by simpa using (bV.mp B4).2
   have e2:vs.toArray[j]=y':=by simpa using (bV.mp SI).2
   rw [e1,e2];exact CB rx ry rfl rfl
  ·rw [show us.toArray.size=xs.length by simp;lia,R1 hl]
   exact ⟨.bl (decide (xs=ys)),H,I,rfl,q⟩
 ·rw [da (fun e=>hl (by rw [e]))] at q
  refine SeqAt.RcAt.lists_lengths t1.isList t2.isList ?_ (by lia) _ _ _ _ ⟨.bl false,H,I,rfl,q⟩
  simp;lia
end L2
namespace My
open PySem L2
def iN(k:Nat):Int:=(k:Int)
def gN(zs:List Int)(n:Nat):Prop:=zs.Perm ((List.range n).map iN)
instance (zs:List Int) (n:Nat):Decidable (gN zs n):=by unfold gN;exact inferInstance
theorem SJ(n:Nat):((List.range n).map iN).Pairwise (·≤·):=by rw [List.pairwise_map];exact List.Pairwise.imp (fun h=>by unfold iN;lia) List.pairwise_lt_range
variable {ws zs:List Int} {n:Nat}
theorem SK(p:ws.Perm zs)(o:ws.Pairwise (·≤·)):decide (ws=(List.range n).map iN)=decide (gN zs n):=by
 by_cases h:gN zs n
 ·rw [dc h]
  refine dc ?_;exact (p.trans h).eq_of_pairwise (fun a b _ _ h1 h2=>by lia) o (SJ n)
 ·rw [da h]
  refine da fun e=>h ?_;subst e;exact p.symm
def SM:Sp:=fun vs H Q _=>∃(a:Addr) (zs:List Int) (n:Nat),vs=[.ref a,.int (n:Int)]∧H a=some (.lst (zs.map V.int))∧zs.length<64∧n≤1000∧(∀H',ae H H'→Q (.bl (decide (gN zs n))) H')
def SN(N:Addr):Sp:=fun vs H Q E=>∃(a:Addr) (zs:List Int) (n:Nat),vs=[.ref a,.int (n:Int)]∧H a=some (.lst (zs.map V.int))∧zs.length<64∧n≤1000 ∧
 (¬gN zs n→∀H',ae H H'→E (.ref N) none H')∧(gN zs n→∀H',ae H H'→Q .aF H')
def SO(H:Hp)(a:Addr)(n:Nat)(o:List Nat):Prop:=H a=some (.lst (o.map fun k:Nat=>V.int (k:Int)))∧o.Perm (List.range n)
def SQ:Sp:=fun vs H Q _=>∃(a:Addr) (n:Nat) (o:List Nat),vs=[.ref a]∧SO H a n o∧n≤1000 ∧
 ∀(r:Addr) (H':Hp),ae H H'→H r=none→H' r=some (.lst ((List.range n).map fun p=>V.int (o.idxOf p:Int)))→Q (.ref r) H'
variable {H H1:Hp} {D:Addr}
theorem SR(s:ae H H1)(e:H1 D=none):H D=none:=by
 cases z:H D with
 | none=>rfl
 | some o=>rw [s _ _ z] at e;cases e
theorem zP(s:ae H H1){o:HO}(e:H1 D=none):ae H (upd H1 D o):=iE s (SR s e)
variable {k:Nat}
theorem i8(h:k<n):k8 n (k:Int)=some k:=by unfold k8;rw [aq (by lia),aq (by lia),fg]
def ju(o:List Nat)(k p:Nat):Int:=if o.idxOf p<k then (o.idxOf p:Int) else 0
variable {o:List Nat}
theorem i9(h:o.Perm (List.range n)):o.Nodup:=h.nodup_iff.mpr yV
theorem eh(h:o.Perm (List.range n)):o.length=n:=by rw [h.length_eq,dj]
variable {p:Nat}
theorem cB(h:o.Perm (List.range n)):p∈o↔p<n:=by rw [h.mem_iff,gS]
theorem nH(nd:o.Nodup)(hk:k<o.length):o.idxOf o[k]=k:=nd.idxOf_getElem k hk
theorem dE(h:p∈o):∃hk:o.idxOf p<o.length,o[o.idxOf p]=p:=⟨List.idxOf_lt_length_of_mem h,List.getElem_idxOf _⟩
theorem SS(h:o.Perm (List.range n))(hk:k<o.length):((List.range n).map fun p=>V.int (ju o k p)).set o[k] (.int (k:Int))=(List.range n).map fun p=>V.int (ju o (k+1) p):=by
 have nd:=i9 h;refine eX (by simp) fun q h1 h2=>?_
 have hq:q<n:=by simpa using h2
 rw [List.getElem_set];by_cases e:o[k]=q
 ·rw [aq e]
  simp only [fY,gX];unfold ju;rw [←e,nH nd hk,aq (yG k)]
 ·rw [ak e]
  simp only [fY,gX];unfold ju;have ne:o.idxOf q≠k:=fun z=>by obtain ⟨hz,ez⟩:=dE ((cB h).mpr hq);subst z;exact e ez
  by_cases z:o.idxOf q<k;·rw [aq z,aq (by lia)]
  ·rw [ak z,ak (by lia)]
theorem SU(n:Nat)(o:List Nat):(List.replicate n [V.int 0]).flatten=(List.range n).map fun p=>V.int (ju o 0 p):=by
 have e:∀n:Nat,(List.replicate n [V.int 0]).flatten=List.replicate n (V.int 0):=fun n=>by
  induction n with
  | zero=>rfl
  | succ n ih=>rw [si,wJ,ih];rfl
 rw [e];refine eX (by simp) fun q h1 h2=>?_
 simp [ju]
theorem SV(h:o.Perm (List.range n)):(List.range n).map (fun p=>V.int (ju o o.length p))=(List.range n).map fun p=>V.int (o.idxOf p:Int):=by refine jg fun p hp=>?_;unfold ju;rw [aq (List.idxOf_lt_length_of_mem ((cB h).mpr (gS.mp hp)))]
def nJ(n:Nat)(ds:Nat→Addr)(un:Nat→Prop)(H H':Hp):Prop:=∀b o,H b=some o→(∀i,i<n→un i→b≠ds i)→H' b=some o
variable {ds:Nat→Addr}
theorem nJ.refl{un:Nat→Prop}:nJ n ds un H H:=fun _ _ h _=>h
variable {i:Nat}
theorem nJ.put{un:Nat→Prop}(h:nJ n ds un H H1)(hi:i<n)(ui:un i){o:HO}:nJ n ds un H (upd H1 (ds i) o):=fun b u e k=>by rw [aO (k i hi ui)];exact h b u e k
theorem take_snoc{α:Type}{xs:List α}{x:α}(h:xs[i]?=some x):xs.take (i+1)=xs.take i++[x]:=by rw [List.take_succ,h];rfl
def gO(n:Nat)(f:Nat→List Nat)(ps:List Nat)(i j:Nat)(g:Nat→List Nat):Prop:=∀a b:Nat,a<n→(b∈g a↔b∈f a∨(a≠b∧(a∈ps.take i∧b∈ps∨ps[i]?=some a∧b∈ps.take j)))
theorem gO.start(n:Nat)(f:Nat→List Nat)(ps:List Nat):gO n f ps 0 0 f:=fun a b _=>by simp
variable {f g:Nat→List Nat} {ps:List Nat}
theorem gO.row(h:gO n f ps i ps.length g):gO n f ps (i+1) 0 g:=fun a b ha=>by
 rw [h a b ha,kH];cases e:ps[i]? with
 | none=>
  have:ps.length≤i:=BS.mp e;rw [mP this,mP (by lia)]
  simp
 | some x=>
  rw [take_snoc e];simp only [jB,iu,Option.some.injEq,List.take_zero,mL,and_false,or_false];constructor
  ·rintro (z | ⟨z,z1 | z1⟩)
   ·exact .inl z
   ·exact .inr ⟨z,.inl z1.1,z1.2⟩
   ·exact .inr ⟨z,.inr z1.1.symm,z1.2⟩
  ·rintro (z | ⟨z,z1 | z1,z2⟩)
   ·exact .inl z
   ·exact .inr ⟨z,.inl ⟨z1,z2⟩⟩
   ·exact .inr ⟨z,.inr ⟨z1.symm,z2⟩⟩
variable {j:Nat}
theorem gO.same{x:Nat}(h:gO n f ps i j g)(hi:ps[i]?=some x)(hj:ps[j]?=some x):gO n f ps i (j+1) g:=fun a b ha=>by
 rw [h a b ha,take_snoc hj];simp only [jB,iu,hi,Option.some.injEq];constructor
 ·rintro (z | ⟨z,z1 | z1⟩)
  ·exact .inl z
  ·exact .inr ⟨z,.inl z1⟩
  ·exact .inr ⟨z,.inr ⟨z1.1,.inl z1.2⟩⟩
 ·rintro (z | ⟨z,z1 | ⟨z1,z2 | z2⟩⟩)
  ·exact .inl z
  ·exact .inr ⟨z,.inl z1⟩
  ·exact .inr ⟨z,.inr ⟨z1,z2⟩⟩
  ·exact absurd (z1.symm.trans z2.symm) z
theorem gO.put{x y:Nat}(h:gO n f ps i j g)(hi:ps[i]?=some x)(hj:ps[j]?=some y)(ne:x≠y):gO n f ps i (j+1) (fG g x (e9 (g x) y)):=fun a b ha=>by
 have e1:b∈fG g x (e9 (g x) y) a↔b∈g a∨(a=x∧b=y):=by
  unfold fG;by_cases e:a=x
  ·subst e
   rw [aq rfl,zO];simp
  ·rw [ak e]
   simp [e]
 rw [e1,h a b ha,take_snoc hj];simp only [jB,iu,hi,Option.some.injEq];constructor
 ·rintro ((z | ⟨z,z1 | z1⟩) | ⟨rfl,rfl⟩)
  ·exact .inl z
  ·exact .inr ⟨z,.inl z1⟩
  ·exact .inr ⟨z,.inr ⟨z1.1,.inl z1.2⟩⟩
  ·exact .inr ⟨ne,.inr ⟨rfl,.inr rfl⟩⟩
 ·rintro (z | ⟨z,z1 | ⟨z1,z2 | z2⟩⟩)
  ·exact .inl (.inl z)
  ·exact .inl (.inr ⟨z,.inl z1⟩)
  ·exact .inl (.inr ⟨z,.inr ⟨z1,z2⟩⟩)
  ·exact .inr ⟨z1.symm,z2⟩
theorem gO.done(h:gO n f ps ps.length 0 g):∀a b:Nat,a<n→(b∈g a↔b∈f a∨(a≠b∧a∈ps∧b∈ps)):=fun a b ha=>by rw [h a b ha,kH];simp
def SW:Sp:=fun vs H Q _=>∃(D pl:Addr) (n:Nat) (ds:Nat→Addr) (un:Nat→Prop) (f:Nat→List Nat) (ps:List Nat),vs=[.ref D,.ref pl]∧dQ H D n ds un f∧H pl=some (.lst (ps.map fun k:Nat=>V.int (k:Int)))∧(∀p∈ps,p<n∧un p)∧n≤1000 ∧
 ∀(H':Hp) (g:Nat→List Nat),nJ n ds un H H'→dQ H' D n ds un g→(∀a b:Nat,a<n→(b∈g a↔b∈f a∨(a≠b∧a∈ps∧b∈ps)))→Q .aF H'
theorem dQ.mono{H':Hp}{un:Nat→Prop}(h:dQ H D n ds un f)(s:ae H H'):dQ H' D n ds un f:=⟨s _ _ h.lst,h.inj,h.ne,fun i hi ui=>s _ _ (h.at' i hi ui),h.pl⟩
theorem dQ.less{un Jm:Nat→Prop}(h:dQ H D n ds un f)(k:∀i,i<n→Jm i→un i):dQ H D n ds Jm f:=⟨h.lst,h.inj,h.ne,fun i hi ui=>h.at' i hi (k i hi ui),h.pl⟩
variable {x:Addr}
theorem dQ.upd{un:Nat→Prop}(h:dQ H D n ds un f){o:HO}(n1:x≠D)(n2:∀i,i<n→un i→ds i≠x):dQ (upd H x o) D n ds un f:=⟨by rw [aO (Ne.symm n1)];exact h.lst,h.inj,h.ne,fun i hi ui=>by rw [aO (n2 i hi ui)];exact h.at' i hi ui,h.pl⟩
variable {a:Addr}
theorem SX{o:Obj}{ao:List (Key×V)}(h:H1 a=some (.cp o (.dK ao))):nC (tO a o ao) (ao.map fun kv=>kV kv.1) H1 where
 go:=fun i Hc s hi=>⟨s _ _ h,by simpa using hi⟩
 dY:=fun i Hc x H' s y=>⟨y.1,fun _=>by obtain ⟨kv,e,rfl⟩:=y.2;rw [cw,e];rfl⟩
 stop:=fun i Hc s hi=>⟨s _ _ h,by simpa using hi⟩
theorem SY(ks:List Nat):(dk ks).map (fun kv=>kV kv.1)=ks.map fun k:Nat=>V.int (k:Int):=by unfold dk;rw [iR];rfl
theorem S0(ks:List Nat):(List.range ks.length).map (fun i=>ks.getD i 0)=ks:=by
 refine eX (by simp) fun i h1 h2=>?_
 simp [ir,h2]
theorem S1(ks:List Nat)(pr:Nat→Bool):((List.range ks.length).filter fun i=>pr (ks.getD i 0)).map (fun i=>ks.getD i 0)=ks.filter pr:=by have e:=List.filter_map (f:=fun i=>ks.getD i 0) (l:=List.range ks.length) (p:=pr);rw [S0] at e;exact e.symm
variable {ρ:St→St} {tt:TT} {te:TE} {σ:St} {Q:VK} {ks:List Nat}
theorem S2{ob:Obj}(h:H a=some (.cp ob (.dK (dk ks))))(pr:Nat→Bool)(hl:ks.length<sizeLine)
  (test:∀k∈ks,∀(Hc:Hp) (R:Bool→Hp→Prop),ae H Hc→R (pr k) Hc→tt (some (.int (k:Int))::ρ σ) Hc R)
  (step:∀k∈ks,∀(Hc:Hp) (R:VK),R (.int (k:Int)) Hc→te (some (.int (k:Int))::ρ σ) Hc R)
  (fin:∀D Hc,H D=none→ae H Hc→Hc D=some (.lst ((ks.filter pr).map fun k:Nat=>V.int (k:Int)))→Q (.ref D) Hc):jS (fun _ H R=>R (tO a ob (dk ks)) H) ρ tt te σ H Q:=by
 have at':∀{i:Nat} {x:V},(ks.map fun k:Nat=>V.int (k:Int))[i]?=some x→i<ks.length∧x=.int ((ks.getD i 0:Nat):Int)∧ks.getD i 0∈ks:=fun{i x} hx=>by
  have hi:i<ks.length:=by have:=(bV.mp hx).1;simpa using this
  rw [cw] at hx;simp [hi] at hx;rw [getD_at hi];exact ⟨hi,hx.symm,gY hi⟩
 refine I0 (xs:=ks.map fun k:Nat=>V.int (k:Int)) (fun i=>pr (ks.getD i 0)) (fun R k=>k _ (by rw [←SY];exact SX h)) (by rw [bg];exact hl) (fun _ i y _=>y=.int ((ks.getD i 0:Nat):Int)) (fun _ _ _ _ _ _ h _ _=>h) ?_ ?_ ?_
 ·intro i x hx Hc R sc hR
  obtain ⟨_,rfl,m⟩:=at' hx;exact test _ m Hc R sc hR
 ·intro D i x hx Hc R sc _ kc
  obtain ⟨_,rfl,m⟩:=at' hx;exact step _ m Hc R (kc _ Hc (ae.refl _) rfl)
 ·intro D ys Hc nD sc ly hP eD
  refine fin D Hc nD sc ?_;rw [eD,←S1 ks pr,iR];rw [bg] at ly hP
  congr 2
  refine eX (by simpa using ly) fun k h1 h2=>?_
  have h3:k<((List.range ks.length).filter fun i=>pr (ks.getD i 0)).length:=by simpa using h2
  rw [fY];exact hP k _ _ (cN h1) (cN h3)
theorem Jn(p:ws.Perm (ks.map iN)):∃ms:List Nat,ws=ms.map iN∧ms.Perm ks:=by
 refine ⟨ws.map Int.toNat,?_,?_⟩
 ·rw [iR]
  conv=>lhs;rw [←List.map_id ws]
  refine jg fun z hz=>?_
  obtain ⟨k,_,rfl⟩:=jG.mp (p.mem_iff.mp hz)
  show iN k=iN (Int.toNat (iN k))
  unfold iN
  rw [fg]
 ·have:=p.map Int.toNat
  rw [iR] at this
  have e:ks.map (Int.toNat ∘ iN)=ks:=by
   conv=>rhs;rw [←List.map_id ks]
   exact jg fun k _=>fg k
  rw [e] at this
  exact this
structure iG (n:Nat) (o:List Nat) (p:Nat) (ms:List Nat):Prop where
 up:ms.Pairwise (· < ·)
 lt:∀q∈ms,q<n
 la:∀q∈ms,o.idxOf p<o.idxOf q
theorem S3{ms:List Nat}(hk:lD n ks)(h:ms.Perm (ks.filter fun q=>decide (o.idxOf p<o.idxOf q)))(s:(ms.map iN).Pairwise (·≤·)):iG n o p ms:=by
 have m:∀q∈ms,q∈ks∧o.idxOf p<o.idxOf q:=fun q hq=>by have:=r9.mp (h.mem_iff.mp hq);exact ⟨this.1,by simpa using this.2⟩
 refine ⟨?_,fun q hq=>hk.2 q (m q hq).1,fun q hq=>(m q hq).2⟩;have nd:ms.Nodup:=h.nodup_iff.mpr (hk.1.filter _);rw [List.pairwise_map] at s;refine List.Pairwise.imp₂ (fun a b h1 h2=>?_) s nd;have h1:(a:Int)≤(b:Int):=h1;have h2:a≠b:=h2;lia
def tP(H:Hp)(D:Addr)(n:Nat)(rs:Nat→Addr)(g:Nat→List Nat):Prop:=H D=some (.lst ((List.range n).map fun p=>V.ref (rs p)))∧∀p,p<n→H (rs p)=some (.lst ((g p).map fun k:Nat=>V.int (k:Int)))
theorem S7(h:gN zs n):∃o:List Nat,zs=o.map iN∧o.Perm (List.range n):=Jn h
def jv(rs:Nat→Addr)(p:Nat)(x:Addr):Nat→Addr:=fun q=>if q=p then x else rs q
theorem S9(n:Nat)(rs:Nat→Addr)(p:Nat)(x:Addr):((List.range n).map fun q=>V.ref (rs q)).set p (.ref x)=(List.range n).map fun q=>V.ref (jv rs p x q):=by
 refine eX (by simp) fun q h1 h2=>?_
 rw [List.getElem_set,fY,gX,fY,gX];unfold jv;by_cases e:p=q
 ·subst e
  rw [aq rfl,aq rfl]
 ·rw [ak e,ak (Ne.symm e)]
variable {rs:Nat→Addr}
theorem Jo:jv rs p x p=x:=aq rfl
variable {q:Nat}
theorem S_(h:q≠p):jv rs p x q=rs q:=ak h
theorem Ta{x:List Nat}:fG f p x p=x:=aq rfl
theorem Tb{x:List Nat}(h:q≠p):fG f p x q=f q:=ak h
theorem ck{g:Nat→V}(h:p<n):gI ((List.range n).map g) (p:Int)=some (g p):=jQ (by rw [cw,je h];rfl)
theorem Tc(o ks:List Nat)(p:Nat):(ks.filter fun q=>decide ((o.idxOf p:Int)<(o.idxOf q:Int)))=ks.filter fun q=>decide (o.idxOf p<o.idxOf q):=by refine List.filter_congr fun q _=>?_;rw [oE,wQ,wQ];lia
theorem pS(h:o.Perm (List.range n))(hp:p<n)(hq:q<n)(ne:p≠q):o.idxOf p≠o.idxOf q:=fun z=>by
 obtain ⟨h1,e1⟩:=dE ((cB h).mpr hp);obtain ⟨h2,e2⟩:=dE ((cB h).mpr hq);refine ne ?_;rw [←e1,←e2]
 congr 1
theorem Te{wi:TI}(h:wi σ H fun J H1=>jS (fun _ H R=>R J H) ρ tt te σ H1 Q):jS wi ρ tt te σ H Q:=h
end My
namespace L2
open PySem PySem.Spec PyProof.Rows
section
variable {X:Cx} {pins:aU} {σ:St} {H:Hp} {s:Shared}
end
end L2
namespace My
open PySem L2
theorem Tf{n:Nat}{o:List Nat}(h:o.Perm (List.range n)){p:Nat}{ms:List Nat}(k:iG n o p ms):ms.length≤n-1-o.idxOf p:=by
 have nd:(ms.map fun q=>o.idxOf q-(o.idxOf p+1)).Nodup:=by rw [List.nodup_iff_pairwise_ne,List.pairwise_map];refine List.Pairwise.imp_of_mem (fun{a b} ha hb lt=>?_) k.up;have h1:=k.la a ha;have h2:=k.la b hb;have ne:=pS h (k.lt a ha) (k.lt b hb) (cV lt);lia
 have:=Dv (n:=n-1-o.idxOf p) nd (fun x hx=>by obtain ⟨q,hq,rfl⟩:=jG.mp hx;have h1:=k.la q hq;have h2:=(dE ((cB h).mpr (k.lt q hq))).1;rw [eh h] at h2;lia)
 rwa [bg] at this
end My
namespace L2
open PySem PySem.Spec PyProof.Rows
theorem Tg{X:Cx}{E:XK}(L:ph X E):PassesOwn (model X.prog X.w) X.A X.env X.xe:=by rw [L.xe];exact PassesOwn.leaving
end L2
namespace My
open PySem L2
def Th:Sp:=fun vs H Q _=>∃m:Nat,vs=[.int (m:Int)]∧m≤1000∧Q (.int ((m:Int)*m+3*m+1)) H
end My
namespace L2
open PySem PySem.Spec PyProof.Rows
end L2
namespace My
open PySem L2
end My
namespace L2
open PySem PySem.Spec PyProof.Rows
end L2
namespace My
open PySem L2
end My
namespace L2
open PySem PySem.Spec PyProof.Rows
end L2
namespace My
open PySem L2
theorem aep(xs:List V)(k:Nat)(h:k≤xs.length):cT xs none (some (k:Int))=xs.take k:=by
 unfold cT HT.d_;simp only;rw [ak (by lia),fg,wR h,Nat.sub_zero]
 rfl
theorem Ti(xs:List V)(k:Nat)(h:k≤xs.length):cT xs (some (k:Int)) none=xs.drop k:=by
 unfold cT HT.d_;simp only;rw [ak (by lia),fg,wR h]
 exact mP (by rw [oF];exact aN _)
variable {n:Nat} {cU:Nat→Nat→Prop} {dR:Nat→Prop} {s:Nat}
end My
namespace L2
open PySem PySem.Spec PyProof.Rows
end L2
namespace My
open PySem L2
end My
namespace L2
open PySem PySem.Spec PyProof.Rows
end L2
namespace My
open PySem L2
end My
namespace L2
open PySem PySem.Spec PyProof.Rows My
end L2
namespace My
open PySem L2
theorem Jp(zs:List Int)(k:Nat):cT (zs.map V.int) none (some (k:Int))=(zs.take k).map V.int:=by rw [C9,List.map_take]
theorem Jq(zs:List Int)(k:Nat)(h:k≤zs.length):cT (zs.map V.int) (some (k:Int)) none=(zs.drop k).map V.int:=by rw [Ti _ _ (by rw [bg];exact h),List.map_drop]
end My
namespace L2
open PySem PySem.Spec PyProof.Rows My
end L2
namespace My
open PySem L2
inductive Wk (cU:Nat→Nat→Prop) (dR:Nat→Prop) (s:Nat):Nat→Prop where
 | one {b:Nat}:cU s b→Wk cU dR s b
 | more {a b:Nat}:Wk cU dR s a→dR a→cU a b→Wk cU dR s b
section
variable {cU:Nat→Nat→Prop} {dR tQ:Nat→Prop} {s t:Nat}
theorem Wk.mono(h:Wk cU dR s t)(k:∀x,dR x→tQ x):Wk cU tQ s t:=by
 induction h with
 | one ab=>exact .one ab
 | more _ o ab ih=>exact .more ih (k _ o) ab
theorem Wk.cons{a:Nat}(ab:cU s a)(ta:dR a)(h:Wk cU dR a t):Wk cU dR s t:=by
 induction h with
 | one e=>exact .more (.one ab) ta e
 | more _ o e ih=>exact .more ih o e
theorem Wk.symm(sy:∀a b,cU a b→cU b a)(h:Wk cU dR s t):Wk cU dR t s:=by
 induction h with
 | one ab=>exact .one (sy _ _ ab)
 | more _ o ab ih=>exact ih.cons (sy _ _ ab) o
variable {p:Nat}
theorem Wk.trans(h:Wk cU dR s p)(tp:dR p)(h':Wk cU dR p t):Wk cU dR s t:=by
 induction h' with
 | one ab=>exact .more h tp ab
 | more _ o ab ih=>exact .more ih o ab
theorem Wk.step(k:∀x,tQ x↔dR x∨x=p):Wk cU tQ s t↔Wk cU dR s t∨(Wk cU dR s p∧Wk cU dR p t):=by
 constructor
 ·intro h
  induction h with
  | one ab=>exact .inl (.one ab)
  | more _ o ab ih=>
   rcases (k _).mp o with o | rfl
   ·rcases ih with ih | ⟨i1,i2⟩
    ·exact .inl (.more ih o ab)
    ·exact .inr ⟨i1,.more i2 o ab⟩
   ·rcases ih with ih | ⟨i1,_⟩
    ·exact .inr ⟨ih,.one ab⟩
    ·exact .inr ⟨i1,.one ab⟩
 ·have m:∀x,dR x→tQ x:=fun x h=>(k x).mpr (.inl h)
  rintro (h | ⟨h,h'⟩);·exact h.mono m
  ·exact (h.mono m).trans ((k p).mpr (.inr rfl)) (h'.mono m)
end
def aL(n:Nat)(L:cx)(a b:Nat):Prop:=a<n∧b<n∧(((a:Int),(b:Int))∈L∨((b:Int),(a:Int))∈L)
variable {n:Nat} {L:cx}
theorem zQ(a b:Nat)(h:aL n L a b):aL n L b a:=⟨h.2.1,h.1,h.2.2.symm⟩
def Dx(L:cx):Prop:=∀p∈L,p.1≠p.2
def pU(n:Nat)(o:List Nat)(k x:Nat):Prop:=x<n∧o.idxOf x<k
def pV(n:Nat)(L:cx)(o:List Nat)(k:Nat)(f:Nat→List Nat):Prop:=∀a b:Nat,a<n→b<n→k≤o.idxOf a→k≤o.idxOf b→(b∈f a↔a≠b∧Wk (aL n L) (pU n o k) a b)
variable {o:List Nat} {f:Nat→List Nat}
theorem pV.start(nb:mf n L f)(ns:Dx L):pV n L o 0 f:=fun a b ha hb _ _=>by
 rw [nb a b ha];constructor
 ·intro h
  refine ⟨fun e=>?_,.one ⟨ha,hb,h⟩⟩;subst e;rcases h with h | h <;> exact ns _ h rfl
 ·rintro ⟨_,h⟩
  cases h with
  | one ab=>exact ab.2.2
  | more _ o _=>exact absurd o.2 (mJ _)
variable {k:Nat} {ms:List Nat}
theorem pV.step(ho:o.Perm (List.range n)){p:Nat}{g:Nat→List Nat}(h:pV n L o k f)(hp:p<n)(ip:o.idxOf p=k)(hm:∀q,q∈ms↔q∈f p∧k<o.idxOf q)(ml:∀q∈ms,q<n)
  (con:∀a b:Nat,a<n→(b∈g a↔b∈f a∨(a≠b∧a∈ms∧b∈ms))):pV n L o (k+1) g:=fun a b ha hb ka kb=>by
 have th:∀x,pU n o (k+1) x↔pU n o k x∨x=p:=fun x=>by
  unfold pU;constructor
  ·rintro ⟨h1,h2⟩
   by_cases e:o.idxOf x=k
   ·right
    by_cases z:x=p;·exact z
    ·exact absurd (e.trans ip.symm) (pS ho h1 hp z)
   ·exact .inl ⟨h1,by lia⟩
  ·rintro (⟨h1,h2⟩ | rfl)
   ·exact ⟨h1,by lia⟩
   ·exact ⟨hp,by lia⟩
 have ap:a≠p:=fun e=>by subst e;lia
 have bp:b≠p:=fun e=>by subst e;lia
 have ea:=h p a hp ha (by lia) (by lia)
 have eb:=h p b hp hb (by lia) (by lia)
 rw [con a b ha,h a b ha hb (by lia) (by lia),hm a,hm b,ea,eb,Wk.step th]
 constructor
 ·rintro (⟨h1,h2⟩ | ⟨h1,⟨⟨_,h2⟩,_⟩,⟨_,h3⟩,_⟩)
  ·exact ⟨h1,.inl h2⟩
  ·exact ⟨h1,.inr ⟨h2.symm zQ,h3⟩⟩
 ·rintro ⟨h1,h2 | ⟨h2,h3⟩⟩
  ·exact .inl ⟨h1,h2⟩
  ·exact .inr ⟨h1,⟨⟨Ne.symm ap,h2.symm zQ⟩,by lia⟩,⟨Ne.symm bp,h3⟩,by lia⟩
def hV(n:Nat)(L:cx)(o:List Nat)(p:Nat)(ms:List Nat):Prop:=∀q,q∈ms↔q<n∧o.idxOf p<o.idxOf q∧Wk (aL n L) (pU n o (o.idxOf p)) p q
def Tj(N:Addr):Sp:=fun vs H Q E=>∃(t a:Addr) (n:Nat) (L:cx) (zs:List Int),vs=[.ref t,.ref a]∧Dn H t n L∧Dw n L∧Dx L∧n≤60∧H a=some (.lst (zs.map V.int))∧zs.length<64 ∧
 (¬gN zs n→∀H',ae H H'→E (.ref N) none H') ∧
 ∀o:List Nat,zs=o.map iN→o.Perm (List.range n)→∀(H':Hp) (D:Addr) (rs:Nat→Addr) (g:Nat→List Nat),ae H H'→H D=none→(∀p,p<n→H (rs p)=none)→tP H' D n rs g→(∀p,p<n→iG n o p (g p)∧hV n L o p (g p))→Q (.ref D) H'
def hX(M:aS):List Nat→Nat→Nat→Int
 | []=>fun _ _=>0
 | p::C=>aP (M p) (hX M C)
def aM(M:aS)(C:List Nat):Int:=aE C (hX M C)
def aJ(M:aS)(C:List Nat)(f:Nat→Int):Nat→Int:=lB C (hX M C) f
def de(q:Int)(M:aS):List Nat→Prop
 | []=>True
 | p::C=>de q M C∧¬q∣aJ M C (M p) p
section
variable {q:Int} {M:aS} {C:List Nat} {p k:Nat} {f:Nat→Int}
theorem Dy:aJ M [] f k=f k:=RY _ f k
theorem mh(hq:bC q):∀{C:List Nat},de q M C→¬q∣aM M C
 | [],_=>zN hq
 | _::_,h=>h.2
theorem zR{x:Int}(h:¬q∣x):x≠0:=fun e=>h (by rw [e];exact oP q)
theorem Jr(hq:bC q):∀{C:List Nat},de q M C→tN C (hX M C)
 | [],_=>RV _
 | _::_,h=>RW (Jr hq h.1) (zR (mh hq h.1)) (zR h.2)
theorem zS(hq:bC q)(h:de q M C)(p:Nat)(f:Nat→Int)(k:Nat):aJ M C (M p) p*aJ M C f k-aJ M C f p*aJ M C (M p) k=aM M C*aJ M (p::C) f k:=R0 (Jr hq h) f (M p) p k
variable {c:Nat}
theorem zT(h:c∈C):aJ M C f c=0:=RZ _ f h
theorem zU(hq:bC q):∀{C:List Nat},de q M C→∀r∈C,∀k,aJ M C (M r) k=0
 | [],_,_,hr,_=>nomatch hr
 | p::C,h,r,hr,k=>by
  have d0:=zR (mh hq h.1);have e:=zS hq h.1 p (M r) k;have z:aM M C*aJ M (p::C) (M r) k=0:=by
   rcases cM.mp hr with rfl | hr;·rw [←e];exact mQ _
   ·rw [←e,zU hq h.1 r hr k,zU hq h.1 r hr p,iw,eW,mQ]
  exact (oK.mp z).resolve_left d0
theorem Js:∀(C:List Nat) (i:Nat),i<C.length→hX M C i=M (C.getD i 0)
 | _::_,0,_=>rfl
 | _::C,i+1,h=>Js C i (Nat.lt_of_succ_lt_succ h)
theorem Tn(M:aS)(C:List Nat)(f:Nat→Int):∃y:Nat→Int,∀k,aJ M C f k=aM M C*f k+a9 C.length fun i=>M (C.getD i 0) k*y i:=⟨fun i=>-(sgn i)*aE C (aP f (bI i (hX M C))),fun k=>by
 unfold aJ lB;rw [i7 k C f (hX M C)]
 congr 1
 exact gj fun i hi=>by rw [Js C i hi]⟩
theorem Jt:∀{C:List Nat} {R:aS} {e e':Nat→Int},(∀c∈C,e c=e' c)→aE C (aP e R)=aE C (aP e' R)
 | [],_,_,_,_=>rfl
 | k::C,R,e,e',h=>by
  rw [i7,i7,h k (kA ..)]
  congr 1
  exact gj fun i hi=>by rw [Jt (C:=C) fun c hc=>h c (gT _ hc)]
theorem Dz:∀{C:List Nat},C≠[]→∀{R:aS} (a b:Int) (e e':Nat→Int),aE C (aP (fun k=>a*e k+b*e' k) R)=a*aE C (aP e R)+b*aE C (aP e' R)
 | [],h,_,_,_,_,_=>absurd rfl h
 | k::C,_,R,a,b,e,e'=>by
  rw [i7,i7,i7];by_cases z:C=[]
  ·subst z
   show _+0=a*(_+0)+b*(_+0);grind
  ·have s:(a9 C.length fun i=>R i k*(-(sgn i)*aE C (aP (fun k=>a*e k+b*e' k) (bI i R))))=a*(a9 C.length fun i=>R i k*(-(sgn i)*aE C (aP e (bI i R))))+b*a9 C.length fun i=>R i k*(-(sgn i)*aE C (aP e' (bI i R))):=by rw [jr,jr,←pO];exact gj fun i _=>by rw [Dz z a b e e'];grind
   rw [s];grind
def dl(c:Nat):Nat→Int:=fun k=>if k=c then 1 else 0
theorem Ju{C:List Nat}(hC:C≠[]){R:aS}{f:Nat→Int}:∀{l:List Nat},l.Nodup→aE C (aP (fun k=>if k∈l then f k else 0) R)=(l.map fun c=>f c*aE C (aP (dl c) R)).sum
 | [],_=>by
  have:=Dz hC (R:=R) 0 0 (fun _=>0) (fun _=>0);rw [show (fun k=>if k∈([]:List Nat) then f k else 0)=fun k=>0*(fun _:Nat=>(0:Int)) k+0*(fun _:Nat=>(0:Int)) k from funext fun k=>by simp,this]
  simp
 | c::l,nd=>by
  rw [jC] at nd;rw [cQ,du,←Ju hC nd.2];have:=Dz hC (R:=R) (f c) 1 (dl c) (fun k=>if k∈l then f k else 0)
  rw [oM] at this;rw [←this]
  congr 1
  congr 1
  funext k
  unfold dl;by_cases e:k=c
  ·subst e
   simp [nd.1]
  ·by_cases h:k∈l <;> simp [e,h]
def eA(M:aS)(C:List Nat)(n c:Nat):Int:=-aE (n::C) (aP (dl c) (hX M C))
theorem To(nd:C.Nodup)(hn:n∉C):aJ M C f n=aM M C*f n-(C.map fun c=>f c*eA M C n c).sum:=by
 have hC:n::C≠[]:=List.cons_ne_nil _ _;have e1:aJ M C f n=((n::C).map fun c=>f c*aE (n::C) (aP (dl c) (hX M C))).sum:=by rw [←Ju hC (jC.mpr ⟨hn,nd⟩)];unfold aJ lB;exact Jt fun c hc=>by rw [aq hc]
 have e2:aE (n::C) (aP (dl n) (hX M C))=aM M C:=by
  rw [i7];have:(a9 C.length fun i=>hX M C i n*(-(sgn i)*aE C (aP (dl n) (bI i (hX M C)))))=0:=by rw [←xA C.length];refine gj fun i hi=>?_;rw [IV (e:=dl n) _ (fun z=>by rw [z] at hi;exact absurd hi (mJ _)) fun x hx=>ak (fun z:x=n=>hn (z▸hx)),iw,iw]
  rw [this];unfold dl aM;simp
 rw [e1,cQ,du,e2];have e3:((C.map fun c=>f c*aE (n::C) (aP (dl c) (hX M C))).sum)=-(C.map fun c=>f c*eA M C n c).sum:=by
  have gen:∀(w:Nat→Int) (l:List Nat),(l.map fun c=>f c*w c).sum=-(l.map fun c=>f c * -w c).sum:=fun w l=>by
   induction l with
   | nil=>rfl
   | cons x l ih=>rw [cQ,du,cQ,du,ih];grind
  exact gen (fun c=>aE (n::C) (aP (dl c) (hX M C))) C
 rw [e3,dM];lia
theorem Jv(hq:bC q)(g:de q M C)(nd:C.Nodup)(hn:n∉C){r:Nat}(hr:r∈C):(C.map fun c=>M r c*eA M C n c).sum=aM M C*M r n:=by have:=To (M:=M) (f:=M r) nd hn;rw [zU hq g r hr n] at this;lia
theorem zV(a:Int)(F:Nat→Int):∀l:List Nat,(l.map fun c=>a*F c).sum=a*(l.map F).sum
 | []=>(iw a).symm
 | x::l=>by rw [cQ,du,cQ,du,zV a F l,Int.mul_add]
theorem Jw(F G:Nat→Int):∀l:List Nat,(l.map fun c=>F c+G c).sum=(l.map F).sum+(l.map G).sum
 | []=>rfl
 | x::l=>by rw [cQ,du,cQ,du,cQ,du,Jw F G l];lia
theorem Jx(F:aS):∀(m:Nat) (l:List Nat),(l.map fun c=>a9 m fun i=>F i c).sum=a9 m fun i=>(l.map (F i)).sum
 | m,[]=>(xA m).symm
 | m,x::l=>by rw [cQ,du,Jx F m l,←pO];exact gj fun i _=>by rw [cQ,du]
theorem Jy(hq:bC q)(g:de q M C)(nd:C.Nodup)(hn:n∉C){C':List Nat}(sub:∀r∈C',r∈C)(hp:p∈C):(C.map fun c=>aJ M C' (M p) c*eA M C n c).sum=aM M C*aJ M C' (M p) n:=by
 obtain ⟨y,hy⟩:=Tn M C' (M p);have e:(fun c=>aJ M C' (M p) c*eA M C n c)=fun c=>aM M C'*(M p c*eA M C n c)+a9 C'.length fun i=>y i*(M (C'.getD i 0) c*eA M C n c):=by
  funext c
  rw [hy c,Int.add_mul,mK,dM (a9 _ _),jr]
  congr 1
  exact gj fun i _=>by grind
 rw [e,Jw,zV,Jv hq g nd hn hp,Jx];have e2:(a9 C'.length fun i=>(C.map fun c=>y i*(M (C'.getD i 0) c*eA M C n c)).sum)=aM M C*a9 C'.length fun i=>M (C'.getD i 0) n*y i:=by
  rw [jr];refine gj fun i hi=>?_;have mem:C'.getD i 0∈C':=by rw [ir,cN hi];exact gY hi
  rw [zV,Jv hq g nd hn (sub _ mem)];grind
 rw [e2,hy n];grind
theorem nK(hq:bC q){n:Nat}{cU:Nat→Nat→Prop}(zero:∀a b,a<n→b<n→a≠b→¬cU a b→M a b=0):∀{C:List Nat},de q M C→(∀c∈C,c<n)→∀i j,i<n→j<n→i∉C→j∉C→i≠j→¬Wk cU (·∈C) i j→aJ M C (M i) j=0
 | [],_,_,i,j,li,lj,_,_,ij,nw=>by rw [Dy];exact zero i j li lj ij fun z=>nw (.one z)
 | p::C,g,lc,i,j,li,lj,hi,hj,ij,nw=>by
  rw [cM,not_or] at hi hj;have lp:=lc p (kA ..);have DA:∀c∈C,c<n:=fun c hc=>lc c (gT _ hc);have st:=Wk.step (cU:=cU) (dR:=(·∈C)) (tQ:=(·∈p::C)) (s:=i) (t:=j) (p:=p) fun x=>by rw [cM];exact Or.comm
  rw [st,not_or] at nw;have e:=zS hq g.1 p (M i) j;rw [nK hq zero g.1 DA i j li lj hi.2 hj.2 ij nw.1,iw] at e;have z:aJ M C (M i) p*aJ M C (M p) j=0:=by
   by_cases pC:p∈C;·rw [zT pC,eW]
   ·by_cases w:Wk cU (·∈C) i p
    ·rw [nK hq zero g.1 DA p j lp lj pC hj.2 (Ne.symm hj.1) fun z=>nw.2 ⟨w,z⟩,iw]
    ·rw [nK hq zero g.1 DA i p li lp hi.2 pC hi.1 w,eW]
  rw [z] at e;exact (oK.mp (show aM M C*aJ M (p::C) (M i) j=0 by lia)).resolve_left (zR (mh hq g.1))
theorem zW{B:Nat}(hB:∀i k,(M i k).natAbs≤B):∀(C:List Nat) (i k:Nat),(hX M C i k).natAbs≤B
 | [],_,_=>b_ _
 | p::_,0,k=>hB p k
 | _::C,i+1,k=>zW hB C i k
theorem Jz{B:Nat}{R:aS}(hf:∀k,(f k).natAbs≤B)(hR:∀i k,(R i k).natAbs≤B):∀i k,(aP f R i k).natAbs≤B
 | 0,k=>hf k
 | i+1,k=>hR i k
variable {B:Nat}
theorem Tq(hB:∀i k,(M i k).natAbs≤B)(hf:∀k,(f k).natAbs≤B):(aJ M C f k).natAbs≤gM (C.length+1)*B ^ (C.length+1):=zM (k::C) _ (Jz hf (zW hB C))
theorem Tr(hB:∀i k,(M i k).natAbs≤B):(aM M C).natAbs≤gM C.length*B ^ C.length:=zM C _ (zW hB C)
theorem Ts(b1:1≤B)(hB:∀i k,(M i k).natAbs≤B):(eA M C n c).natAbs≤gM (C.length+1)*B ^ (C.length+1):=by unfold eA;rw [sj];exact zM (n::C) _ (Jz (fun k=>by unfold dl;split;exact b1;exact b_ _) (zW hB C))
end
def aQ(B:Nat)(H:Hp)(q:Int)(v:V)(T U:Int):Prop:=∃x m:Int,bh B H q v x m∧q∣x*U-T*m∧¬q∣U
section
variable {B Y:Nat} {H H':Hp} {q:Int} {v u:V} {T U T' U':Int}
theorem aQ.mono(h:aQ B H q v T U)(s:ae H H'):aQ B H' q v T U:=let ⟨x,m,h1,h2⟩:=h;⟨x,m,h1.mono s,h2⟩
theorem aQ.eq(hq:bC q)(h:aQ B H q v T U)(e:Cg q (T*U') (T'*U))(nu:¬q∣U'):aQ B H q v T' U':=by
 obtain ⟨x,m,h1,h2,h3⟩:=h;refine ⟨x,m,h1,?_,nu⟩;have c:Cg q (U*(x*U'-T'*m)) 0:=by
  have a:Cg q (U'*(x*U)) (U'*(T*m)):=Cg.mulL U' h2;have b:Cg q (m*(T*U')) (m*(T'*U)):=Cg.mulL m e;have d:=a.trans ((Cg.of_eq (by grind)).trans b)
  have d2:=d.sub (Cg.refl (m*(T'*U)));exact (Cg.of_eq (by grind)).trans (d2.trans (Cg.of_eq (by lia)))
 have:=Dl hq h3 c;unfold Cg at this
 rwa [mO] at this
theorem aQ.bd(h:aQ B H q v T U)(bt:T.natAbs≤Y)(bu:U.natAbs≤Y):aQ Y H q v T U:=by
 obtain ⟨x,m,h1,h2,h3⟩:=h;cases h1 with
 | rem a b c=>exact ⟨_,_,.rem a b c,h2,h3⟩
 | b6 e l bx bm=>
  have h2:=jf.mp h2;have U0:U≠0:=fun z=>h3 (by rw [z];exact iQ 0)
  have le:m≤(U.natAbs:Int)∧x.natAbs≤T.natAbs:=by
   by_cases up:0<U
   ·have:=zD l up (show x*U=T*m by lia)
    exact ⟨by lia,this.2⟩
   ·have:=zD l (show 0 < -U by lia) (show x * -U=-T*m by rw [mM,Int.neg_mul];lia)
    rw [sj] at this;exact ⟨by lia,this.2⟩
  have mp:=l.pos;exact ⟨x,m,.b6 e l (by lia) (by lia),by rw [h2];exact iQ 0,h3⟩
theorem zX(hq:bC q)(h:aQ B H q v T U):q∣T↔∃x m,bh B H q v x m∧x=0:=by
 obtain ⟨x,m,h1,h2,h3⟩:=h;constructor
 ·intro d
  refine ⟨x,m,h1,?_⟩;have c:Cg q (U*x) 0:=by
   have:q∣x*U:=by
    have:=Int.dvd_add h2 (B1 (c:=m) d)
    rwa [Int.sub_add_cancel] at this
   unfold Cg;rw [mO,dM];exact this
  have:=Dl hq h3 c;unfold Cg at this;rw [mO] at this;cases h1 with
  | b6=>exact jf.mp this
  | rem a b c=>
   obtain ⟨k,hk⟩:=this;have:k=0:=by
    rcases Int.lt_trichotomy k 0 with z | z | z
    ·have:q*k≤q*(-1):=yQ (by lia) (by lia)
     lia
    ·exact z
    ·have:q*1≤q*k:=yQ (by lia) (by lia)
     lia
   rw [hk,this,iw]
 ·rintro ⟨x',m',tH,rfl⟩
  have e:x=0:=by
   cases h1 with
   | b6 e l=>
    cases tH with
    | b6 e' l'=>rw [e] at e';cases e';rfl
   | rem=>cases tH;rfl
  subst e;have:q∣T*m:=by have:=h2;rw [eW,Int.zero_sub] at this;exact Int.dvd_neg.mp this
  cases h1 with
  | b6 e l=>
   have:=jf.mp this;have mp:=l.pos;have:T=0:=(oK.mp this).resolve_right (by lia)
   rw [this];exact iQ 0
  | rem=>rwa [gu] at this
end
section
variable {H:Hp} {q:Int} {v u:V} {T U T' U':Int} {C N z:Addr} {Q:VK} {E:XK}
theorem zY{B:Nat}{x m:Int}(h:bh B H q v x m)(b:B≤10 ^ 300):bQ x∧bQ m∧1≤m:=by
 cases h with
 | b6 e l bx bm=>exact ⟨a8 bx b,a8 bm b,l.pos⟩
 | rem h0 h1 h2=>exact ⟨a8 (show _≤997 by lia) (by decide +kernel),by unfold bQ;decide +kernel,by decide⟩
variable {X Y Y':Nat}
theorem JA{fr:Int→Int→Int→Int→Int}{rm:Int→Int→Int}(hw:dy C H z q)(hq:bC q)(hv:aQ X H q v T U)(hu:aQ Y H q u T' U')(bX:X≤10 ^ 300)(bY:Y≤10 ^ 300)(top bot:Int)
  (hf:∀x m y n,q∣x*U-T*m→q∣y*U'-T'*n→q∣fr x m y n*bot-top*(m*n)) (hr:∀x y,fr x 1 y 1=rm x y) (nb:¬q∣bot) (bt:top.natAbs≤Y') (bb:bot.natAbs≤Y')
  (k:∀(v':V) (H':Hp),ae H H'→aQ Y' H' q v' top bot→Q v' H'):jX C fr rm [.ref z,v,u] H Q E:=by
 obtain ⟨x,m,h1,h2,h3⟩:=hv
 obtain ⟨y,n,g1,g2,g3⟩:=hu
 obtain ⟨a1,a2,a3⟩:=zY h1 bX
 obtain ⟨b1,b2,b3⟩:=zY g1 bY
 have key:=hf x m y n h2 g2
 refine ⟨z,q,v,u,rfl,hw,?_⟩
 cases h1 with
 | b6 e l bx bm=>
  cases g1 with
  | b6 e' l' DB m_=>
   refine .inl ⟨rfl,_,_,x,m,y,n,rfl,rfl,e,e',l,l',a1,a2,b1,b2,fun r' H' a d s' er la ea=>k _ H' s' ?_⟩
   have key:=jf.mp key
   have mn:m*n≠0:=Int.ne_of_gt (Int.mul_pos (by lia) (by lia))
   have ew:a*bot=top*d:=by
    refine Int.eq_of_mul_eq_mul_right mn ?_
    have:fr x m y n*bot=top*(m*n):=by omega
    calc a*bot*(m*n)=a*(m*n)*bot:=by grind
     _=fr x m y n*d*bot:=by rw [ea]
     _=fr x m y n*bot*d:=by grind
     _=top*(m*n)*d:=by rw [this]
     _=top*d*(m*n):=by grind
   have W:aQ (a.natAbs+d.natAbs) H' 0 (.ref r') top bot:=⟨a,d,.b6 er la (by lia) (by lia),by rw [ew,mQ];exact iQ 0,nb⟩
   exact W.bd bt bb
  | rem h0 h1 h2=>lia
 | rem h0 tH pJ=>
  cases g1 with
  | b6 e' l' DB m_=>lia
  | rem g0 g1 Tu=>
   have pI:2≤q:=by rcases hq with h | h <;> lia
   refine .inr ⟨pI,x,y,rfl,rfl,h0,by lia,k _ H (ae.refl _) ⟨_,1,.rem (gw _ (by lia)) (gW _ (by lia)) pJ,?_,nb⟩⟩
   rw [gu,gu] at key
   rw [hr] at key
   rw [gu]
   have c:Cg q (rm x y % q*bot) (rm x y*bot):=(Dj q _).mulR bot
   exact c.trans key
theorem DC(hw:dy C H z q)(hq:bC q)(hv:aQ X H q v T U)(hu:aQ Y H q u T' U')(bX:X≤10 ^ 300)(bY:Y≤10 ^ 300)(nb:¬q∣U*U')(bt:(T*U'-T'*U).natAbs≤Y')(bb:(U*U').natAbs≤Y')
  (k:∀(v':V) (H':Hp),ae H H'→aQ Y' H' q v' (T*U'-T'*U) (U*U')→Q v' H'):jX C (fun x m y n=>x*n-y*m) (fun i j=>i-j) [.ref z,v,u] H Q E:=
 JA hw hq hv hu bX bY _ _ (fun x m y n h1 h2=>by obtain ⟨a,ha⟩:=h1;obtain ⟨b,hb⟩:=h2;exact ⟨n*U'*a-m*U*b,by grind⟩) (fun x y=>by rw [gu,gu]) nb bt bb k
theorem DD(hw:dy C H z q)(hq:bC q)(hv:aQ X H q v T U)(hu:aQ Y H q u T' U')(bX:X≤10 ^ 300)(bY:Y≤10 ^ 300)(nb:¬q∣U*U')(bt:(T*T').natAbs≤Y')(bb:(U*U').natAbs≤Y')
  (k:∀(v':V) (H':Hp),ae H H'→aQ Y' H' q v' (T*T') (U*U')→Q v' H'):jX C (fun x m y n=>x*y) (fun i j=>i*j) [.ref z,v,u] H Q E:=
 JA hw hq hv hu bX bY _ _ (fun x m y n h1 h2=>by obtain ⟨a,ha⟩:=h1;obtain ⟨b,hb⟩:=h2;exact ⟨y*U'*a+T*m*b,by grind⟩) (fun x y=>rfl) nb bt bb k
theorem e_(hq:bC q){a b:Int}(ha:¬q∣a)(hb:¬q∣b):¬q∣a*b:=fun d=>hb (by
 have:=Dl hq ha (show Cg q (a*b) 0 by unfold Cg;rwa [mO])
 unfold Cg at this
 rwa [mO] at this)
theorem JB(hw:dy C H z q)(hq:bC q)(hv:aQ X H q v T U)(hu:aQ Y H q u T' U')(bX:X≤10 ^ 300)(bY:Y≤10 ^ 300)(nt:¬q∣T')(bt:(T*U').natAbs≤Y')(bb:(U*T').natAbs≤Y')
  (k:∀(v':V) (H':Hp),ae H H'→aQ Y' H' q v' (T*U') (U*T')→Q v' H'):zE C N [.ref z,v,u] H Q E:=by
 have ny:∀{y n},bh Y H q u y n→q∣y*U'-T'*n→¬q∣U'→y≠0:=fun{y n} g1 g2 g3 e=>nt ((zX hq ⟨y,n,g1,g2,g3⟩).mpr ⟨y,n,g1,e⟩)
 obtain ⟨x,m,h1,h2,h3⟩:=hv
 obtain ⟨y,n,g1,g2,g3⟩:=hu
 have y0:=ny g1 g2 g3
 obtain ⟨a1,a2,a3⟩:=zY h1 bX
 obtain ⟨b1,b2,b3⟩:=zY g1 bY
 have nb:=e_ hq h3 nt
 refine ⟨z,q,v,u,rfl,hw,?_⟩
 cases h1 with
 | b6 e l bx bm=>
  cases g1 with
  | b6 e' l' DB m_=>
   refine .inl ⟨rfl,_,_,x,m,y,n,rfl,rfl,e,e',l,l',a1,a2,b1,b2,fun z=>absurd z y0,fun _ r' H' a d s' er la ea=>k _ H' s' ?_⟩
   have h2:=jf.mp h2
   have g2:=jf.mp g2
   have my:m*y≠0:=fun z=>(oK.mp z).elim (fun z=>by lia) y0
   have ew:a*(U*T')=T*U'*d:=by
    refine Int.eq_of_mul_eq_mul_right (a:=m*y) my ?_
    have e1:x*U=T*m:=by lia
    have e2:T'*n=y*U':=by lia
    calc a*(U*T')*(m*y)=a*(m*y)*(U*T'):=by grind
     _=x*n*d*(U*T'):=by rw [ea]
     _=x*U*(T'*n)*d:=by grind
     _=T*m*(y*U')*d:=by rw [e1,e2]
     _=T*U'*d*(m*y):=by grind
   have W:aQ (a.natAbs+d.natAbs) H' 0 (.ref r') (T*U') (U*T'):=⟨a,d,.b6 er la (by lia) (by lia),by rw [ew,mQ];exact iQ 0,nb⟩
   exact W.bd bt bb
  | rem h0 h1 h2=>lia
 | rem h0 tH pJ=>
  cases g1 with
  | b6 e' l' DB m_=>lia
  | rem g0 g1 Tu=>
   have eR:2≤q∧q≤997∧gK q=true:=by rcases hq with h | h;lia;exact h
   refine .inr ⟨eR.1,x,y,rfl,rfl,eR.2.1,eR.2.2,h0,tH,g0,g1,fun z=>absurd z y0,fun _ r r0 r1 er=>k _ H (ae.refl _) ⟨r,1,.rem r0 r1 pJ,?_,nb⟩⟩
   have c1:Cg q (r*y) x:=by
    have:=Dj q (r*y)
    rw [er] at this
    exact this.symm
   have c2:Cg q (x*U) (T*1):=h2
   have c3:Cg q (y*U') (T'*1):=g2
   rw [gu] at c2 c3 ⊢
   have e1:Cg q (r*(U*T')) (r*U*(y*U')):=(Cg.of_eq (by grind)).trans ((c3.symm).mulL (r*U))
   have e2:Cg q (r*U*(y*U')) (x*(U*U')):=(Cg.of_eq (show r*U*(y*U')=r*y*(U*U') by grind)).trans (c1.mulR (U*U'))
   have e3:Cg q (x*(U*U')) (T*U'):=(Cg.of_eq (show x*(U*U')=x*U*U' by grind)).trans (c2.mulR U')
   exact e1.trans (e2.trans e3)
end
def bU(o:List Nat):List V:=o.map fun k:Nat=>V.int (k:Int)
structure WTab (H:Hp) (a:Addr) (n:Nat) (rs:Nat→Addr) (vf:Nat→Nat→V):Prop where
 lst:H a=some (.lst ((List.range n).map fun i=>V.ref (rs i)))
 inj:∀i j,i<n→j<n→rs i=rs j→i=j
 ne:∀i,i<n→rs i≠a
 at':∀i,i<n→H (rs i)=some (.lst ((List.range n).map (vf i)))
def lE(vf:Nat→Nat→V)(i j:Nat)(w:V):Nat→Nat→V:=fun i' j'=>if i'=i∧j'=j then w else vf i' j'
variable {j:Nat} {w:V}
theorem map_set{f:Nat→V}:((List.range n).map f).set j w=(List.range n).map fun j'=>if j'=j then w else f j':=by
 refine eX (by simp) fun i h1 h2=>?_
 rw [List.getElem_set];simp;by_cases e:j=i;·subst e;simp
 ·rw [ak e,ak (Ne.symm e)]
section
variable {H H':Hp} {a:Addr} {n:Nat} {rs:Nat→Addr} {vf:Nat→Nat→V}
theorem WTab.bG(h:WTab H a n rs vf)(k:∀b o,(b=a∨∃i,i<n∧b=rs i)→H b=some o→H' b=some o):WTab H' a n rs vf:=
 ⟨k _ _ (.inl rfl) h.lst,h.inj,h.ne,fun i hi=>k _ _ (.inr ⟨i,hi,rfl⟩) (h.at' i hi)⟩
theorem WTab.mono(h:WTab H a n rs vf)(s:ae H H'):WTab H' a n rs vf:=h.bG fun b o _ e=>s b o e
theorem WTab.put(h:WTab H a n rs vf){i:Nat}(w:V)(hi:i<n):WTab (upd H (rs i) (.lst (((List.range n).map (vf i)).set j w))) a n rs (lE vf i j w):=by
 refine ⟨by rw [aO (Ne.symm (h.ne i hi))];exact h.lst,h.inj,h.ne,fun i' dS=>?_⟩
 by_cases e:i'=i
 ·subst e
  rw [au,map_set]
  congr 2
  refine jg fun j' _=>?_;unfold lE;simp
 ·rw [aO (fun z=>e (h.inj i' i dS hi z)),h.at' i' dS]
  congr 2
  refine jg fun j' _=>?_;unfold lE;simp [e]
end
structure JD (q:Int) (X n p:Nat) (ms:List Nat) (T U T' U':aS):Prop where
 mi:¬q∣T p p
 nz:∀i j,i<n→j<n→¬q∣U' i j
 bt:∀i j,i<n→j<n→(T' i j).natAbs≤X∧(U' i j).natAbs≤X
 low:∀i∈ms,Cg q (T i p*U p p*U' i p) (T' i p*(U i p*T p p))
 ent:∀i∈ms,∀j∈ms,Cg q ((T i j*(U' i p*U p j)-T' i p*T p j*U i j)*U' i j) (T' i j*(U i j*(U' i p*U p j)))
 xE:∀i j,i<n→j<n→(i∉ms∨(j≠p∧j∉ms))→Cg q (T i j*U' i j) (T' i j*U i j)
def dr(X:Nat)(H:Hp)(q:Int)(n:Nat)(vf:Nat→Nat→V)(T U:aS):Prop:=∀i j,i<n→j<n→aQ X H q (vf i j) (T i j) (U i j)
def fb(n:Nat)(rs:Nat→Addr)(H H':Hp):Prop:=∀b o,(∀i,i<n→b≠rs i)→H b=some o→H' b=some o
def Tv(C:Addr):Sp:=fun vs H Q _=>∃(z a b:Addr) (q:Int) (n X p:Nat) (rs:Nat→Addr) (vf:Nat→Nat→V) (ms:List Nat) (T U T' U':aS),vs=[.ref z,.ref a,.int (p:Int),.ref b]∧dy C H z q∧bC q∧WTab H a n rs vf∧H b=some (.lst (bU ms))∧(∀i,i<n→b≠rs i∧z≠rs i)∧p<n∧(∀m∈ms,m<n∧m≠p)∧ms.Nodup∧n≤60∧1000≤X∧X≤10 ^ 100∧dr X H q n vf T U∧(∀i j,i<n→j<n→(T i j).natAbs≤X∧(U i j).natAbs≤X)∧JD q X n p ms T U T' U' ∧
 ∀(H':Hp) (iH:Nat→Nat→V),fb n rs H H'→WTab H' a n rs iH→dr X H' q n iH T' U'→Q .aF H'
def i_(D:Nat→Nat→Bool)(T T':aS):Nat→Nat→Int:=fun i j=>if D i j then T' i j else T i j
theorem fb.refl(n:Nat)(rs:Nat→Addr)(H:Hp):fb n rs H H:=fun _ _ _ e=>e
variable {rs:Nat→Addr} {H H1:Hp}
theorem fb.same{H2:Hp}(h:fb n rs H H1)(s:ae H1 H2):fb n rs H H2:=fun b o nb e=>s _ _ (h b o nb e)
variable {i:Nat}
theorem fb.put{o:HO}(h:fb n rs H H1)(hi:i<n):fb n rs H (upd H1 (rs i) o):=fun b u nb e=>by rw [aO (nb i hi)];exact h b u nb e
theorem int_at{x:V}(h:(bU ms)[k]?=some x):∃i:Nat,ms[k]?=some i∧x=.int (i:Int):=by
 unfold bU at h;rw [cw] at h;cases e:ms[k]? with
 | none=>rw [e] at h;cases h
 | some i=>rw [e] at h;exact ⟨i,rfl,(Option.some.inj h).symm⟩
theorem zZ(nd:ms.Nodup)(h:ms[k]?=some i):i∉ms.take k:=fun z=>by have h2:=(yJ (k+1) ms).nodup nd;rw [take_snoc h,yU] at h2;exact h2.2.2 i z i (iu.mpr rfl) rfl
variable {D:Nat→Nat→Bool} {T T':aS}
theorem eU(h:D i j=true):i_ D T T' i j=T' i j:=by unfold i_;rw [aq h]
theorem dF(h:D i j=false):i_ D T T' i j=T i j:=by unfold i_;rw [h];rfl
variable {X:Nat} {q:Int} {vf:Nat→Nat→V} {U U':aS}
theorem dr.put{H':Hp}(h:dr X H q n vf T U)(k:∀v t u,aQ X H q v t u→aQ X H' q v t u)(hw:aQ X H' q w (T' i j) (U' i j))(o:∀i' j',i'<n→j'<n→¬(i'=i∧j'=j)→T' i' j'=T i' j'∧U' i' j'=U i' j'):dr X H' q n (lE vf i j w) T' U':=fun i' j' dS eB=>by
 unfold lE;by_cases e:i'=i∧j'=j
 ·rw [aq e,e.1,e.2]
  exact hw
 ·rw [ak e,(o i' j' dS eB e).1,(o i' j' dS eB e).2]
  exact k _ _ _ (h i' j' dS eB)
theorem dr.to(h:dr X H q n vf T U)(o:∀i' j',i'<n→j'<n→T' i' j'=T i' j'∧U' i' j'=U i' j'):dr X H q n vf T' U':=fun i j hi hj=>by rw [(o i j hi hj).1,(o i j hi hj).2];exact h i j hi hj
theorem dr.JE(hq:bC q)(h:dr X H q n vf T U)(o:∀i j,i<n→j<n→(T' i j=T i j∧U' i j=U i j)∨(Cg q (T i j*U' i j) (T' i j*U i j)∧¬q∣U' i j∧(T' i j).natAbs≤X∧(U' i j).natAbs≤X)):dr X H q n vf T' U':=fun i j hi hj=>by
 rcases o i j hi hj with ⟨e1,e2⟩ | ⟨e1,e2,e3,e4⟩
 ·rw [e1,e2]
  exact h i j hi hj
 ·exact ((h i j hi hj).eq hq e1 e2).bd e3 e4
theorem aQ.put{v:V}{t u:Int}{b:Addr}{xs:List V}{o:HO}(h:aQ X H q v t u)(e:H b=some (.lst xs)):aQ X (upd H b o) q v t u:=by
 obtain ⟨x,m,h1,h2⟩:=h;refine ⟨x,m,?_,h2⟩;cases h1 with
 | b6 e' l bx bm=>exact .b6 (by rw [aO (fun z=>by rw [z,e] at e';cases e')];exact e') l bx bm
 | rem a b c=>exact .rem a b c
end My
namespace L2
open PySem PySem.Spec PyProof.Rows
section
variable {X:Cx} {a b:Expr} {rest:List Expr} {pos:Pos} {ta tb:TE}
end
end L2
namespace My
open PySem L2
theorem DE(xs:List V)(k:Nat):cT xs (some (k:Int)) none=xs.drop k:=by
 unfold cT;rw [HT.HJ,HT.HI];by_cases h:k≤xs.length
 ·rw [wR h]
  exact mP (by rw [oF];lia)
 ·rw [yW (by lia),List.drop_of_length_le (aN _),List.drop_of_length_le (by lia),List.take_nil]
end My
namespace L2
open PySem PySem.Spec PyProof.Rows
section
variable {prog:Program} {w:World} {A:Around} {E:aR} {s:Shared}
end
section
variable {prog:Program} {w:World} {A:Around} {E:aR} {s:Shared}
end
section
variable {X:Cx}
end
section
variable {prog:Program} {w:World} {A:Around} {E:aR} {s:Shared}
end
end L2
namespace My
open PySem L2
end My
namespace L2
open PySem PySem.Spec PyProof.Rows
end L2
namespace My
open PySem L2
end My
namespace L2
open PySem PySem.Spec PyProof.Rows
section
variable {X:Cx}
end
end L2
namespace My
open PySem L2
end My
namespace L2
open PySem
section
variable {prog:Program} {w:World} {A:Around} {E:aR} {s:Shared}
end
end L2
namespace My
open PySem L2
end My
namespace L2
open PySem PySem.Spec PyProof.Rows My
end L2
namespace My
open PySem L2
section
variable {P a d:Addr} {H Hc:Hp} {n m:Nat} {L:cx}
end
section
variable {n:Nat} {E:Nat→Nat→Prop} {pos rk:Nat→Nat}
end
open PySem PySem.W PyProof.Rows Tm
section
variable {prog:Program} {w:World} {A:Around} {E:aR} {s:Shared}
end
open PySem PySem.W PyProof.Rows
section
variable {prog:Program} {w:World} {A:Around} {E:aR} {s:Shared}
end
end My
namespace L2
open PySem PySem.W PyProof.Rows My
end L2
namespace My
open PySem PySem.W PyProof.Rows
section
variable {prog:Program} {w:World} {A:Around} {E:aR} {s:Shared} {R:Result→Shared→Prop}
end
open PySem PySem.W PyProof.Rows L2
section
variable {prog:Program} {w:World} {A:Around} {s:Shared}
end
end My
namespace L2
open PySem PySem.W PyProof.Rows My
end L2
namespace My
open PySem L2
end My
namespace L2
open PySem PySem.Spec PyProof.Rows My
end L2
namespace My
open PySem L2
end My
namespace L2
open PySem
section
variable {prog:Program} {w:World} {A:Around} {E:aR} {s:Shared}
end
open PySem PySem.Spec PyProof.Rows My
end L2
namespace My
open PySem L2
end My
namespace L2
open PySem PySem.W PyProof.Rows
section
variable {prog:Program} {w:World} {A:Around} {E:aR} {s:Shared}
end
open AutoSeq1 (wpAny_loadPart')
section
variable {prog:Program} {w:World} {A:Around} {E:aR} {s:Shared}
end
end L2
namespace My
open PySem L2
end My
namespace L2
open PySem PySem.Spec PyProof.Rows My
end L2
namespace My
open PySem L2
open PySem L2 Classical
theorem aC{a b:TS}{D:Ends}{σ:St}{H:Hp}(h:∀R:St→Hp→Prop,(∀σ H,b D σ H→R σ H)→a {D with nx:=R} σ H):Ci a b D σ H:=h _ fun _ _ h=>h
end My
namespace L2
open PySem PySem.Spec PyProof.Rows
end L2
namespace My
open PySem L2 Classical
open PySem L2
end My
namespace L2
open PySem PySem.Spec PyProof.Rows My
section
variable {X:Cx}
end
end L2
namespace My
open PySem L2
end My
namespace L2
open PySem PySem.Spec PyProof.Rows My
theorem z5{K:aD}{l:Addr}{xs:List V}{H1:Hp}(h:bO K H1 l xs):IG (tI K l) ((List.range xs.length).zip xs |>.map fun p=>(V.int (p.1:Int),p.2)) H1 where
 go:=fun i Hc s hi=>by
  have hi:i<xs.length:=by simpa using hi
  exact ⟨xs,xs[i],s.seq h,by simp [hi]⟩
 dY:=fun i Hc v H' s y=>by
  obtain ⟨T,x,nT,e1,e2,e3⟩:=y;refine ⟨T,.int (i:Int),x,e1,nT,e2,fun hi=>?_⟩;have hi:i<xs.length:=by simpa using hi
  have:=e3 xs (s.seq h);rw [cw,(List.getElem?_zip_eq_some (z:=(i,x))).mpr ⟨je hi,this⟩];rfl
 stop:=fun i Hc s hi=>by
  have hi:xs.length≤i:=by simpa using hi
  exact ⟨xs,s.seq h,hi⟩
end L2
namespace My
open PySem L2
def sV(s:String):V:=.str (Str.ofString s)
end My
namespace L2
open PySem PySem.Spec PyProof.Rows
section
variable {prog:Program} {w:World} {A:Around} {E:aR} {s:Shared}
end
open AutoSeq1 (wpAny_loadPart')
section
variable {prog:Program} {w:World} {A:Around} {E:aR} {s:Shared}
end
section
variable {prog:Program} {w:World} {A:Around} {E:aR} {s:Shared}
end
section
variable {X:Cx}
end
open PySem PySem.Spec PyProof.Rows My
end L2
namespace My
open PySem L2
def a7(H:Hp)(T:Addr):Prop:=∃x:Int,H T=some (.lst [.int x])
def aG(T:Addr)(H H':Hp):Prop:=∀b o,b≠T→H b=some o→H' b=some o
variable {T:Addr} {H H1:Hp}
theorem aG.trans{H2:Hp}(a:aG T H H1)(b:aG T H1 H2):aG T H H2:=fun c o n e=>b c o n (a c o n e)
theorem aG.of(a:ae H H1):aG T H H1:=fun c o _ e=>a c o e
theorem aG.upd{o:HO}:aG T H (L2.upd H T o):=fun c u n e=>(aO n).trans e
theorem a7.mono(h:a7 H T)(a:ae H H1):a7 H1 T:=let ⟨x,e⟩:=h;⟨x,a _ _ e⟩
theorem a7.ne{b:Addr}(h:a7 H T)(n:H b=none):b≠T:=fun z=>by obtain ⟨x,e⟩:=h;rw [z,e] at n;cases n
def Tx(K:aD):Sp:=fun vs H Q _=>∃(a:Addr) (ns:List Int) (k:Nat),vs=[.ref a,.int (k:Int)]∧bO K H a (ns.map V.int)∧∀z:Int,Q (.int z) H
def Tz(K:aD):Sp:=fun vs H Q _=>∃(a:Addr) (ns:List Int) (k:Nat),vs=[.ref a,.int (k:Int)]∧bO K H a (ns.map V.int)∧k≤1000∧∀(T:Addr) (H':Hp),ae H H'→H T=none→a7 H' T→Q (.ref T) H'
def TB:Sp:=fun vs H Q _=>∃(T:Addr) (m:Nat),vs=[.ref T,.int (m:Int)]∧a7 H T∧1≤m∧m≤1000∧∀(d:Nat) (H':Hp),d<m→aG T H H'→a7 H' T→Q (.int (d:Int)) H'
theorem aG.refl(T:Addr)(H:Hp):aG T H H:=fun _ _ _ e=>e
end My
namespace L2
open PySem
end L2
namespace My
open PySem L2
def JF(m:Nat):Nat:=m*m+3*m+1
end My
namespace L2
open PySem
variable {X:Cx}
def TC:V→List V→Hp→VK→Prop:=fun x vs H Q=>∃l xs,∃k:Nat,∃i:Int,∃y,x=.ref l∧vs=[.int i,y]∧i=(k:Int)∧H l=some (.lst xs)∧k≤xs.length∧xs.length≤1000∧Q .aF (upd H l (.lst (xs.take k++y::xs.drop k)))
theorem TF:CI X "list.insert" TC:=by
 intro pins s σ H x vs v us Q I rx rv h;obtain ⟨l,xs,k,i,y,rfl,rfl,hi,hH,hk,hz,q⟩:=h;cases rx;obtain ⟨u,w,rfl,ru,dw⟩:=rv.two;obtain ⟨t,rfl⟩:=ru;obtain ⟨z,ah,n,r,hl,e⟩:=I.l8 hH;have l1:1001≤sizeLine:=by decide +kernel
 have lx:=r.length;have hf:¬(!Builtin.List.listFitsIndex i)=true:=by
  rw [fitsIndex_both (k:=i) (by lia) (by lia)]
  exact cW
 have hs:ah.toArray.size≤sizeLine:=by rw [cX];lia
 have M:=@AutoSeq1.list_insert_list_int_val_1 l ah.toArray n i t w hf hs;refine oG F.slot_list_insert ⟨_,e,rfl⟩ F.entry_list_insert (@F.args_list_insert_3 _ _ _) M ⟨e,?_⟩;refine ⟨.aF,_,I.CJ (its':=ah.take k++w::ah.drop k) hH e ?_ ((r.take k).append (.cons dw (r.drop k))) ?_,rfl,q⟩
 ·have e1:¬(i<0):=by lia
  have e2:min i.toNat ah.length=k:=by lia
  simp only [ak e1,cX,e2];apply Array.ext';simp;rw [mP (by simp)]
 ·rw [cR,eK,jc,oF]
  lia
open PySem PySem.Spec PyProof.Rows
section
variable {prog:Program} {w:World} {A:Around} {E:aR} {s:Shared}
end
section
variable {X:Cx} {tg:Expr}
end
section
variable {prog:Program} {w:World} {K:Type} [DecidableEq K] {knd:HeapKind prog w K} {A:Around} {E:aR} {s:Shared}
end
section
variable {prog:Program} {w:World} {A:Around} {E:aR} {s:Shared}
end
section
variable {X:Cx} {pins:aU} {σ:St} {H:Hp} {s:Shared}
end
section
variable {X:Cx} {tg:Expr}
end
open PySem PySem.W PyProof.Rows My
end L2
namespace My
open PySem L2
end My
namespace L2
open PySem
end L2
namespace My
end My
namespace L2
open PySem PySem.Spec PyProof.Rows
open PySem PySem.Spec PyProof.Rows PySem.W
open PySem PySem.Spec PyProof.Rows PySem.W Att
section
variable {prog:Program} {w:World} {A:Around} {E:aR} {s:Shared}
end
section
variable {X:Cx}
end
end L2
namespace My
open PySem L2
def nI(o:List Nat):List V:=o.map fun k:Nat=>V.int (k:Int)
def DF(n:Nat)(g:Nat→List Nat):Nat:=((List.range n).map fun x=>JF (g x).length).sum
def TH:Sp:=fun vs H Q _=>∃(T:Addr) (n:Nat),vs=[.ref T,.int (n:Int)]∧a7 H T∧n≤60∧∀(D:Addr) (o:List Nat) (H':Hp),aG T H H'→a7 H' T→H D=none→H' D=some (.lst (nI o))→o.Perm (List.range n)→Q (.ref D) H'
section
variable {n:Nat} {cU:Nat→Nat→Prop} {dR:Nat→Prop} {p q:Nat}
end
theorem tR{n:Nat}{o:List Nat}(ho:o.Perm (List.range n)){k x:Nat}:x∈o.take k↔pU n o k x:=by
 have nd:=i9 ho;constructor
 ·intro h
  obtain ⟨i,hi,e⟩:=List.getElem_of_mem h;rw [jc] at hi;rw [List.getElem_take] at e;subst e;exact ⟨(cB ho).mp (gY _),by rw [nH nd];lia⟩
 ·rintro ⟨h1,h2⟩
  obtain ⟨hk,e⟩:=dE ((cB ho).mpr h1);have:o.idxOf x<(o.take k).length:=by rw [jc];lia
  have:=gY this
  rwa [List.getElem_take,e] at this
def cO(o:List Nat)(k:Nat):List Nat:=(o.take k).reverse
def sT(M:aS)(D:Nat→Int)(o:List Nat)(k i j:Nat):Int:=
 if k≤o.idxOf i∧k≤o.idxOf j then aJ M (cO o k) (M i) j else if o.idxOf i≤o.idxOf j then aJ M (cO o (o.idxOf i)) (M i) j else aJ M (cO o (o.idxOf j)) (M i) j*D j
def sU(M:aS)(D:Nat→Int)(o:List Nat)(k i j:Nat):Int:=
 if k≤o.idxOf i∧k≤o.idxOf j then D i*aM M (cO o k) else if o.idxOf i≤o.idxOf j then D i*aM M (cO o (o.idxOf i)) else D i*aM M (cO o (o.idxOf j+1))
section
variable {q:Int} {M:aS} {D:Nat→Int} {o:List Nat} {n k:Nat}
theorem pW(h:k<o.length):cO o (k+1)=o[k]::cO o k:=by unfold cO;rw [List.take_succ,cN h];simp
theorem cZ(ho:o.Perm (List.range n)){x:Nat}:x∈cO o k↔pU n o k x:=by unfold cO;rw [List.mem_reverse];exact tR ho
theorem mj(h:de q M (cO o k)):∀{j:Nat},j≤k→de q M (cO o j):=by
 have go:∀d j,j+d=k→de q M (cO o j):=fun d=>by
  induction d with
  | zero=>intro j e;rw [show j=k by lia];exact h
  | succ d ih=>
   intro j e;have:=ih (j+1) (by lia)
   by_cases hl:j<o.length
   ·rw [pW hl] at this
    exact this.1
   ·have e:cO o j=cO o (j+1):=by unfold cO;rw [mP (by lia),mP (by lia)]
    rw [e];exact this
 exact fun{j} hj=>go (k-j) j (by lia)
theorem TJ(hq:bC q){L:cx}{ms:List Nat}{X p:Nat}(ho:o.Perm (List.range n))(hp:p<n)(ip:o.idxOf p=k)(g:de q M (cO o k))(mi:¬q∣aJ M (cO o k) (M p) p)(hD:∀i,¬q∣D i)
  (zero:∀a b,a<n→b<n→a≠b→¬aL n L a b→M a b=0) (gk:hV n L o p ms) (bd:∀k i j,k≤n→(sT M D o k i j).natAbs≤X∧(sU M D o k i j).natAbs≤X):JD q X n p ms (sT M D o k) (sU M D o k) (sT M D o (k+1)) (sU M D o (k+1)):=by
 have lo:=eh ho;have JG:=i9 ho;have kl:k<o.length:=by rw [←ip];exact (dE ((cB ho).mpr hp)).1
 have kn:k<n:=by lia
 have pk:o[k]=p:=by have:=(dE ((cB ho).mpr hp)).2;simp only [ip] at this;exact this
 have cs:cO o (k+1)=p::cO o k:=by rw [pW kl,pk]
 have g':de q M (cO o (k+1)):=by rw [cs];exact ⟨g,mi⟩
 have dz:∀j,j≤k+1→¬q∣aM M (cO o j):=fun j hj=>mh hq (mj g' hj);have mlt:∀{i},i∈ms→i<n∧k<o.idxOf i:=fun{i} h=>by have:=(gk i).mp h;rw [ip] at this;exact ⟨this.1,this.2.1⟩
 have xF:aM M (cO o (k+1))=aJ M (cO o k) (M p) p:=by rw [cs];rfl
 have step:∀i j,aJ M (cO o k) (M p) p*aJ M (cO o k) (M i) j-aJ M (cO o k) (M i) p*aJ M (cO o k) (M p) j=aM M (cO o k)*aJ M (cO o (k+1)) (M i) j:=fun i j=>by rw [cs];exact zS hq g p (M i) j
 have bG:∀{i},i<n→k<o.idxOf i→i∉ms→aJ M (cO o k) (M i) p=0∧aJ M (cO o k) (M p) i=0:=fun{i} hi hk nm=>by
  have nc:i∉cO o k:=fun z=>by have:=((cZ ho).mp z).2;lia
  have pc:p∉cO o k:=fun z=>by have:=((cZ ho).mp z).2;lia
  have ne:p≠i:=fun z=>by rw [←z] at hk;lia
  have nw:¬Wk (aL n L) (·∈cO o k) p i:=fun z=>nm ((gk i).mpr ⟨hi,by lia,by rw [ip];exact z.mono fun x hx=>(cZ ho).mp hx⟩)
  have lc:∀c∈cO o k,c<n:=fun c hc=>((cZ ho).mp hc).1;exact ⟨nK hq zero g lc i p hi hp nc pc (Ne.symm ne) fun z=>nw (z.symm zQ),nK hq zero g lc p i hp hi pc nc ne nw⟩
 have tp:∀j,k≤o.idxOf j→sT M D o k p j=aJ M (cO o k) (M p) j∧sU M D o k p j=D p*aM M (cO o k):=fun j hj=>by
  unfold sT sU;rw [aq ⟨by lia,hj⟩,aq ⟨by lia,hj⟩]
  exact ⟨rfl,rfl⟩
 have tk:∀i j,k≤o.idxOf i→k≤o.idxOf j→sT M D o k i j=aJ M (cO o k) (M i) j∧sU M D o k i j=D i*aM M (cO o k):=fun i j hi hj=>by unfold sT sU;rw [aq ⟨hi,hj⟩,aq ⟨hi,hj⟩];exact ⟨rfl,rfl⟩
 have sZ:∀i j,k+1≤o.idxOf i→k+1≤o.idxOf j→sT M D o (k+1) i j=aJ M (cO o (k+1)) (M i) j∧sU M D o (k+1) i j=D i*aM M (cO o (k+1)):=fun i j hi hj=>by unfold sT sU;rw [aq ⟨hi,hj⟩,aq ⟨hi,hj⟩];exact ⟨rfl,rfl⟩
 have xG:∀i,k<o.idxOf i→sT M D o (k+1) i p=aJ M (cO o k) (M i) p*D p∧sU M D o (k+1) i p=D i*aM M (cO o (k+1)):=fun i hi=>by
  unfold sT sU;rw [ak (by lia),ak (by lia),ak (by lia),ak (by lia),ip]
  exact ⟨rfl,rfl⟩
 refine ⟨?_,fun i j _ _=>?_,fun i j _ _=>bd (k+1) i j kn,fun i hi=>?_,fun i hi j hj=>?_,fun i j cm eE h=>?_⟩
 ·rw [(tp p (by lia)).1]
  exact mi
 ·unfold sU
  split
  ·exact e_ hq (hD i) (dz _ (by lia))
  ·rename_i h1
   split
   ·exact e_ hq (hD i) (dz _ (by lia))
   ·exact e_ hq (hD i) (dz _ (by lia))
 ·have h1:=(mlt hi).2
  rw [(tk i p (by lia) (by lia)).1,(tk i p (by lia) (by lia)).2,(tp p (by lia)).1,(tp p (by lia)).2,(xG i h1).1,(xG i h1).2,xF]
  exact Cg.of_eq (by grind)
 ·have h1:=(mlt hi).2
  have h2:=(mlt hj).2;rw [(tk i j (by lia) (by lia)).1,(tk i j (by lia) (by lia)).2,(tp j (by lia)).1,(tp j (by lia)).2,(xG i h1).1,(xG i h1).2,(sZ i j (by lia) (by lia)).1,(sZ i j (by lia) (by lia)).2]
  have st:=step i j;rw [←xF] at st;generalize aJ M (cO o k) (M i) j=x at st ⊢;generalize aJ M (cO o k) (M i) p=y at st ⊢;generalize aJ M (cO o k) (M p) j=w at st ⊢;generalize aJ M (cO o (k+1)) (M i) j=x' at st ⊢;generalize aM M (cO o k)=d at st ⊢;generalize aM M (cO o (k+1))=d' at st ⊢;refine Cg.of_eq ?_;have e:(x*(D i*d'*(D p*d))-y*D p*w*(D i*d))*(D i*d')=D i*D p*d*(d'*x-y*w)*(D i*d'):=by grind
  rw [e,st];grind
 ·by_cases h1:k<o.idxOf i∧k<o.idxOf j
  ·rw [(tk i j (by lia) (by lia)).1,(tk i j (by lia) (by lia)).2,(sZ i j (by lia) (by lia)).1,(sZ i j (by lia) (by lia)).2]
   have st:=step i j;rw [←xF] at st;have z:aJ M (cO o k) (M i) p*aJ M (cO o k) (M p) j=0:=by
    rcases h with h | ⟨_,h⟩;·rw [(bG cm h1.1 h).1,eW]
    ·rw [(bG eE h1.2 h).2,iw]
   rw [z,mO] at st;exact Cg.of_eq (by grind)
  ·by_cases h2:k<o.idxOf i∧o.idxOf j=k
   ·have ej:j=p:=wO fun z=>pS ho eE hp z (by lia)
    subst ej;have nm:i∉ms:=by
     rcases h with h | ⟨h,_⟩;·exact h
     ·exact absurd rfl h
    rw [(tk i j (by lia) (by lia)).1,(xG i h2.1).1,(bG cm h2.1 nm).1]
    exact Cg.of_eq (by simp)
   ·have e:sT M D o (k+1) i j=sT M D o k i j∧sU M D o (k+1) i j=sU M D o k i j:=by
     by_cases h3:o.idxOf i=k∧k≤o.idxOf j
     ·have a1:¬(k+1≤o.idxOf i∧k+1≤o.idxOf j):=by lia
      have a2:o.idxOf i≤o.idxOf j:=by lia
      have a3:k≤o.idxOf i∧k≤o.idxOf j:=by lia
      unfold sT sU;rw [ak a1,aq a2,aq a3,ak a1,aq a2,aq a3,h3.1];exact ⟨rfl,rfl⟩
     ·have a1:¬(k+1≤o.idxOf i∧k+1≤o.idxOf j):=by lia
      have a2:¬(k≤o.idxOf i∧k≤o.idxOf j):=by lia
      unfold sT sU;rw [ak a1,ak a2,ak a1,ak a2];exact ⟨rfl,rfl⟩
    rw [e.1,e.2];exact Cg.refl _
end
end My
namespace L2
open PySem PySem.Spec PyProof.Rows
def xH(K:aD)(a:Addr)(n:Nat):It:=
 ⟨fun i H=>i<n∧∃xs,bO K H a xs∧xs.length=n,fun i H x H'=>H'=H∧∀xs,bO K H a xs→xs[n-1-i]?=some x,fun i H=>n≤i⟩
theorem TK{P:Program}{w:World}{K:aD}{tg:Expr}(a it:Addr)(n:Nat):Turn P w K tg (xH K a n) [it] it (fun i h=>i≤n∧h.IsRevIter it a ((n:Int)-1-i)) where
 mem:=by simp
 obj:=fun i h st b hb=>by
  have e:b=it:=by simpa using hb
  subst e;obtain ⟨_,o,e,c,d⟩:=st;exact ⟨o,e,fun v z=>by rw [d] at z;cases z⟩
 keep:=fun i h h' st k=>⟨st.1,by obtain ⟨_,o,e,c,d⟩:=st;exact ⟨o,k it (by simp) o e,c,d⟩⟩
 item:=by
  intro X hP hw hK hc i pins s σ H E I hf st hg;subst hP hw hK;obtain ⟨il,xs,hq,hx⟩:=hg;obtain ⟨ah,rv,p,hz⟩:=I.list hq;have hl:=rv.length;have hi:n-1-i<xs.length:=by lia
  obtain ⟨u,hu,ru⟩:=rv.get (cN hi);obtain ⟨f0,f1,f2,f3,f4,f5⟩:=hf it (by simp)
  have DG:s.heap.IsRevIter it a ((n-1-i:Nat):Int):=by
   have:=st.2
   rwa [show (n:Int)-1-(i:Int)=((n-1-i:Nat):Int) by lia] at this
  refine wpAny_pyNext_rev_item DG p.isList (x:=u) (by simpa using hu) fun h' f_ sb=>?_
  have I1:Inv X pins σ H {s with heap:=h'}:=I.turned (t':=s.toks) (fun b o hb e=>(sb.2 b hb).trans e) f0 f1 f3 f4 f5;obtain ⟨o,e,c,d⟩:=id f_;have eP:i+1≤n∧h'.IsRevIter it a ((n:Int)-1-((i+1:Nat):Int)):=⟨by lia,by rwa [show (n:Int)-1-((i+1:Nat):Int)=((n-1-i:Nat):Int)-1 by lia]⟩
  exact ⟨u,rfl,sG (s:={s with heap:=h'}) e c d (by decide) ⟨xs[n-1-i],H,I1,ru,⟨rfl,fun ys hy=>by rw [I.Ce hy hq];exact cN hi⟩,eP,fun b hb=>(hf b hb).1⟩⟩
 done:=by
  intro X hP hw hK hc i pins s σ H E I hf st hg;subst hP hw hK;have hg:n≤i:=hg;obtain ⟨f0,f1,f2,f3,f4,f5⟩:=hf it (by simp)
  have DG:s.heap.IsRevIter it a (-1):=by
   have:=st.2
   rwa [show (n:Int)-1-(i:Int)=-1 by have:=st.1;lia] at this
  exact wpAny_pyNext_rev_end (I.ok.hd hc) DG fun h' eb=>⟨rfl,I.turned (t':=s.toks) (fun b o hb e=>eb b o hb e) f0 f1 f3 f4 f5⟩
 self:=fun _ _ _ _ _ st h=>wpAny_pyIter_revIter st.2 h
section
variable {X:Cx} {tg:Expr}
def TL(K:aD)(ta:TA):TI:=fun σ H R=>ta σ H fun vs H1=>∃(l:Addr) (xs:List V),vs=[.ref l]∧bO K H1 l xs∧R (xH K l xs.length) H1
theorem TM{a:Expr}{ta:TA}{p pos:Pos}(hg:Gl X "reversed")(hm:X.mg "reversed"=none)(ha:PA X [a] ta)(hs:starEach [a] X.env=[(false,eval a X.env)]:=by rfl):PI X tg (.Call (.Name "reversed" p) [a] [] pos) (TL X.K ta):=by
 intro pins s σ H R I h;refine Call_ (mU I hg hm boot_reversed (r_ (aK (ha pos pins s σ H _ I h) fun us s1 ⟨vs,H1,I1,r1,q1⟩=>?_) hs rfl));obtain ⟨l,xs,e,hq,q⟩:=q1;subst e;cases r1 with
 | cons r rr=>
  cases rr;cases r;obtain ⟨ah,rv,pl,hz⟩:=I1.list hq;have hl:=rv.length;refine call_reversed_list pl.isList ?_;refine wpAny_pyIter_revIter (i:=(ah.toArray.size:Int)-1) ⟨_,eJ _ rfl,rfl,rfl⟩ ?_;refine ⟨s1.heap.objs.size,[s1.heap.objs.size],_,_,H1,rfl,I1.kept (t':=s1.toks) fun b o e=>cu _ e,TK l _ xs.length,⟨b_ _,_,eJ _ rfl,rfl,?_⟩,fun b hb=>?_,q⟩
  ·rw [hl,cX,show ((ah.length:Int)-1-((0:Nat):Int))=(ah.length:Int)-1 by lia]
   rfl
  ·have e:b=s1.heap.objs.size:=by simpa using hb
   subst e;exact I1.oW (aN _) (I1.ay.fresh (aN _))
theorem TN{K:aD}{a:Addr}{xs:List V}{g:TG}{tb:TS}{D:Ends}{σ:St}{H:Hp}(Pv:Nat→St→Hp→Prop)(h0:Pv 0 σ H)(hl:∀i σ H,i≤xs.length→Pv i σ H→bO K H a xs)
  (hs:∀i x σ H,i<xs.length→xs[xs.length-1-i]?=some x→Pv i σ H→g x σ H fun σ2 H2=>tb {D with nx:=Pv (i+1),ct:=Pv (i+1),bk:=D.nx} σ2 H2) (hd:∀σ H,Pv xs.length σ H→D.nx σ H) :
  ∃W:Nat→Nat→St→Hp→Prop,(∃m,W 0 m σ H)∧∀i m σ H,W i m σ H→
   ((xH K a xs.length).stop i H∧D.nx σ H)∨((xH K a xs.length).go i H∧∃N:St→Hp→Prop,(∀σ' H',N σ' H'→∃m',m'<m∧W (i+1) m' σ' H')∧∀x H',(xH K a xs.length).dY i H x H'→g x σ H' fun σ2 H2=>tb {D with nx:=N,ct:=N,bk:=D.nx} σ2 H2):=by
 refine ⟨fun i m σ H=>m=xs.length-i∧i≤xs.length∧Pv i σ H,⟨xs.length,by simp,b_ _,h0⟩,?_⟩
 rintro i m σ H ⟨rfl,hi,p⟩;have q1:=hl i σ H hi p;by_cases bP:i<xs.length
 ·refine .inr ⟨⟨bP,xs,q1,rfl⟩,Pv (i+1),fun σ' H' p'=>⟨xs.length-(i+1),by lia,rfl,bP,p'⟩,fun v H' hy=>?_⟩
  obtain ⟨rfl,hy⟩:=hy;exact hs i v σ H' bP (hy xs q1) p
 ·have e:i=xs.length:=by lia
  subst e;exact .inl ⟨aN _,hd σ H p⟩
end
end L2
namespace My
open PySem L2
structure xI (q:Int) (n X:Nat) (ai:fZ) (o:List Nat) (M:aS) (D:Nat→Int):Prop where
 mm:∀i j,i<n→j<n→q∣(atT ai i j).1*D i-M i j*(atT ai i j).2
 dn:∀i,¬q∣D i
 zero:∀i j,i<n→j<n→(atT ai i j).1=0→M i j=0
 bd:∀k i j,k≤n→(sT M D o k i j).natAbs≤X∧(sU M D o k i j).natAbs≤X
 X1:1000≤X
 fU:X≤10 ^ 100
structure DH (H0 H:Hp) (q:Int) (n X:Nat) (L:cx) (o:List Nat) (M:aS) (D:Nat→Int) (k:Nat) (wk ot:Addr) (rs:Nat→Addr) (vf:Nat→Nat→V) (ls:Nat→Addr) (g:Nat→List Nat):Prop where
 tab:WTab H wk n rs vf
 new:H0 wk=none∧∀i,i<n→H0 (rs i)=none
 mm:dr X H q n vf (sT M D o k) (sU M D o k)
 gk:tP H ot n ls g
 ok:∀p,p<n→iG n o p (g p)∧hV n L o p (g p)
 sep:(∀i,i<n→ot≠rs i∧∀j,j<n→ls j≠rs i)
def TQ(C N:Addr):Sp:=fun vs H Q _=>∃(z a d:Addr) (q:Int) (B X n:Nat) (ai:fZ) (o:List Nat) (M:aS) (D:Nat→Int),vs=[.ref z,.ref a,.ref d]∧dy C H z q∧bC q∧iF B H q a ai∧B≤10 ^ 100∧ai.length=n∧1≤n∧n≤40∧(∀ps∈ai,ps.length=n)∧H d=some (.lst (bU o))∧o.Perm (List.range n)∧xI q n X ai o M D ∧
 (∀(k:Nat) (hk:k<o.length),de q M (cO o k)→q∣aJ M (cO o k) (M o[k]) o[k]→∀(tp wk ot:Addr) (H':Hp) (rs ls:Nat→Addr) (vf:Nat→Nat→V) (g:Nat→List Nat),ae H H'→H' tp=some (.tup [.ref wk,.ref ot,.int ((k:Int)+1)])→DH H H' q n X (dA n (cA ai) n) o M D k wk ot rs vf ls g→Q (.ref tp) H') ∧
 (de q M (cO o n)→∀(tp wk ot:Addr) (H':Hp) (rs ls:Nat→Addr) (vf:Nat→Nat→V) (g:Nat→List Nat),ae H H'→H' tp=some (.tup [.ref wk,.ref ot,.aF])→DH H H' q n X (dA n (cA ai) n) o M D n wk ot rs vf ls g→Q (.ref tp) H')
section
variable {H:Hp} {q:Int} {a:Addr} {B n:Nat} {ai:fZ}
theorem TR(h:iF B H q a ai)(l:ai.length=n)(w:∀ps∈ai,ps.length=n):∃(ra:Nat→Addr) (vf:Nat→Nat→V),H a=some (.lst ((List.range n).map fun i=>V.ref (ra i)))∧(∀i,i<n→H (ra i)=some (.lst ((List.range n).map (vf i))))∧∀i j,i<n→j<n→bh B H q (vf i j) (atT ai i j).1 (atT ai i j).2:=by
 obtain ⟨vs,ea,lv,f⟩:=h;have row:∀i,i<n→∃(r:Addr) (us:List V),vs[i]?=some (.ref r)∧H r=some (.lst us)∧us.length=n∧∀j,j<n→bh B H q (us.getD j .aF) (atT ai i j).1 (atT ai i j).2:=fun i hi=>by
  have hv:i<vs.length:=by lia
  have hp:i<ai.length:=by lia
  obtain ⟨r,er,us,eu,lu,fu⟩:=f i vs[i] ai[i] (cN hv) (cN hp);have lw:=w _ (gY hp);refine ⟨r,us,by rw [cN hv,er],eu,by lia,fun j hj=>?_⟩
  have hu:j<us.length:=by lia
  have hr:j<(ai[i]).length:=by lia
  have:=fu j us[j] ai[i][j] (cN hu) (cN hr);unfold atT;rw [getD_at hp,getD_at hr,getD_at hu];exact this
 refine ⟨fun i=>if h:i<n then (row i h).choose else 0,fun i j=>if h:i<n then (row i h).choose_spec.choose.getD j .aF else .aF,?_,fun i hi=>?_,fun i j hi hj=>?_⟩
 ·rw [ea]
  congr 2
  refine eX (by simp;lia) fun i h1 h2=>?_
  have hi:i<n:=by simpa using h2
  have e:some vs[i]=some (V.ref (row i hi).choose):=(cN h1).symm.trans (row i hi).choose_spec.choose_spec.1;rw [Option.some.inj e];simp [hi]
 ·simp only [eY hi]
  have e:=(row i hi).choose_spec.choose_spec;refine e.2.1.trans ?_
  congr 2
  refine eX (by rw [bg,dj];exact e.2.2.1) fun j h1 h2=>?_
  rw [fY,gX,getD_at h1]
 ·simp only [eY hi]
  exact (row i hi).choose_spec.choose_spec.2.2.2 j hj
theorem tS{X:Nat}{v:V}{x m t u:Int}(h:bh B H q v x m)(d:q∣x*u-t*m)(nu:¬q∣u)(bt:t.natAbs≤X)(bu:u.natAbs≤X):aQ X H q v t u:=aQ.bd (B:=B) ⟨x,m,h,d,nu⟩ bt bu
end
variable {n:Nat}
theorem JH{f:Nat→Nat→Bool}:∀z∈dA n f n,0≤z.1∧z.1<z.2∧z.2<(n:Int):=fun z hz=>by obtain ⟨i,j,_,h2,h3,h4,rfl⟩:=mem_of hz;dsimp only;lia
variable {a b:Nat}
theorem JI{ai:fZ}(ha:a<n)(hb:b<n)(ab:a≠b)(h:¬aL n (dA n (cA ai) n) a b):(atT ai a b).1=0:=wO fun z=>h ⟨ha,hb,by
 have t1:nG ai a b=true:=by unfold nG;unfold atT at z;simpa using z
 rcases Nat.lt_or_gt_of_ne ab with l | l;·exact .inl (Dp l hb (by unfold cA;rw [t1];rfl) (by lia))
 ·exact .inr (Dp l ha (by unfold cA;rw [t1,Bool.or_true]) (by lia))⟩
variable {B:Nat} {H:Hp} {q x m:Int} {v:V}
theorem JJ{B':Nat}{x' m':Int}(h:bh B H q v x m)(g:bh B' H q v x' m'):x=x'∧m=m':=by
 cases h with
 | b6 e l=>
  cases g with
  | b6 e' l'=>rw [e] at e';cases e';exact ⟨rfl,rfl⟩
 | rem=>cases g;exact ⟨rfl,rfl⟩
def sL(M:aS)(o:List Nat)(n k i:Nat):Int:=aJ M (cO o (min k (o.idxOf i))) (M i) n
def sW(M:aS)(D:Nat→Int)(o:List Nat)(k i:Nat):Int:=D i*aM M (cO o (min k (o.idxOf i)))
def cE(H:Hp)(e:Addr)(n:Nat)(av:Nat→V):Prop:=H e=some (.lst ((List.range n).map av))
def TU(C:Addr):Sp:=fun vs H Q _=>∃(z wk ot d e:Addr) (q:Int) (X n:Nat) (L:cx) (o:List Nat) (M:aS) (D:Nat→Int) (rs ls:Nat→Addr) (vf:Nat→Nat→V) (g:Nat→List Nat) (av:Nat→V),vs=[.ref z,.ref wk,.ref ot,.ref d,.ref e]∧dy C H z q∧bC q∧1≤n∧n≤40∧WTab H wk n rs vf∧dr X H q n vf (sT M D o n) (sU M D o n)∧tP H ot n ls g∧(∀p,p<n→iG n o p (g p)∧hV n L o p (g p))∧H d=some (.lst (bU o))∧o.Perm (List.range n)∧cE H e n av∧(∀i,i<n→aQ X H q (av i) (M i n) (D i)) ∧
 de q M (cO o n)∧(∀i,¬q∣D i)∧(∀a b,a<n→b<n→a≠b→¬aL n L a b→M a b=0)∧1000≤X∧X≤10 ^ 100∧(∀k i j,k≤n→(sT M D o k i j).natAbs≤X∧(sU M D o k i j).natAbs≤X)∧(∀k i,k≤n→(sL M o n k i).natAbs≤X∧(sW M D o k i).natAbs≤X) ∧
 ∀(r:Addr) (lv:Nat→V) (H':Hp),ae H H'→H r=none→cE H' r n lv→(∀i,i<n→aQ X H' q (lv i) (sL M o n n i) (sW M D o n i))→Q (.ref r) H'
variable {L:cx}
theorem TV{M:aS}{D:Nat→Int}{o:List Nat}{k p:Nat}{ms:List Nat}(hq:bC q)(ho:o.Perm (List.range n))(hp:p<n)(ip:o.idxOf p=k)(gn:de q M (cO o n))
  (zero:∀a b,a<n→b<n→a≠b→¬aL n L a b→M a b=0) (gk:hV n L o p ms) :
  (∀i∈ms,Cg q ((sL M o n k i*(sU M D o n i p*sW M D o k p)-sT M D o n i p*sL M o n k p*sW M D o k i)*sW M D o (k+1) i) (sL M o n (k+1) i*(sW M D o k i*(sU M D o n i p*sW M D o k p)))) ∧
  ∀i,i<n→i∉ms→Cg q (sL M o n k i*sW M D o (k+1) i) (sL M o n (k+1) i*sW M D o k i):=by
 have lo:=eh ho;have kl:k<o.length:=by rw [←ip];exact (dE ((cB ho).mpr hp)).1
 have pk:o[k]=p:=by have:=(dE ((cB ho).mpr hp)).2;simp only [ip] at this;exact this
 have cs:cO o (k+1)=p::cO o k:=by rw [pW kl,pk]
 have g:=mj gn (show k≤n by lia)
 have xF:aM M (cO o (k+1))=aJ M (cO o k) (M p) p:=by rw [cs];rfl
 have step:∀i j,aM M (cO o (k+1))*aJ M (cO o k) (M i) j-aJ M (cO o k) (M i) p*aJ M (cO o k) (M p) j=aM M (cO o k)*aJ M (cO o (k+1)) (M i) j:=fun i j=>by rw [xF,cs];exact zS hq g p (M i) j
 have lp:sL M o n k p=aJ M (cO o k) (M p) n∧sW M D o k p=D p*aM M (cO o k):=by unfold sL sW;rw [ip,Nat.min_self];exact ⟨rfl,rfl⟩
 have lk:∀i,k<o.idxOf i→sL M o n k i=aJ M (cO o k) (M i) n∧sW M D o k i=D i*aM M (cO o k)∧sL M o n (k+1) i=aJ M (cO o (k+1)) (M i) n∧sW M D o (k+1) i=D i*aM M (cO o (k+1)):=fun i h=>by
  unfold sL sW;rw [wR (by lia),wR (by lia)]
  exact ⟨rfl,rfl,rfl,rfl⟩
 have tl:∀i,i<n→k<o.idxOf i→sT M D o n i p=aJ M (cO o k) (M i) p*D p∧sU M D o n i p=D i*aM M (cO o (k+1)):=fun i hi h=>by
  have h1:¬(n≤o.idxOf i∧n≤o.idxOf p):=by lia
  have h2:¬o.idxOf i≤o.idxOf p:=by lia
  unfold sT sU;rw [ak h1,ak h2,ak h1,ak h2,ip];exact ⟨rfl,rfl⟩
 refine ⟨fun i hi=>?_,fun i hi nm=>?_⟩
 ·have hl:=(gk i).mp hi
  rw [ip] at hl;obtain ⟨a1,a2,a3,a4⟩:=lk i hl.2.1;rw [a1,a2,a3,a4,(tl i hl.1 hl.2.1).1,(tl i hl.1 hl.2.1).2,lp.1,lp.2];have st:=step i n;generalize aJ M (cO o k) (M i) n=x at st ⊢;generalize aJ M (cO o k) (M i) p=y at st ⊢;generalize aJ M (cO o k) (M p) n=w at st ⊢;generalize aJ M (cO o (k+1)) (M i) n=x' at st ⊢;generalize aM M (cO o k)=d at st ⊢;generalize aM M (cO o (k+1))=d' at st ⊢;refine Cg.of_eq ?_;have e:(x*(D i*d'*(D p*d))-y*D p*w*(D i*d))*(D i*d')=D i*D p*d*(d'*x-y*w)*(D i*d'):=by grind
  rw [e,st];grind
 ·by_cases h:k<o.idxOf i
  ·obtain ⟨a1,a2,a3,a4⟩:=lk i h
   rw [a1,a2,a3,a4];have nc:i∉cO o k:=fun z=>by have:=((cZ ho).mp z).2;lia
   have pc:p∉cO o k:=fun z=>by have:=((cZ ho).mp z).2;lia
   have ne:i≠p:=fun z=>by rw [z] at h;lia
   have z:aJ M (cO o k) (M i) p=0:=nK hq zero g (fun c hc=>((cZ ho).mp hc).1) i p hi hp nc pc ne fun w=>nm ((gk i).mpr ⟨hi,by lia,by rw [ip];exact (w.symm zQ).mono fun x hx=>(cZ ho).mp hx⟩)
   have st:=step i n;rw [z,eW,mO] at st;exact Cg.of_eq (by grind)
  ·have e:sL M o n (k+1) i=sL M o n k i∧sW M D o (k+1) i=sW M D o k i:=by
    unfold sL sW;rw [yW (by lia),yW (by lia)]
    exact ⟨rfl,rfl⟩
   rw [e.1,e.2];exact Cg.refl _
structure DI (q:Int) (X n:Nat) (T U:aS) (g:Nat→List Nat) (ps:List Nat) (A B x y:Nat→Int) (S R:aS):Prop where
 s0:∀p∈ps,Cg q (A p*R p 0) (S p 0*B p)
 TY:∀p∈ps,∀l j,(g p)[l]?=some j→Cg q ((S p l*(U p j*y j)-T p j*x j*R p l)*R p (l+1)) (S p (l+1)*(R p l*(U p j*y j)))
 fin:∀p∈ps,Cg q (S p (g p).length*U p p*y p) (x p*(R p (g p).length*T p p))
 DJ:∀p∈ps,∀l,¬q∣R p l
 DK:∀p,¬q∣y p
 mi:∀p∈ps,¬q∣T p p
 bd:(∀p∈ps,∀l,l≤(g p).length→(S p l).natAbs≤X∧(R p l).natAbs≤X)∧∀p,(x p).natAbs≤X∧(y p).natAbs≤X
 xE:∀p,p<n→p∉ps→A p=x p∧B p=y p
def TZ(C:Addr):Sp:=fun vs H Q _=>∃(z wk ot d e:Addr) (q:Int) (X n:Nat) (ps:List Nat) (T U:aS) (rs ls:Nat→Addr) (vf:Nat→Nat→V) (g:Nat→List Nat) (av:Nat→V) (A B x y:Nat→Int) (S R:aS),vs=[.ref z,.ref wk,.ref ot,.ref d,.ref e]∧dy C H z q∧bC q∧n≤40∧WTab H wk n rs vf∧dr X H q n vf T U∧(∀i j,i<n→j<n→(T i j).natAbs≤X∧(U i j).natAbs≤X)∧tP H ot n ls g∧H d=some (.lst (bU ps))∧ps.Nodup∧(∀p∈ps,p<n∧(∀j∈g p,j<n∧j≠p))∧(∀k p,ps[k]?=some p→∀j∈g p,j∉ps.take (k+1))∧cE H e n av∧(∀i,i<n→aQ X H q (av i) (A i) (B i))∧1000≤X∧X≤10 ^ 100∧DI q X n T U g ps A B x y S R ∧
 ∀(r:Addr) (lv:Nat→V) (H':Hp),ae H H'→H r=none→cE H' r n lv→(∀i,i<n→aQ X H' q (lv i) (x i) (y i))→Q (.ref r) H'
theorem T5{l l':List Int}(p:l.Perm l'):l.sum=l'.sum:=by
 induction p with
 | nil=>rfl
 | cons x _ ih=>rw [du,du,ih]
 | swap x y l=>rw [du,du,du,du];lia
 | trans _ _ a b=>exact a.trans b
theorem xJ{F:Nat→Int}{p:Nat}:∀{C l:List Nat},C.Nodup→l.Nodup→(∀c∈l,c∈C)→(∀c∈C,c∉l→F c=0)→(C.map F).sum=(l.map F).sum
 | [],l,_,_,sub,_=>by
  cases l with
  | nil=>rfl
  | cons x r=>exact absurd (sub x (kA ..)) (by simp)
 | c::C,l,nd,nl,sub,z=>by
  rw [jC] at nd;by_cases h:c∈l
  ·have pm:=List.perm_cons_erase h
   have e:(l.map F).sum=F c+((l.erase c).map F).sum:=by rw [T5 (pm.map F),cQ,du]
   rw [cQ,du,e,xJ (p:=p) (l:=l.erase c) nd.2 (nl.erase c) (fun x hx=>?_) fun x hx nx=>?_]
   ·have:=sub x (List.mem_of_mem_erase hx)
    rcases cM.mp this with rfl | h2;·exact absurd hx (List.Nodup.not_mem_erase nl)
    ·exact h2
   ·refine z x (gT _ hx) fun hl=>nx ?_
    exact (List.mem_erase_of_ne (fun e:x=c=>nd.1 (e▸hx))).mpr hl
  ·rw [cQ,du,z c (kA ..) h,oN]
   exact xJ (p:=p) nd.2 nl (fun x hx=>(cM.mp (sub x hx)).resolve_left fun e=>h (e▸hx)) fun x hx nx=>z x (gT _ hx) nx
section
variable {q:Int} {M:aS} {D:Nat→Int} {o:List Nat} {n:Nat} {L:cx} {g:Nat→List Nat}
def rS(M:aS)(o:List Nat)(g:Nat→List Nat)(C:List Nat)(m:Nat)(a:Nat→Int)(p l:Nat):Int:=aJ M (cO o (o.idxOf p)) (M p) m*a p-(((g p).take l).map fun j=>aJ M (cO o (o.idxOf p)) (M p) j*eA M C m j).sum
theorem T6(hq:bC q)(ho:o.Perm (List.range n))(gd:de q M (cO o n))(zero:∀a b,a<n→b<n→a≠b→¬aL n L a b→M a b=0){p:Nat}(hp:p<n)(c_:iG n o p (g p)∧hV n L o p (g p)){m:Nat}(hm:m∉cO o n) :
  aJ M (cO o (o.idxOf p)) (M p) p*eA M (cO o n) m p+((g p).map fun j=>aJ M (cO o (o.idxOf p)) (M p) j*eA M (cO o n) m j).sum=aM M (cO o n)*aJ M (cO o (o.idxOf p)) (M p) m:=by
 have lo:=eh ho;have kl:=(dE ((cB ho).mpr hp)).1;have nd:(cO o n).Nodup:=by
  unfold cO;rw [mP (by lia)]
  exact (List.reverse_perm _).nodup_iff.mpr (i9 ho)
 have mem:∀c,c∈cO o n↔c<n:=fun c=>by rw [cZ ho];exact ⟨fun h=>h.1,fun h=>⟨h,by have:=(dE ((cB ho).mpr h)).1;lia⟩⟩
 have sub:∀r∈cO o (o.idxOf p),r∈cO o n:=fun r hr=>(mem r).mpr ((cZ ho).mp hr).1;have DL:(g p).Nodup:=c_.1.up.imp (fun h=>cV h);have pg:p∉g p:=fun zz=>by have:=c_.1.la p zz;lia
 rw [←Jy hq gd nd hm sub ((mem p).mpr hp),xJ (p:=p) (l:=p::g p) nd (jC.mpr ⟨pg,DL⟩) (fun c hc=>?_) fun c hc nc=>?_,cQ,du]
 ·rcases cM.mp hc with rfl | hc
  ·exact (mem _).mpr hp
  ·exact (mem _).mpr (c_.1.lt c hc)
 ·rw [cM,not_or] at nc
  have cn:=(mem c).mp hc;by_cases h:c∈cO o (o.idxOf p);·rw [zT h,eW]
  ·have ci:o.idxOf p<o.idxOf c:=by have h1:¬o.idxOf c<o.idxOf p:=fun z=>h ((cZ ho).mpr ⟨cn,z⟩);have h2:=pS ho cn hp nc.1;lia
   have pc:p∉cO o (o.idxOf p):=fun z=>by have:=((cZ ho).mp z).2;lia
   rw [nK hq zero (mj gd (by lia)) (fun c hc=>((cZ ho).mp hc).1) p c hp cn pc h (Ne.symm nc.1) fun w=>nc.2 ((c_.2 c).mpr ⟨cn,ci,w.mono fun x hx=>(cZ ho).mp hx⟩),eW]
theorem T7{X:Nat}(hq:bC q)(ho:o.Perm (List.range n))(gd:de q M (cO o n))(hD:∀i,¬q∣D i)(zero:∀a b,a<n→b<n→a≠b→¬aL n L a b→M a b=0)(c_:∀p,p<n→iG n o p (g p)∧hV n L o p (g p))
  (b1:∀p l,p<n→l≤(g p).length→(rS M o g (cO o n) n (fun _=>aM M (cO o n)) p l).natAbs≤X∧(D p*aM M (cO o (o.idxOf p))*aM M (cO o n)).natAbs≤X) (b2:∀p,(eA M (cO o n) n p).natAbs≤X∧(aM M (cO o n)).natAbs≤X) :
  DI q X n (sT M D o n) (sU M D o n) g o (sL M o n n) (sW M D o n) (eA M (cO o n) n) (fun _=>aM M (cO o n)) (rS M o g (cO o n) n fun _=>aM M (cO o n)) (fun p _=>D p*aM M (cO o (o.idxOf p))*aM M (cO o n)):=by
 have lo:=eh ho;have lt:∀{p},p∈o→p<n∧o.idxOf p<n:=fun{p} hp=>⟨(cB ho).mp hp,by have:=(dE hp).1;lia⟩
 have up:∀{p},p∈o→∀j,o.idxOf p≤o.idxOf j→sT M D o n p j=aJ M (cO o (o.idxOf p)) (M p) j∧sU M D o n p j=D p*aM M (cO o (o.idxOf p)):=fun{p} hp j h=>by
  have h1:¬(n≤o.idxOf p∧n≤o.idxOf j):=by have:=(lt hp).2;lia
  unfold sT sU;rw [ak h1,aq h,ak h1,aq h];exact ⟨rfl,rfl⟩
 have dz:∀j,j≤n→¬q∣aM M (cO o j):=fun j hj=>mh hq (mj gd hj);have lw:∀{p},p∈o→sL M o n n p=aJ M (cO o (o.idxOf p)) (M p) n∧sW M D o n p=D p*aM M (cO o (o.idxOf p)):=fun{p} hp=>by
  have:=(lt hp).2;unfold sL sW;rw [yW (by lia)]
  exact ⟨rfl,rfl⟩
 have T8:n∉cO o n:=fun z=>by have:=((cZ ho).mp z).1;lia
 refine ⟨fun p hp=>?_,fun p hp l j hj=>?_,fun p hp=>?_,fun p hp l=>?_,fun p=>dz n (aN _),fun p hp=>?_,⟨fun p hp l hl=>b1 p l (lt hp).1 hl,b2⟩,fun p hp h=>absurd ((cB ho).mpr hp) h⟩
 ·rw [(lw hp).1,(lw hp).2]
  refine Cg.of_eq ?_;unfold rS;simp;grind
 ·have jm:=gv hj
  have jl:=(c_ p (lt hp).1).1.la j jm;rw [(up hp j (by lia)).1,(up hp j (by lia)).2]
  unfold rS;rw [take_snoc hj,kI,List.sum_append,sk,List.sum_singleton];exact Cg.of_eq (by grind)
 ·rw [(up hp p (aN _)).1,(up hp p (aN _)).2]
  have T9:=T6 hq ho gd zero (lt hp).1 (c_ p (lt hp).1) T8;unfold rS;rw [kH];exact Cg.of_eq (by grind)
 ·exact e_ hq (e_ hq (hD p) (dz _ (by have:=(lt hp).2;lia))) (dz n (aN _))
 ·rw [(up hp p (aN _)).1]
  have:=dz (o.idxOf p+1) (by have:=(lt hp).2;lia)
  have kl:=(dE hp).1
  rwa [pW kl,(dE hp).2] at this
end
section
variable {q:Int} {M:aS} {D:Nat→Int} {o:List Nat} {n:Nat} {L:cx} {g:Nat→List Nat}
def dU(M:aS)(o:List Nat)(k t c:Nat):Int:=if c=t then aM M (cO o k) else if o.idxOf c<k then -eA M (cO o k) t c else 0
def mS(M:aS)(o:List Nat)(g:Nat→List Nat)(k t p l:Nat):Int:=-(((g p).take l).map fun j=>aJ M (cO o (o.idxOf p)) (M p) j*dU M o k t j).sum
variable {k t:Nat}
theorem T_(hq:bC q)(ho:o.Perm (List.range n))(ht:t<n)(it:o.idxOf t=k)(gd:de q M (cO o k))(zero:∀a b,a<n→b<n→a≠b→¬aL n L a b→M a b=0){p:Nat}(hp:p<n)(pk:o.idxOf p<k)(c_:iG n o p (g p)∧hV n L o p (g p)) :
  aJ M (cO o (o.idxOf p)) (M p) p*dU M o k t p+((g p).map fun j=>aJ M (cO o (o.idxOf p)) (M p) j*dU M o k t j).sum=0:=by
 have lo:=eh ho;have all:∀c,c∈List.range n↔c<n:=fun c=>gS;have JK:(cO o k).Nodup:=by unfold cO;exact (List.reverse_perm _).nodup_iff.mpr ((yJ k o).nodup (i9 ho))
 have tC:t∉cO o k:=fun z=>by have:=((cZ ho).mp z).2;lia
 have DL:(g p).Nodup:=c_.1.up.imp (fun h=>cV h);have pg:p∉g p:=fun zz=>by have:=c_.1.la p zz;lia
 have e1:((List.range n).map fun c=>aJ M (cO o (o.idxOf p)) (M p) c*dU M o k t c).sum=((p::g p).map fun c=>aJ M (cO o (o.idxOf p)) (M p) c*dU M o k t c).sum:=xJ (p:=p) yV (jC.mpr ⟨pg,DL⟩) (fun c hc=>(all c).mpr (by
   rcases cM.mp hc with rfl | hc;·exact hp
   ·exact c_.1.lt c hc)) fun c hc nc=>by
  rw [cM,not_or] at nc;have cn:=(all c).mp hc;by_cases h:c∈cO o (o.idxOf p);·rw [zT h,eW]
  ·have ci:o.idxOf p<o.idxOf c:=by have h1:¬o.idxOf c<o.idxOf p:=fun z=>h ((cZ ho).mpr ⟨cn,z⟩);have h2:=pS ho cn hp nc.1;lia
   have pc:p∉cO o (o.idxOf p):=fun z=>by have:=((cZ ho).mp z).2;lia
   rw [nK hq zero (mj gd (by lia)) (fun c hc=>((cZ ho).mp hc).1) p c hp cn pc h (Ne.symm nc.1) fun w=>nc.2 ((c_.2 c).mpr ⟨cn,ci,w.mono fun x hx=>(cZ ho).mp hx⟩),eW]
 have e2:((List.range n).map fun c=>aJ M (cO o (o.idxOf p)) (M p) c*dU M o k t c).sum=((t::cO o k).map fun c=>aJ M (cO o (o.idxOf p)) (M p) c*dU M o k t c).sum:=xJ (p:=p) yV (jC.mpr ⟨tC,JK⟩) (fun c hc=>(all c).mpr (by
   rcases cM.mp hc with rfl | hc;·exact ht
   ·exact ((cZ ho).mp hc).1)) fun c hc nc=>by
  rw [cM,not_or] at nc;have cn:=(all c).mp hc;have:¬o.idxOf c<k:=fun z=>nc.2 ((cZ ho).mpr ⟨cn,z⟩);unfold dU;rw [ak nc.1,ak this,iw]
 rw [←du,←cQ (f:=fun j=>aJ M (cO o (o.idxOf p)) (M p) j*dU M o k t j),←e1,e2,cQ,du];have e3:((cO o k).map fun c=>aJ M (cO o (o.idxOf p)) (M p) c*dU M o k t c).sum=-((cO o k).map fun c=>aJ M (cO o (o.idxOf p)) (M p) c*eA M (cO o k) t c).sum:=by
  have:((cO o k).map fun c=>aJ M (cO o (o.idxOf p)) (M p) c*dU M o k t c)=(cO o k).map fun c=>-1*(aJ M (cO o (o.idxOf p)) (M p) c*eA M (cO o k) t c):=jg fun c hc=>by have h1:c≠t:=fun z=>tC (z▸hc);unfold dU;rw [ak h1,aq ((cZ ho).mp hc).2];grind
  rw [this,zV];lia
 rw [e3,Jy hq gd JK tC (fun r hr=>(cZ ho).mpr ⟨((cZ ho).mp hr).1,by have:=((cZ ho).mp hr).2;lia⟩) ((cZ ho).mpr ⟨hp,pk⟩)]
 unfold dU;rw [aq rfl];grind
theorem Ua{X:Nat}(hq:bC q)(ho:o.Perm (List.range n))(ht:t<n)(it:o.idxOf t=k)(gd:de q M (cO o k))(hD:∀i,¬q∣D i)(zero:∀a b,a<n→b<n→a≠b→¬aL n L a b→M a b=0)(c_:∀p,p<n→iG n o p (g p)∧hV n L o p (g p))
  (b1:∀p l,p<n→l≤(g p).length→(mS M o g k t p l).natAbs≤X∧(D p*aM M (cO o (o.idxOf p))*aM M (cO o k)).natAbs≤X) (b2:∀p,(dU M o k t p).natAbs≤X∧(aM M (cO o k)).natAbs≤X) :
  DI q X n (sT M D o k) (sU M D o k) g (o.take k) (fun i=>if i=t then aM M (cO o k) else 0) (fun _=>aM M (cO o k)) (dU M o k t) (fun _=>aM M (cO o k)) (mS M o g k t) (fun p _=>D p*aM M (cO o (o.idxOf p))*aM M (cO o k)):=by
 have lo:=eh ho;have lt:∀{p},p∈o.take k→p<n∧o.idxOf p<k:=fun{p} hp=>(tR ho).mp hp;have up:∀{p},p∈o.take k→∀j,o.idxOf p≤o.idxOf j→sT M D o k p j=aJ M (cO o (o.idxOf p)) (M p) j∧sU M D o k p j=D p*aM M (cO o (o.idxOf p)):=fun{p} hp j h=>by
  have h1:¬(k≤o.idxOf p∧k≤o.idxOf j):=by have:=(lt hp).2;lia
  unfold sT sU;rw [ak h1,aq h,ak h1,aq h];exact ⟨rfl,rfl⟩
 have dz:∀j,j≤k→¬q∣aM M (cO o j):=fun j hj=>mh hq (mj gd hj);refine ⟨fun p hp=>?_,fun p hp l j hj=>?_,fun p hp=>?_,fun p hp l=>?_,fun p=>dz k (aN _),fun p hp=>?_,⟨fun p hp l hl=>b1 p l (lt hp).1 hl,b2⟩,fun p hp h=>⟨?_,rfl⟩⟩
 ·have:p≠t:=fun z=>by have:=(lt hp).2;rw [z] at this;lia
  unfold mS;simp [this];exact Cg.refl _
 ·have jm:=gv hj
  have jl:=(c_ p (lt hp).1).1.la j jm;rw [(up hp j (by lia)).1,(up hp j (by lia)).2]
  unfold mS;rw [take_snoc hj,kI,List.sum_append,sk,List.sum_singleton];exact Cg.of_eq (by grind)
 ·rw [(up hp p (aN _)).1,(up hp p (aN _)).2]
  have T9:=T_ (M:=M) hq ho ht it gd zero (lt hp).1 (lt hp).2 (c_ p (lt hp).1);unfold mS;rw [kH];exact Cg.of_eq (by grind)
 ·exact e_ hq (e_ hq (hD p) (dz _ (by have:=(lt hp).2;lia))) (dz k (aN _))
 ·rw [(up hp p (aN _)).1]
  have:=dz (o.idxOf p+1) (by have:=(lt hp).2;lia)
  have pm:p∈o:=List.mem_of_mem_take hp;have kl:=(dE pm).1
  rwa [pW kl,(dE pm).2] at this
 ·have:¬o.idxOf p<k:=fun z=>h ((tR ho).mpr ⟨hp,z⟩)
  unfold dU;by_cases e:p=t;·rw [aq e,aq e]
  ·rw [ak e,ak e,ak this]
end
def Ub(C:Addr):Sp:=fun vs H Q _=>∃(z wk ot d:Addr) (q:Int) (X n k t:Nat) (L:cx) (o:List Nat) (M:aS) (D:Nat→Int) (rs ls:Nat→Addr) (vf:Nat→Nat→V) (g:Nat→List Nat),vs=[.ref z,.ref wk,.ref ot,.ref d,.int ((k:Int)+1)]∧dy C H z q∧bC q∧n≤40∧WTab H wk n rs vf∧dr X H q n vf (sT M D o k) (sU M D o k)∧tP H ot n ls g∧(∀p,p<n→iG n o p (g p)∧hV n L o p (g p))∧H d=some (.lst (bU o))∧o.Perm (List.range n)∧t<n∧o.idxOf t=k∧de q M (cO o k)∧(∀i,¬q∣D i)∧(∀a b,a<n→b<n→a≠b→¬aL n L a b→M a b=0)∧1000≤X∧X≤10 ^ 100∧(∀k i j,k≤n→(sT M D o k i j).natAbs≤X∧(sU M D o k i j).natAbs≤X) ∧
 (∀p l,p<n→l≤(g p).length→(mS M o g k t p l).natAbs≤X∧(D p*aM M (cO o (o.idxOf p))*aM M (cO o k)).natAbs≤X)∧(∀p,(dU M o k t p).natAbs≤X∧(aM M (cO o k)).natAbs≤X) ∧
 ∀(r:Addr) (lv:Nat→V) (H':Hp),ae H H'→H r=none→cE H' r n lv→(∀i,i<n→aQ X H' q (lv i) (dU M o k t i) (aM M (cO o k)))→Q (.ref r) H'
structure DM (q:Int) (n X:Nat) (H:Hp) (e:Addr) (av:Nat→V) (o:List Nat) (M:aS) (D:Nat→Int):Prop where
 row:cE H e n av
 mm:∀i,i<n→aQ X H q (av i) (M i n) (D i)
 bl:∀k i,k≤n→(sL M o n k i).natAbs≤X∧(sW M D o k i).natAbs≤X
 bo:∀(g:Nat→List Nat),(∀p,p<n→(g p).length≤n)→∀p l,p<n→l≤(g p).length→(rS M o g (cO o n) n (fun _=>aM M (cO o n)) p l).natAbs≤X∧(D p*aM M (cO o (o.idxOf p))*aM M (cO o n)).natAbs≤X
 bc:∀p,(eA M (cO o n) n p).natAbs≤X∧(aM M (cO o n)).natAbs≤X
 bt:∀(g:Nat→List Nat),(∀p,p<n→(g p).length≤n)→∀k t p l,k<n→p<n→l≤(g p).length→(mS M o g k t p l).natAbs≤X∧(D p*aM M (cO o (o.idxOf p))*aM M (cO o k)).natAbs≤X
 bm:∀k t p,k<n→(dU M o k t p).natAbs≤X∧(aM M (cO o k)).natAbs≤X
def Uc(C:Addr):Sp:=fun vs H Q _=>∃(z a d e:Addr) (q:Int) (B X n:Nat) (ai:fZ) (o:List Nat) (M:aS) (D:Nat→Int) (av:Nat→V),vs=[.ref z,.ref a,.ref d,.ref e]∧dy C H z q∧bC q∧iF B H q a ai∧B≤10 ^ 100∧ai.length=n∧1≤n∧n≤40∧(∀ps∈ai,ps.length=n)∧H d=some (.lst (bU o))∧o.Perm (List.range n)∧xI q n X ai o M D∧DM q n X H e av o M D ∧
 (∀(k:Nat) (hk:k<o.length),de q M (cO o k)→q∣aJ M (cO o k) (M o[k]) o[k]→∀(tp r:Addr) (lv:Nat→V) (H':Hp),ae H H'→H r=none→H tp=none→H' tp=some (.tup [.str (Str.ofString "stops"),.int ((k:Int)+1),.ref r])→cE H' r n lv→(∀i,i<n→aQ X H' q (lv i) (dU M o k o[k] i) (aM M (cO o k)))→Q (.ref tp) H') ∧
 (de q M (cO o n)→∀(tp r:Addr) (lv:Nat→V) (g:Nat→List Nat) (H':Hp),ae H H'→H r=none→H tp=none→(∀p,p<n→iG n o p (g p)∧hV n (dA n (cA ai) n) o p (g p))→H' tp=some (.tup [.str (Str.ofString "one"),.ref r,.int (DF n g:Int)])→cE H' r n lv→(∀i,i<n→aQ X H' q (lv i) (eA M (cO o n) n i) (aM M (cO o n)))→Q (.ref tp) H')
variable {te:TE} {σ:St}
theorem Ud{r:List V→Hp→VK→Prop}{tr:TA}{Q:List V→Hp→Prop}(h:te σ H fun x H1=>r [x] H1 fun y H2=>tr σ H2 fun ys H3=>Q (y::ys) H3):lZ (zg r (lZ te jN)) tr σ H Q:=h
theorem DN:∀n,1≤gM n
 | 0=>aN _
 | n+1=>by have:=DN n;show 1≤(n+1)*gM n;exact a8 this (jH _ (by lia))
theorem Ue(h:a≤b):gM a≤gM b:=by
 induction b with
 | zero=>rw [show a=0 by lia];exact aN _
 | succ b ih=>
  by_cases e:a=b+1;·rw [e];exact aN _
  ·refine a8 (ih (by lia)) ?_
   show gM b≤(b+1)*gM b;exact jH _ (by lia)
def dG(n B:Nat):Nat:=gM (n+2)*B ^ (n+2)
def df(n B:Nat):Nat:=(n+1)*(B*(dG n B*dG n B))
section
variable {q:Int} {M:aS} {D:Nat→Int} {o:List Nat} {n B:Nat}
theorem z6(b1:1≤B){m:Nat}(h:m≤n+2):gM m*B ^ m≤dG n B:=gz (Ue h) (Nat.pow_le_pow_right b1 h)
theorem JL(b1:1≤B):1≤dG n B:=Nat.mul_pos (DN _) (Nat.pow_pos b1)
theorem DO(lo:o.length=n)(k:Nat):(cO o k).length≤n:=by unfold cO;rw [List.length_reverse,jc];lia
theorem mq(b1:1≤B)(hM:∀i k,(M i k).natAbs≤B)(lo:o.length=n)(k i j:Nat):(aJ M (cO o k) (M i) j).natAbs≤dG n B:=a8 (Tq hM (hM i)) (z6 b1 (by have:=DO lo k;lia))
theorem iI(b1:1≤B)(hM:∀i k,(M i k).natAbs≤B)(lo:o.length=n)(k:Nat):(aM M (cO o k)).natAbs≤dG n B:=a8 (Tr hM) (z6 b1 (by have:=DO lo k;lia))
theorem z7(b1:1≤B)(hM:∀i k,(M i k).natAbs≤B)(lo:o.length=n)(k m c:Nat):(eA M (cO o k) m c).natAbs≤dG n B:=a8 (Ts b1 hM) (z6 b1 (by have:=DO lo k;lia))
theorem lF(b1:1≤B):dG n B≤df n B:=by unfold df;refine a8 (jH (dG n B) (JL (n:=n) b1)) ?_;refine a8 (jH _ b1) (jH _ (by lia))
theorem pX(b1:1≤B){a b:Int}(ha:a.natAbs≤dG n B)(hb:b.natAbs≤B):(a*b).natAbs≤df n B∧(b*a).natAbs≤df n B:=by
 have h:(a*b).natAbs≤df n B:=by rw [fK];unfold df;refine a8 (gz ha hb) ?_;rw [Nat.mul_comm];refine a8 (Nat.mul_le_mul_left B (jH (dG n B) (JL (n:=n) b1))) (jH _ (by lia))
 exact ⟨h,by rw [dM];exact h⟩
theorem JM(b1:1≤B){a b c:Int}(ha:a.natAbs≤B)(hb:b.natAbs≤dG n B)(hc:c.natAbs≤dG n B):(a*b*c).natAbs≤df n B:=by rw [fK,fK,Nat.mul_assoc];unfold df;exact a8 (gz ha (gz hb hc)) (jH _ (by lia))
theorem JN{F:Nat→Int}{Z:Nat}(h:∀j,(F j).natAbs≤Z):∀l:List Nat,((l.map F).sum).natAbs≤l.length*Z
 | []=>by simp
 | x::l=>by rw [cQ,du,eK,Nat.succ_mul];have:=JN h l;have:=h x;lia
theorem JO(b1:1≤B){F:Nat→Int}{l:List Nat}(hl:l.length≤n)(h:∀j,(F j).natAbs≤dG n B*dG n B){a:Int}(ha:a.natAbs≤dG n B*dG n B):(a-(l.map F).sum).natAbs≤df n B:=by have h1:=JN h l;have h2:l.length*(dG n B*dG n B)≤n*(dG n B*dG n B):=Nat.mul_le_mul_right _ hl;have h3:(n+1)*(dG n B*dG n B)≤df n B:=Nat.mul_le_mul_left _ (jH _ b1);rw [Nat.succ_mul] at h3;lia
theorem DP{a b:Int}{F:Nat}(ha:a.natAbs≤F)(hb:b.natAbs≤F):(a*b).natAbs≤F*F:=by rw [fK];exact gz ha hb
theorem Ug(b1:1≤B)(hM:∀i k,(M i k).natAbs≤B)(hD:∀i,(D i).natAbs≤B)(lo:o.length=n)(k i j:Nat):(sT M D o k i j).natAbs≤df n B∧(sU M D o k i j).natAbs≤df n B:=by
 constructor
 ·unfold sT
  split
  ·exact a8 (mq b1 hM lo _ _ _) (lF b1)
  ·split
   ·exact a8 (mq b1 hM lo _ _ _) (lF b1)
   ·exact (pX b1 (mq b1 hM lo _ _ _) (hD j)).1
 ·unfold sU
  split
  ·exact (pX b1 (iI b1 hM lo _) (hD i)).2
  ·split <;> exact (pX b1 (iI b1 hM lo _) (hD i)).2
theorem Uh{e:Addr}{av:Nat→V}{Y:Nat}(b1:1≤B)(hM:∀i k,(M i k).natAbs≤B)(hD:∀i,(D i).natAbs≤B)(lo:o.length=n)(row:cE H e n av)(w:∀i,i<n→aQ Y H q (av i) (M i n) (D i)):DM q n (df n B) H e av o M D:=by
 have bB:B≤dG n B:=by
  have:=z6 (n:=n) b1 (show 1≤n+2 by lia)
  rw [Nat.pow_one] at this;exact a8 (by show B≤gM 1*B;exact jH _ (DN 1)) this
 have bX:=a8 bB (lF (n:=n) b1);refine ⟨row,fun i hi=>(w i hi).bd (a8 (hM i n) bX) (a8 (hD i) bX),fun k i _=>⟨?_,?_⟩,fun g hg p l hp hl=>⟨?_,?_⟩,fun p=>⟨?_,?_⟩,fun g hg k t p l _ hp hl=>⟨?_,?_⟩,fun k t p _=>⟨?_,?_⟩⟩;·exact a8 (mq b1 hM lo _ _ _) (lF b1)
 ·exact (pX b1 (iI b1 hM lo _) (hD i)).2
 ·unfold rS
  exact JO b1 (by rw [jc];have:=hg p hp;lia) (fun j=>DP (mq b1 hM lo _ _ _) (z7 b1 hM lo _ _ _)) (DP (mq b1 hM lo _ _ _) (iI b1 hM lo _))
 ·exact JM b1 (hD p) (iI b1 hM lo _) (iI b1 hM lo _)
 ·exact a8 (z7 b1 hM lo _ _ _) (lF b1)
 ·exact a8 (iI b1 hM lo _) (lF b1)
 ·have mv:∀j,(dU M o k t j).natAbs≤dG n B:=fun j=>by
   unfold dU
   split
   ·exact iI b1 hM lo _
   ·split
    ·rw [sj];exact z7 b1 hM lo _ _ _
    ·exact b_ _
  unfold mS;have:=JO (n:=n) b1 (l:=(g p).take l) (a:=0) (by rw [jc];have:=hg p hp;lia) (fun j=>DP (mq b1 hM lo (o.idxOf p) p j) (mv j)) (b_ _)
  rwa [Int.zero_sub] at this
 ·exact JM b1 (hD p) (iI b1 hM lo _) (iI b1 hM lo _)
 ·unfold dU
  split
  ·exact a8 (iI b1 hM lo _) (lF b1)
  ·split
   ·rw [sj];exact a8 (z7 b1 hM lo _ _ _) (lF b1)
   ·exact b_ _
 ·exact a8 (iI b1 hM lo _) (lF b1)
theorem Ui{ai:fZ}(b1:1≤B)(hM:∀i k,(M i k).natAbs≤B)(hD:∀i,(D i).natAbs≤B)(lo:o.length=n)(w:∀i j,i<n→j<n→q∣(atT ai i j).1*D i-M i j*(atT ai i j).2)(dn:∀i,¬q∣D i)(zero:∀i j,i<n→j<n→(atT ai i j).1=0→M i j=0)(x1:1000≤df n B)(Uj:df n B≤10 ^ 100):xI q n (df n B) ai o M D:=
 ⟨w,dn,zero,fun k i j _=>Ug b1 hM hD lo k i j,x1,Uj⟩
end
theorem Uk(x y:Int):x=x.fmod y+y*x.fdiv y:=by have:=Int.mul_fdiv_add_fmod x y;lia
theorem JP(x y:Int):Int.gcd y (x.fmod y)=Int.gcd x y:=by
 have e:=Uk x y;have e2:x.fmod y=x-y*x.fdiv y:=by lia
 refine Nat.dvd_antisymm (Int.ofNat_dvd.mp (Int.dvd_coe_gcd ?_ (kG ..))) (Int.ofNat_dvd.mp (Int.dvd_coe_gcd (jD ..) ?_))
 ·have:=Int.dvd_add (jD y (x.fmod y)) (B1 (c:=x.fdiv y) (kG y (x.fmod y)))
  rwa [←e] at this
 ·have:=Int.dvd_sub (kG x y) (B1 (c:=x.fdiv y) (jD x y))
  rwa [←e2] at this
theorem Ul{y:Int}(h:y≠0):(x.fmod y).natAbs<y.natAbs:=by
 have h1:=gw x h;have h2:x % y<(y.natAbs:Int):=Int.emod_lt x h;rw [Int.fmod_eq_emod]
 split
 ·lia
 ·rename_i hn
  rw [not_or] at hn;have:x % y≠0:=fun z=>hn.2 (BZ z);lia
def Um:Sp:=fun vs H Q _=>∃a b:Int,vs=[.int a,.int b]∧Q (.int (Int.gcd a b:Int)) H
def Uo:Sp:=fun vs H Q _=>∃c p:Int,vs=[.int c,.int p]∧2≤p∧p≤997∧gK p=true∧¬p∣c∧∀(r:Int) (H':Hp),ae H H'→0≤r→r<p→p∣r*c-1→Q (.int r) H'
def gq(H:Hp)(td:Addr)(q:Int):Prop:=(q=0∧H td=some (.tup [sV "fractions"]))∨(q≠0∧H td=some (.tup [sV "wheel",.int q]))
variable {H':Hp} {td:Addr}
theorem gq.mono(h:gq H td q)(s:ae H H'):gq H' td q:=h.imp (fun h=>⟨h.1,s _ _ h.2⟩) fun h=>⟨h.1,s _ _ h.2⟩
def Up:Sp:=fun vs H Q _=>∃(td:Addr) (q a b:Int) (Y:Nat),vs=[.ref td,.int a,.int b]∧gq H td q∧bC q∧¬q∣b∧a.natAbs≤Y∧b.natAbs≤Y∧Y≤10 ^ 300∧∀(v:V) (H':Hp),ae H H'→aQ Y H' q v a b→Q v H'
theorem Uq{a b:Int}(hb:b≠0)(s:Int)(hs:s=if b<0 then -1 else 1):b8 ((s*a).fdiv (Int.gcd a b:Int)) ((s*b).fdiv (Int.gcd a b:Int))∧(s*a).fdiv (Int.gcd a b:Int)*b=a*(s*b).fdiv (Int.gcd a b:Int):=by
 have gp:0<Int.gcd a b:=Int.gcd_pos_of_ne_zero_right a hb;obtain ⟨x,hx⟩:=kG a b;obtain ⟨y,hy⟩:=jD a b;generalize hg:Int.gcd a b=g at gp hx hy ⊢;have g0:(g:Int)≠0:=by lia
 have e1:(s*a).fdiv (g:Int)=s*x:=by
  rw [hx,show s*((g:Int)*x)=(g:Int)*(s*x) by grind]
  exact Int.mul_fdiv_cancel_left _ g0
 have e2:(s*b).fdiv (g:Int)=s*y:=by
  rw [hy,show s*((g:Int)*y)=(g:Int)*(s*y) by grind]
  exact Int.mul_fdiv_cancel_left _ g0
 rw [e1,e2];have fT:Int.gcd x y=1:=by have:=Int.gcd_mul_left (g:Int) x y;rw [←hx,←hy,hg,wL] at this;exact Nat.eq_of_mul_eq_mul_left gp (by lia)
 have ss:s=1∨s=-1:=by rw [hs];split <;> simp
 refine ⟨⟨?_,?_⟩,by rw [hx,hy];grind⟩
 ·have hy':(g:Int)*y<0∨0<(g:Int)*y:=by lia
  have ys:(b<0→y<0)∧(¬b<0→0<y):=by
   constructor
   ·intro h
    refine wO fun z=>?_;have:0≤(g:Int)*y:=Int.mul_nonneg (by lia) (by lia)
    lia
   ·intro h
    refine wO fun z=>?_;have:(g:Int)*y≤0:=Int.mul_nonpos_of_nonneg_of_nonpos (by lia) (by lia)
    lia
  rw [hs]
  split
  ·rename_i h
   have:=ys.1 h;lia
  ·rename_i h
   have:=ys.2 h;lia
 ·rcases ss with h | h
  ·rw [h,oM,oM]
   exact fT
  ·rw [h,show (-1:Int)*x=-x by lia,show (-1:Int)*y=-y by lia,Int.gcd_neg,Int.neg_gcd]
   exact fT
def Ur:Sp:=fun vs H Q _=>∃(td:Addr) (q:Int),vs=[.ref td]∧gq H td q∧bC q∧∀(v:V) (H':Hp),ae H H'→bh 1000 H' q v 0 1→Q v H'
variable {Y:Nat}
theorem Us(hq:bC q)(h:aQ Y H q v 0 1)(y:1≤Y):bh 1000 H q v 0 1:=by
 obtain ⟨x,m,h1,h2⟩:=(zX hq h).mp (oP q);subst h2;have hb:aQ 1000 H q v 0 1:=h.bd (by decide) (by decide)
 obtain ⟨x',m',g1,g2,g3⟩:=hb;obtain ⟨e1,e2⟩:=JJ h1 g1;subst e1;cases g1 with
 | b6 e l bx bm=>
  have:=l.fT;rw [Int.gcd_zero_left] at this;have:=l.pos;have:m'=1:=by lia
  subst this;exact .b6 e l bx bm
 | rem a b c=>exact .rem a b c
def Ut:Sp:=fun vs H Q _=>∃(td T:Addr) (q:Int),vs=[.ref td,.ref T]∧gq H td q∧bC q∧a7 H T∧∀(v:V) (x m:Int) (H':Hp),aG T H H'→a7 H' T→bh 1000 H' q v x m→(q=0→x.natAbs≤3∧m∣6)→Q v H'
variable {T:Addr}
theorem gq.off(h:gq H td q)(o:aG T H H')(t:a7 H T):gq H' td q:=by
 obtain ⟨x,ex⟩:=t;have ne:∀{xs},H td=some (.tup xs)→td≠T:=fun{xs} e z=>by rw [z,ex] at e;cases e
 exact h.imp (fun h=>⟨h.1,o _ _ (ne h.2) h.2⟩) fun h=>⟨h.1,o _ _ (ne h.2) h.2⟩
theorem JQ{a b:Int}(h:aQ Y H q v a b)(ha:a.natAbs≤1000)(hb:b.natAbs≤1000)(q0:q=0):∃x m,bh 1000 H q v x m∧x.natAbs≤a.natAbs∧m∣b:=by
 have h2:aQ a.natAbs H q v a b∨True:=.inr trivial;obtain ⟨x,m,g1,g2,g3⟩:=h.bd (Y:=1000) ha hb;subst q0;refine ⟨x,m,g1,?_,?_⟩
 ·cases g1 with
  | b6 e l bx bm=>
   have e0:=jf.mp g2;have U0:b≠0:=fun z=>g3 (by rw [z];exact iQ 0)
   by_cases up:0<b;·exact (zD l up (show x*b=a*m by lia)).2
   ·have:=zD l (show 0 < -b by lia) (show x * -b=-a*m by rw [mM,Int.neg_mul];lia)
    rw [sj] at this;exact this.2
  | rem _ _ _=>lia
 ·cases g1 with
  | b6 e l bx bm=>have e0:=jf.mp g2;exact R6 l (show x*b=a*m by lia)
  | rem _ _ _=>lia
def Uu:Sp:=fun vs H Q _=>∃T:Addr,vs=[.ref T]∧a7 H T∧∀(td:Addr) (q:Int) (H':Hp),aG T H H'→a7 H' T→gq H' td q→bC q→Q (.ref td) H'
def DQ(w:Int):Bool:=[0,2,3,5,7,997,97,13,11].contains w
theorem Uv{w:Int}(h:DQ w=true):bC w:=by unfold DQ at h;simp at h;rcases h with h | h | h | h | h | h | h | h | h <;> subst h <;> (unfold bC;decide +kernel)
theorem Uw{wi:TI}{ρ:St→St}{Q:VK}(hn:n<sizeLine)(hT:a7 H T)(jY:∀R:It→Hp→Prop,R (lV 0 n) H→wi σ H R)(Pr:Addr→Nat→V→Hp→Prop)
  (mono:∀D i y Ha Hb ys,Pr D i y Ha→a7 Ha T→Ha D=some (.lst ys)→(∀b o,b≠T→b≠D→Ha b=some o→Hb b=some o)→Pr D i y Hb)
  (step:∀(D:Addr) (i:Nat),i<n→∀(Hc:Hp) (R:VK),aG T H Hc→a7 Hc T→(∃ys,Hc D=some (.lst ys))→D≠T→H D=none→(∀y H3,aG T Hc H3→a7 H3 T→Pr D i y H3→R y H3)→te (some (.int (0+(i:Int)))::ρ σ) Hc R)
  (fin:∀(D:Addr) (ys:List V) (Hc:Hp),D≠T→H D=none→aG T H Hc→a7 Hc T→ys.length=n→(∀(i:Nat) (y:V),ys[i]?=some y→Pr D i y Hc)→Hc D=some (.lst ys)→Q (.ref D) Hc):jS wi ρ (fun _ H Q=>Q true H) te σ H Q:=by
 refine jY _ ?_;intro D nD;have nP:=hT.ne nD;have up:∀{Hc:Hp} {o:HO},a7 Hc T→a7 (L2.upd Hc D o) T:=fun⟨x,e⟩=>⟨x,(aO (Ne.symm nP)).trans e⟩;have off:∀{Hc:Hp} {o:HO},aG T H Hc→aG T H (L2.upd Hc D o):=fun h b u ne e=>(aO (fun z=>by rw [z,nD] at e;cases e)).trans (h b u ne e)
 refine ⟨fun i m ys Hc=>m=n-i∧i≤n∧Hc D=some (.lst ys)∧aG T H Hc∧a7 Hc T∧ys.length=i∧∀j y,ys[j]?=some y→Pr D j y Hc,⟨_,rfl,b_ _,au,off (aG.refl T H),up hT,rfl,fun j y e=>by simp at e⟩,?_⟩
 rintro i m ys Hc ⟨rfl,hi,eD,sH,pc,el,hP⟩;refine ⟨eD,?_⟩;by_cases bP:i<n
 ·refine .inr ⟨bP,fun x H' hy=>?_⟩
  obtain ⟨rfl,rfl⟩:=hy;rw [aq rfl];refine step D i bP _ _ sH pc ⟨_,eD⟩ nP nD fun y H3 s3 p3 hp=>?_;have e3:=s3 _ _ nP eD;refine ⟨e3,by lia,n-(i+1),by lia,rfl,bP,au,off (sH.trans s3),up p3,by simp [el],fun j y' e=>?_⟩
  by_cases hj:j<i;·exact mono D j y' _ _ _ (mono D j y' _ _ _ (hP j y' (by rw [mI (by lia)] at e;exact e)) pc eD fun b o n1 n2 e=>s3 b o n1 e) p3 e3 fun b o n1 n2 e=>(aO n2).trans e
  ·have hj:j=i:=by have:=(bV.mp e).1;simp at this;lia
   subst hj;have e':y'=y:=by rw [mH (by lia),el,Nat.sub_self] at e;simpa using e.symm
   subst e';exact mono D j y' _ _ _ hp p3 e3 fun b o n1 n2 e=>(aO n2).trans e
 ·have e:i=n:=by lia
  subst e;exact .inl ⟨aN _,fin D ys Hc nP nD sH pc el hP eD⟩
theorem bh.off{D:Addr}{ys:List V}(h:bh B H q v x m)(t:a7 H T)(e:H D=some (.lst ys))(k:∀b o,b≠T→b≠D→H b=some o→H' b=some o):bh B H' q v x m:=by
 obtain ⟨z,ez⟩:=t;cases h with
 | b6 ep l bx bm=>exact .b6 (k _ _ (fun zz=>by rw [zz,ez] at ep;cases ep) (fun zz=>by rw [zz,e] at ep;cases ep) ep) l bx bm
 | rem a b c=>exact .rem a b c
def lG(q x m:Int):Prop:=q=0→x.natAbs≤3∧m∣6
def Ux:Sp:=fun vs H Q _=>∃(td T:Addr) (q:Int) (n:Nat),vs=[.ref td,.ref T,.int (n:Int)]∧gq H td q∧bC q∧a7 H T∧n≤60∧∀(D:Addr) (ps:cx) (H':Hp),aG T H H'→a7 H' T→H D=none→tG 1000 H' q D ps→ps.length=n→(∀p∈ps,lG q p.1 p.2)→Q (.ref D) H'
def Uy:Sp:=fun vs H Q _=>∃(T:Addr) (n:Nat),vs=[.ref T,.int (n:Int)]∧a7 H T∧n≤20∧∀(D:Addr) (us:List V) (L:cx) (H':Hp),aG T H H'→a7 H' T→H D=none→H' D=some (.lst us)→dD H' us L→(∀z∈L,0≤z.1∧z.1<z.2∧z.2<(n:Int))→L.length≤400→Q (.ref D) H'
theorem dD.fV{us:List V}(h:dD H us L)(t:a7 H T)(o:aG T H H'):dD H' us L:=by obtain ⟨z,ez⟩:=t;refine ⟨h.1,fun k v p h1 h2=>?_⟩;obtain ⟨b,e1,e2⟩:=h.2 k v p h1 h2;exact ⟨b,e1,o b _ (fun zz=>by rw [zz,ez] at e2;cases e2) e2⟩
section
variable {q:Int} {M N N':aS} {D:Nat→Int}
end
structure gP (H:Hp) (a:Addr) (n m:Nat) (ra:Nat→Addr) (vf:Nat→Nat→V):Prop where
 lst:H a=some (.lst ((List.range n).map fun i=>V.ref (ra i)))
 at':∀i,i<n→H (ra i)=some (.lst ((List.range m).map (vf i)))
theorem gP.mono{a:Addr}{m:Nat}{ra:Nat→Addr}{vf:Nat→Nat→V}(h:gP H a n m ra vf)(s:ae H H'):gP H' a n m ra vf:=⟨s _ _ h.lst,fun i hi=>s _ _ (h.at' i hi)⟩
section
variable {q:Int} {M:aS} {o:List Nat} {n k:Nat}
end
def j4(H:Hp)(q:Int)(n:Nat)(vf:Nat→Nat→V):Prop:=∀i j,i<n→j<n→∃x m,bh 1000 H q (vf i j) x m∧lG q x m
theorem bh.fV(h:bh B H q v x m)(t:a7 H T)(o:aG T H H'):bh B H' q v x m:=by
 obtain ⟨z,ez⟩:=t;cases h with
 | b6 ep l bx bm=>exact .b6 (o _ _ (fun zz=>by rw [zz,ez] at ep;cases ep) ep) l bx bm
 | rem a b c=>exact .rem a b c
theorem Uz(hq:bC q)(h:aQ Y H q v 1 1):∃x m,bh 1000 H q v x m∧lG q x m:=by
 by_cases q0:q=0
 ·obtain ⟨x,m,g1,g2,g3⟩:=JQ h (by decide) (by decide) q0
  exact ⟨x,m,g1,fun _=>⟨a8 g2 (by decide),jE g3 (by decide)⟩⟩
 ·obtain ⟨x,m,g1,_⟩:=h.bd (Y:=1000) (by decide) (by decide)
  exact ⟨x,m,g1,fun z=>absurd z q0⟩
def UA:Sp:=fun vs H Q _=>∃(td T lk:Addr) (q:Int) (n:Nat) (us:List V) (L:cx),vs=[.ref td,.ref T,.int (n:Int),.ref lk]∧gq H td q∧bC q∧a7 H T∧n≤60∧lk≠T∧H lk=some (.lst us)∧dD H us L∧(∀z∈L,0≤z.1∧z.1<z.2∧z.2<(n:Int)) ∧
 ∀(D:Addr) (rs:Nat→Addr) (vf:Nat→Nat→V) (H':Hp),aG T H H'→a7 H' T→H D=none→(∀i,i<n→H (rs i)=none)→WTab H' D n rs vf→j4 H' q n vf→Q (.ref D) H'
section
variable {q:Int} {B X n m k b:Nat} {N N0:aS} {E:Nat→Int} {H H':Hp} {vf:Nat→Nat→V}
end
end My
namespace L2
open PySem PySem.Spec PyProof.Rows
section
variable {X:Cx} {tg:Expr}
def tT(c lo:Int)(n:Nat):It:=⟨fun i _=>i<n,fun i H x H'=>H'=H∧x=.int (lo+i*c),fun i _=>n≤i⟩
theorem UB{P:Program}{w:World}{K:aD}(it:Addr)(c lo:Int)(n:Nat):Turn P w K tg (tT c lo n) [it] it (fun i h=>IsRangeIter h it (lo+(i:Nat)*c) ((n:Int)-(i:Nat)) c) where
 mem:=by simp
 obj:=fun i h st b hb=>by
  have e:b=it:=by simpa using hb
  subst e;exact ⟨_,st,fun v z=>by have z':Data.fields _=Data.cell v:=z;cases z'⟩
 keep:=fun i h h' st k=>k it (by simp) _ st
 item:=by
  intro X hP hw hK hc i pins s σ H E I hf st hg;subst hP hw hK;obtain ⟨f0,f1,f2,f3,f4,f5⟩:=hf it (by simp)
  have W:=Walks.range (prog:=X.prog) (w:=X.w) (I.ok.hd hc) it lo c n;refine W.item i s _ _ hg st fun v h' tk hv f_ kk=>?_;obtain ⟨t,rfl⟩:=hv;have I1:Inv X pins σ H {s with heap:=h',toks:=tk}:=I.turned (fun b o hb e=>kk b o (by simpa using hb) e) f0 f1 f3 f4 f5
  refine ⟨_,rfl,sG (s:={s with heap:=h',toks:=tk}) (n:="range_iterator") f_ rfl rfl (by decide) ⟨.int (lo+i*c),H,I1,⟨t,rfl⟩,⟨rfl,rfl⟩,f_,fun b hb=>(hf b hb).1⟩⟩
 done:=by
  intro X hP hw hK hc i pins s σ H E I hf st hg;subst hP hw hK;obtain ⟨f0,f1,f2,f3,f4,f5⟩:=hf it (by simp)
  exact wpAny_pyNext_range_end (I.ok.hd hc) st (by have:n≤i:=hg;lia) fun h' eb=>⟨rfl,I.turned (t':=s.toks) (fun b o hb e=>eb b o hb e) f0 f1 f3 f4 f5⟩
 self:=fun _ _ _ _ _ st h=>wpAny_pyIter_rangeiter st h
variable {σ:St} {H:Hp} {c lo:Int}
theorem UC{pins:aU}{s:Shared}{R:It→Hp→Prop}{E:aR}{hi:Int}(c0:0<c){t u v:Tok}{tk:Nat}(I:Inv X pins σ H s)(UD:Builtin.Range.small lo hi c=true)
  (q:R (tT c lo (Builtin.Range.rangeSize lo hi c).toNat) H):wpAny (model X.prog X.w) X.A (pyIter (.ref s.heap.objs.size)) (za X pins σ tg R) E {s with heap:=s.heap.push {cls:=.type "range",data:=.fields #[.int lo t,.int hi u,.int c v]},toks:=tk}:=by
 refine wpAny_pyIter_range (IsRange.new ..) UD ?_;have I1:Inv X pins σ H {s with heap:=s.heap.push {cls:=.type "range",data:=.fields #[.int lo t,.int hi u,.int c v]},toks:=tk}:=I.kept fun b o e=>cu _ e
 refine ⟨(s.heap.push {cls:=.type "range",data:=.fields #[.int lo t,.int hi u,.int c v]}).objs.size,[(s.heap.push {cls:=.type "range",data:=.fields #[.int lo t,.int hi u,.int c v]}).objs.size],_,_,H,rfl,
  I1.kept (t':=tk) fun b o e=>cu _ e,UB _ c lo (Builtin.Range.rangeSize lo hi c).toNat,?_,fun b hb=>?_,q⟩
 ·have e1:lo+((0:Nat):Int)*c=lo:=by simp
  have e2:(((Builtin.Range.rangeSize lo hi c).toNat:Nat):Int)-((0:Nat):Int)=Builtin.Range.rangeSize lo hi c:=by
   have:0≤Builtin.Range.rangeSize lo hi c:=by
    unfold Builtin.Range.rangeSize;rw [aq c0]
    split
    ·have:=yX (show 0≤hi-lo-1 by lia) (Int.le_of_lt c0)
     lia
    ·lia
   lia
  show IsRangeIter _ _ (lo+((0:Nat):Int)*c) ((((Builtin.Range.rangeSize lo hi c).toNat:Nat):Int)-((0:Nat):Int)) c;rw [e1,e2];exact eJ _ rfl
 ·have e:b=(s.heap.push {cls:=.type "range",data:=.fields #[.int lo t,.int hi u,.int c v]}).objs.size:=by simpa using hb
  subst e;exact I1.oW (aN _) (I1.ay.fresh (aN _))
theorem UE{a b:Int}(c0:0<c)(c1:c≤1000)(h1:-(2 ^ 61)≤a)(h2:a<2 ^ 61)(h3:-(2 ^ 61)≤b)(h4:b<2 ^ 61):Builtin.Range.small a b c=true:=by
 have f:∀{x:Int},-(2 ^ 63)≤x→x<2 ^ 63→Builtin.Range.rangeFitsLong x=true:=fun{x} h1 h2=>by unfold Builtin.Range.rangeFitsLong;simp;lia
 have e:0≤Builtin.Range.rangeSize a b c∧Builtin.Range.rangeSize a b c<2 ^ 63:=by
  unfold Builtin.Range.rangeSize;rw [aq c0]
  split
  ·have g1:=yX (show 0≤b-a-1 by lia) (Int.le_of_lt c0)
   have g2:=Int.ediv_le_self c (show 0≤b-a-1 by lia)
   lia
  ·lia
 unfold Builtin.Range.small;rw [f (x:=a) (by lia) (by lia),f (x:=b) (by lia) (by lia),f (x:=c) (by lia) (by lia),f (x:=Builtin.Range.rangeSize a b c) (by lia) (by lia),aq c0,f (x:=b+(c-1)) (by lia) (by lia)]
 simp
def UG(ta:TA):TI:=fun σ H R=>ta σ H fun vs H1=>∃i j c:Int,vs=[.int i,.int j,.int c]∧(0<c∧c≤1000∧-(2 ^ 61)≤i∧i<2 ^ 61∧-(2 ^ 61)≤j∧j<2 ^ 61)∧R (tT c i (Builtin.Range.rangeSize i j c).toNat) H1
theorem UH{a b c:Expr}{ta:TA}{p pos:Pos}(hg:Gl X "range")(hm:X.mg "range"=none)(ha:PA X [a,b,c] ta)(hs:starEach [a,b,c] X.env=[(false,eval a X.env),(false,eval b X.env),(false,eval c X.env)]:=by rfl)(kY:starEach [b,c] X.env=[(false,eval b X.env),(false,eval c X.env)]:=by rfl) :
  PI X tg (.Call (.Name "range" p) [a,b,c] [] pos) (UG ta):=by
 intro pins s σ H R I h;refine Call_ (mU I hg hm boot_range (r_ (aK (ha pos pins s σ H _ I h) fun us s1 ⟨vs,H1,I1,r1,q1⟩=>?_) (by rw [hs,kY]) (by rw [kY];rfl)))
 obtain ⟨i,j,c,e,⟨c0,c1,q1,q2,q3,q4⟩,q⟩:=q1;subst e;cases r1 with
 | cons r rr=>
  cases rr with
  | cons r' rr=>
   cases rr with
   | cons r3 rr=>
    cases rr;obtain ⟨t,rfl⟩:=r;obtain ⟨t',rfl⟩:=r';obtain ⟨t3,rfl⟩:=r3;refine call_range_3 (by lia) (UC c0 I1 (UE c0 c1 q1 q2 q3 q4) q) (.inl ?_)
    have z:decide ((if (c == 0)=true then 0 else c.natAbs.log2 / 30+1)>300)=false:=by
     refine da ?_
     split
     ·lia
     ·have:=Nat.log2_le_self c.natAbs
      have h:c.natAbs.log2≤1000:=by lia
      lia
    unfold Builtin.divisionGoesByPylong;dsimp only;rw [z];rfl
theorem UI{n:Nat}{g:TG}{tb:TS}{D:Ends}(Pv:Nat→St→Hp→Prop)(h0:Pv 0 σ H)
  (hs:∀i σ H,i<n→Pv i σ H→g (.int (lo+i*c)) σ H fun σ2 H2=>tb {D with nx:=Pv (i+1),ct:=Pv (i+1),bk:=D.nx} σ2 H2) (hd:∀σ H,Pv n σ H→D.nx σ H) :
  ∃W:Nat→Nat→St→Hp→Prop,(∃m,W 0 m σ H)∧∀i m σ H,W i m σ H→
   ((tT c lo n).stop i H∧D.nx σ H)∨((tT c lo n).go i H∧∃N:St→Hp→Prop,(∀σ' H',N σ' H'→∃m',m'<m∧W (i+1) m' σ' H')∧∀x H',(tT c lo n).dY i H x H'→g x σ H' fun σ2 H2=>tb {D with nx:=N,ct:=N,bk:=D.nx} σ2 H2):=by
 refine ⟨fun i m σ H=>m=n-i∧i≤n∧Pv i σ H,⟨n,by simp,b_ _,h0⟩,?_⟩
 rintro i m σ H ⟨rfl,hi,p⟩;by_cases bP:i<n
 ·refine .inr ⟨bP,Pv (i+1),fun σ' H' p'=>⟨n-(i+1),by lia,rfl,bP,p'⟩,fun x H' y=>?_⟩
  obtain ⟨e,y⟩:=y;subst e y;exact hs i σ _ bP p
 ·have e:i=n:=by lia
  subst e;exact .inl ⟨aN _,hd σ H p⟩
end
end L2
namespace My
open PySem L2
def pY(q x m:Int):Prop:=(q=0→x.natAbs≤3∧m∣6∧0<m)∧(q≠0→0≤x∧x<q∧q≤997∧m=1)
variable {H:Hp} {q:Int} {v:V} {B:Nat}
theorem JR{x m:Int}(h:bh B H q v x m)(s:lG q x m):pY q x m:=by
 cases h with
 | b6 e l bx bm=>exact ⟨fun z=>⟨(s z).1,(s z).2,l.pos⟩,fun z=>absurd rfl z⟩
 | rem a b c=>exact ⟨fun z=>by lia,fun _=>⟨a,b,c,rfl⟩⟩
def fW(q:Int)(n:Nat)(f:Nat→Nat→Int×Int):Nat→Nat→Int:=fun i j=>if i<n∧j≤n then (if q=0 then (f i j).1*(6 / (f i j).2) else (f i j).1) else 0
def h_(q:Int):Nat→Int:=fun _=>if q=0 then 6 else 1
section
variable {q:Int} {n:Nat} {f:Nat→Nat→Int×Int} {H:Hp}
theorem xK(h:∀i j,i<n→j≤n→pY q (f i j).1 (f i j).2)(i j:Nat):(fW q n f i j).natAbs≤997:=by
 unfold fW
 split
 ·rename_i y_
  have hs:=h i j y_.1 y_.2
  split
  ·rename_i z
   obtain ⟨h1,⟨c,hc⟩,h3⟩:=hs.1 z;have e:6 / (f i j).2=c:=by rw [hc];exact jF _ (by lia)
   have c6:c.natAbs≤6:=by
    have:(6:Int).natAbs=(f i j).2.natAbs*c.natAbs:=by rw [←fK,←hc]
    have m1:1≤(f i j).2.natAbs:=by lia
    have:=jH c.natAbs m1;have e6:(6:Int).natAbs=6:=rfl;lia
   rw [e,fK];exact a8 (gz h1 c6) (by decide)
  ·rename_i z
   have:=hs.2 z;lia
 ·decide
theorem pZ(i:Nat):(h_ q i).natAbs≤997:=by unfold h_;split <;> decide
theorem DR(hq:bC q)(i:Nat):¬q∣h_ q i:=by
 unfold h_
 split
 ·rename_i z
  rw [z];intro d;have:=jf.mp d;lia
 ·exact zN hq
variable {i j:Nat}
theorem DS(h:∀i j,i<n→j≤n→pY q (f i j).1 (f i j).2)(hi:i<n)(hj:j≤n):q∣(f i j).1*h_ q i-fW q n f i j*(f i j).2:=by
 have hs:=h i j hi hj;have e1:fW q n f i j=if q=0 then (f i j).1*(6 / (f i j).2) else (f i j).1:=by unfold fW;rw [aq ⟨hi,hj⟩]
 rw [e1];unfold h_
 split
 ·rename_i z
  obtain ⟨h1,⟨c,hc⟩,h3⟩:=hs.1 z;have e:6 / (f i j).2=c:=by rw [hc];exact jF _ (by lia)
  rw [e];exact ⟨0,by rw [hc];grind⟩
 ·rename_i z
  rw [(hs.2 z).2.2.2];exact ⟨0,by grind⟩
theorem UJ(z:(f i j).1=0):fW q n f i j=0:=by
 unfold fW
 split
 ·split
  ·rw [z,eW]
  ·exact z
 ·rfl
theorem JS:∀n,n≤9→1000≤df n 997∧df n 997≤10 ^ 100:=fun n hn=>(show ∀n∈List.range 10,1000≤df n 997∧df n 997≤10 ^ 100 by decide +kernel) n (gS.mpr (by lia))
def ic(n m:Nat)(f:Nat→Nat→Int×Int):List (List (Int×Int)):=(List.range n).map fun i=>(List.range m).map (f i)
variable {m:Nat}
theorem JT(hi:i<n)(hj:j<m):atT (ic n m f) i j=f i j:=by
 unfold atT ic;have h1:i<((List.range n).map fun i=>(List.range m).map (f i)).length:=by simpa using hi
 have h2:j<((List.range m).map (f i)).length:=by simpa using hj
 rw [getD_at h1,fY,gX,getD_at h2,fY,gX]
theorem nM:(ic n m f).length=n:=by unfold ic;simp
theorem z8:∀ps∈ic n m f,ps.length=m:=fun ps h=>by unfold ic at h;obtain ⟨i,_,rfl⟩:=jG.mp h;simp
variable {a:Addr}
theorem UK{lv:Nat→V}{f:Nat→Int×Int}(h:cE H a m lv)(k:∀j,j<m→bh B H q (lv j) (f j).1 (f j).2):tG B H q a ((List.range m).map f):=by
 refine ⟨_,h,by simp,fun i v p h1 h2=>?_⟩
 have hi:i<m:=by have:=(bV.mp h1).1;simpa using this
 rw [cw,je hi] at h1 h2;cases h1;cases h2;exact k i hi
variable {vf:Nat→Nat→V}
theorem JU{ra:Nat→Addr}(h:gP H a n m ra vf)(k:∀i j,i<n→j<m→bh B H q (vf i j) (f i j).1 (f i j).2):iF B H q a (ic n m f):=by
 refine ⟨_,h.lst,by unfold ic;simp,fun i v ps h1 h2=>?_⟩
 have hi:i<n:=by have:=(bV.mp h1).1;simpa using this
 unfold ic at h2;rw [cw,je hi] at h1 h2;cases h1;cases h2;exact ⟨ra i,rfl,UK (h.at' i hi) fun j hj=>k i j hi hj⟩
theorem WTab.r{rs:Nat→Addr}(h:WTab H a n rs vf):gP H a n n rs vf:=⟨h.lst,h.at'⟩
end
section
variable {q:Int} {M:aS} {o:List Nat} {n k k':Nat}
end
structure iJ (H:Hp) (q:Int) (tab od am:Addr) (n:Nat) (o:List Nat) (rs:Nat→Addr) (vf:Nat→Nat→V) (av:Nat→V) (f:Nat→Nat→Int×Int):Prop where
 tab:WTab H tab n rs vf
 ord:H od=some (.lst (bU o))
 nN:o.Perm (List.range n)
 nO:cE H am n av
 num:∀i j,i<n→j<n→bh 1000 H q (vf i j) (f i j).1 (f i j).2
 JV:∀i,i<n→bh 1000 H q (av i) (f i n).1 (f i n).2
 sm:∀i j,i<n→j≤n→pY q (f i j).1 (f i j).2
variable {H':Hp} {n:Nat} {vf:Nat→Nat→V} {av:Nat→V}
theorem iJ.mono{tab od am:Addr}{o:List Nat}{rs:Nat→Addr}{f:Nat→Nat→Int×Int}(h:iJ H q tab od am n o rs vf av f)(s:ae H H'):iJ H' q tab od am n o rs vf av f:=
 ⟨h.tab.mono s,s _ _ h.ord,h.nN,s _ _ h.nO,fun i j hi hj=>(h.num i j hi hj).mono s,fun i hi=>(h.JV i hi).mono s,h.sm⟩
def UL(K:aD):Sp:=fun vs H Q _=>∃(sc:Addr) (ns:List Int) (k:Nat),vs=[.ref sc,.int (k:Int)]∧bO K H sc (ns.map V.int)∧k≤900 ∧
 ∀(tp td tab od am:Addr) (q:Int) (n:Nat) (o:List Nat) (rs:Nat→Addr) (vf:Nat→Nat→V) (av:Nat→V) (f:Nat→Nat→Int×Int) (H':Hp),ae H H'→H' tp=some (.tup [.ref td,.ref tab,.ref od,.ref am])→gq H' td q→bC q→1≤n→n≤6→iJ H' q tab od am n o rs vf av f→H tab=none→H od=none→H am=none→(∀i,i<n→H (rs i)=none)→Q (.ref tp) H'
theorem UM(h1:j4 H q n vf)(h2:∀i,i<n→∃x m,bh 1000 H q (av i) x m∧lG q x m):∃f:Nat→Nat→Int×Int,(∀i j,i<n→j<n→bh 1000 H q (vf i j) (f i j).1 (f i j).2)∧(∀i,i<n→bh 1000 H q (av i) (f i n).1 (f i n).2)∧∀i j,i<n→j≤n→pY q (f i j).1 (f i j).2:=by
 have g1:∀i j,i<n→j<n→∃p:Int×Int,bh 1000 H q (vf i j) p.1 p.2∧pY q p.1 p.2:=fun i j hi hj=>let ⟨x,m,a,b⟩:=h1 i j hi hj;⟨(x,m),a,JR a b⟩
 have g2:∀i,i<n→∃p:Int×Int,bh 1000 H q (av i) p.1 p.2∧pY q p.1 p.2:=fun i hi=>let ⟨x,m,a,b⟩:=h2 i hi;⟨(x,m),a,JR a b⟩
 refine ⟨fun i j=>if h:i<n then (if h':j<n then (g1 i j h h').choose else (g2 i h).choose) else (0,1),fun i j hi hj=>?_,fun i hi=>?_,fun i j hi hj=>?_⟩
 ·dsimp only
  rw [eY hi,eY hj];exact (g1 i j hi hj).choose_spec.1
 ·dsimp only
  rw [eY hi,dif_neg (by lia)]
  exact (g2 i hi).choose_spec.1
 ·dsimp only
  rw [eY hi];by_cases h:j<n
  ·rw [eY h]
   exact (g1 i j hi h).choose_spec.2
  ·rw [dif_neg h]
   exact (g2 i hi).choose_spec.2
section
variable {H:Hp} {q:Int} {tab od am:Addr} {n:Nat} {o:List Nat} {rs:Nat→Addr} {vf:Nat→Nat→V} {av:Nat→V} {f:Nat→Nat→Int×Int}
variable {i:Nat}
theorem iJ.mm(hq:bC q)(h:iJ H q tab od am n o rs vf av f){j:Nat}(hi:i<n)(hj:j<n):aQ 997 H q (vf i j) (fW q n f i j) (h_ q i):=tS (h.num i j hi hj) (DS h.sm hi (by lia)) (DR hq i) (xK h.sm i j) (pZ i)
theorem iJ.UN(hq:bC q)(h:iJ H q tab od am n o rs vf av f)(hi:i<n):aQ 997 H q (av i) (fW q n f i n) (h_ q i):=tS (h.JV i hi) (DS h.sm hi (aN _)) (DR hq i) (xK h.sm i n) (pZ i)
theorem iJ.cF(hq:bC q)(h:iJ H q tab od am n o rs vf av f)(n9:n≤9):xI q n (df n 997) (ic n n f) o (fW q n f) (h_ q):=
 Ui (by decide) (xK h.sm) pZ (eh h.nN) (fun i j hi hj=>by rw [JT hi hj];exact DS h.sm hi (by lia)) (DR hq) (fun i j hi hj z=>UJ (by rw [JT hi hj] at z;exact z)) (JS n n9).1 (JS n n9).2
theorem iJ.UO(hq:bC q)(h:iJ H q tab od am n o rs vf av f):DM q n (df n 997) H am av o (fW q n f) (h_ q):=
 Uh (by decide) (xK h.sm) pZ (eh h.nN) h.nO fun i hi=>h.UN hq hi
theorem iJ.DU(h:iJ H q tab od am n o rs vf av f):iF 1000 H q tab (ic n n f):=JU h.tab.r h.num
end
section
variable {q:Int} {M:aS} {o:List Nat} {n k:Nat}
end
theorem gq.at{td:Addr}(h:gq H td q):IL H td q:=by
 unfold IL lA;rcases h with ⟨h1,h2⟩ | ⟨h1,h2⟩;·rw [aq h1];exact h2
 ·rw [ak h1];exact h2
section
variable {Cl:Addr→Prop} {H H':Hp} {q:Int}
variable {f f2 r r2:Addr} {X n:Nat} {o:List Nat} {M:aS} {L:cx} {lv lv2:Nat→V} {at' at2:Nat}
theorem z9{α:Type}{j:Nat}{lv:Nat→α}{x:α}(h:((List.range n).map lv)[j]?=some x):j<n∧x=lv j:=by
 have hj:j<n:=by have:=(bV.mp h).1;simpa using this
 rw [cw,je hj] at h;exact ⟨hj,(Option.some.inj h).symm⟩
end
theorem UP{te:TE}{σ:St}{R:VK}(M:V→Hp→Prop)(h1:∀R':VK,(∀x H,M x H→R' x H)→te σ H R')(h2:∀x H,M x H→R x H):te σ H R:=h1 R h2
def lH(M:aS)(D:Nat→Int)(o:List Nat)(i k:Nat):Int:=aJ M (cO o (o.idxOf k)) (M i) k*D k
def nQ(M:aS)(D:Nat→Int)(o:List Nat)(i k:Nat):Int:=D i*aM M (cO o (o.idxOf k+1))
def p4(M:aS)(o:List Nat)(k j:Nat):Int:=aJ M (cO o (o.idxOf k)) (M k) j
def tU(M:aS)(D:Nat→Int)(o:List Nat)(k _j:Nat):Int:=D k*aM M (cO o (o.idxOf k))
section
variable {q:Int} {M:aS} {D:Nat→Int} {o:List Nat} {n:Nat}
variable {i:Nat}
theorem UQ(hq:bC q)(ho:o.Perm (List.range n))(hi:i<n):lH M D o i i=nQ M D o i i:=by have kl:=(dE ((cB ho).mpr hi)).1;unfold lH nQ;rw [pW kl,(dE ((cB ho).mpr hi)).2];exact dM _ _
variable {k:Nat}
theorem UR(hq:bC q)(ho:o.Perm (List.range n))(g:de q M (cO o n))(hi:i<n)(hk:k<n)(h:o.idxOf i<o.idxOf k):lH M D o i k=0:=by have:=(dE ((cB ho).mpr hk)).1;have lo:=eh ho;unfold lH;rw [zU hq (mj g (by lia)) i ((cZ ho).mpr ⟨hi,h⟩),eW]
variable {j:Nat}
theorem US(ho:o.Perm (List.range n))(hj:j<n)(h:o.idxOf j<o.idxOf k):p4 M o k j=0:=zT ((cZ ho).mpr ⟨hj,h⟩)
theorem JW(hq:bC q)(ho:o.Perm (List.range n))(hi:i<n)(hk:k<n)(h:o.idxOf k<o.idxOf i):sT M D o n i k=lH M D o i k∧sU M D o n i k=nQ M D o i k:=by
 have lo:=eh ho;have:=(dE ((cB ho).mpr hk)).1;unfold sT sU lH nQ;rw [ak (by lia),ak (by lia),ak (by lia),ak (by lia)]
 exact ⟨rfl,rfl⟩
theorem JX(ho:o.Perm (List.range n))(hk:k<n)(h:o.idxOf k≤o.idxOf j):sT M D o n k j=p4 M o k j∧sU M D o n k j=tU M D o k j:=by
 have lo:=eh ho;have:=(dE ((cB ho).mpr hk)).1;unfold sT sU p4 tU;rw [ak (by lia),aq h,ak (by lia),aq h]
 exact ⟨rfl,rfl⟩
end
structure UT (H0 H:Hp) (q:Int) (X n:Nat) (o:List Nat) (M:aS) (D:Nat→Int) (fd lo up:Addr) (rl ru:Nat→Addr) (lf uf:Nat→Nat→V):Prop where
 tup:H fd=some (.tup [.ref lo,.ref up])
 low:gP H lo n n rl lf
 JY:gP H up n n ru uf
 wl:dr X H q n lf (lH M D o) (nQ M D o)
 wu:dr X H q n uf (p4 M o) (tU M D o)
 new:H0 fd=none∧H0 lo=none∧H0 up=none∧∀i,i<n→H0 (rl i)=none∧H0 (ru i)=none
def z_(H:Hp)(tn:Addr)(n:Nat)(o:List Nat):Prop:=H tn=some (.lst ((List.range n).map fun j=>V.int ((o.idxOf j:Nat):Int)))
def UU(C:Addr):Sp:=fun vs H Q _=>∃(z w tn:Addr) (q:Int) (X n i:Nat) (o:List Nat) (wv:Nat→V) (T U:Nat→Int),vs=[.ref z,.ref w,.ref tn,.int (i:Int)]∧dy C H z q∧bC q∧n≤40∧i<n∧o.Perm (List.range n)∧cE H w n wv∧z_ H tn n o∧1000≤X∧(∀j,j<n→(T j).natAbs≤X∧(U j).natAbs≤X∧¬q∣U j)∧(∀j,j<n→o.idxOf j<o.idxOf i→aQ X H q (wv j) (T j) (U j))∧(∀j,j<n→o.idxOf i<o.idxOf j→T j=0)∧T i=U i ∧
 ∀(r:Addr) (lv:Nat→V) (H':Hp),ae H H'→H r=none→cE H' r n lv→(∀j,j<n→aQ X H' q (lv j) (T j) (U j))→Q (.ref r) H'
def UW(C:Addr):Sp:=fun vs H Q _=>∃(z w tn:Addr) (q:Int) (X n i:Nat) (o:List Nat) (wv:Nat→V) (T U:Nat→Int),vs=[.ref z,.ref w,.ref tn,.int (i:Int)]∧dy C H z q∧bC q∧n≤40∧i<n∧o.Perm (List.range n)∧cE H w n wv∧z_ H tn n o∧1000≤X∧(∀j,j<n→(T j).natAbs≤X∧(U j).natAbs≤X∧¬q∣U j)∧(∀j,j<n→o.idxOf i≤o.idxOf j→aQ X H q (wv j) (T j) (U j))∧(∀j,j<n→o.idxOf j<o.idxOf i→T j=0) ∧
 ∀(r:Addr) (lv:Nat→V) (H':Hp),ae H H'→H r=none→cE H' r n lv→(∀j,j<n→aQ X H' q (lv j) (T j) (U j))→Q (.ref r) H'
def UX(C:Addr):Sp:=fun vs H Q _=>∃(z a tn:Addr) (q:Int) (X n:Nat) (o:List Nat) (ra:Nat→Addr) (vf:Nat→Nat→V) (T U:aS),vs=[.ref z,.ref a,.ref tn]∧dy C H z q∧bC q∧n≤40∧o.Perm (List.range n)∧gP H a n n ra vf∧z_ H tn n o∧1000≤X∧(∀i j,i<n→j<n→(T i j).natAbs≤X∧(U i j).natAbs≤X∧¬q∣U i j)∧(∀i j,i<n→j<n→o.idxOf j<o.idxOf i→aQ X H q (vf i j) (T i j) (U i j))∧(∀i j,i<n→j<n→o.idxOf i<o.idxOf j→T i j=0)∧(∀i,i<n→T i i=U i i) ∧
 ∀(r:Addr) (rr:Nat→Addr) (lf:Nat→Nat→V) (H':Hp),ae H H'→H r=none→(∀i,i<n→H (rr i)=none)→gP H' r n n rr lf→dr X H' q n lf T U→Q (.ref r) H'
def UY(C:Addr):Sp:=fun vs H Q _=>∃(z a tn:Addr) (q:Int) (X n:Nat) (o:List Nat) (ra:Nat→Addr) (vf:Nat→Nat→V) (T U:aS),vs=[.ref z,.ref a,.ref tn]∧dy C H z q∧bC q∧n≤40∧o.Perm (List.range n)∧gP H a n n ra vf∧z_ H tn n o∧1000≤X∧(∀i j,i<n→j<n→(T i j).natAbs≤X∧(U i j).natAbs≤X∧¬q∣U i j)∧(∀i j,i<n→j<n→o.idxOf i≤o.idxOf j→aQ X H q (vf i j) (T i j) (U i j))∧(∀i j,i<n→j<n→o.idxOf j<o.idxOf i→T i j=0) ∧
 ∀(r:Addr) (rr:Nat→Addr) (lf:Nat→Nat→V) (H':Hp),ae H H'→H r=none→(∀i,i<n→H (rr i)=none)→gP H' r n n rr lf→dr X H' q n lf T U→Q (.ref r) H'
def UZ(C:Addr):Sp:=fun vs H Q _=>∃(z a d:Addr) (q:Int) (B X n:Nat) (ai:fZ) (o:List Nat) (M:aS) (D:Nat→Int),vs=[.ref z,.ref a,.ref d]∧dy C H z q∧bC q∧iF B H q a ai∧B≤10 ^ 100∧ai.length=n∧1≤n∧n≤40∧(∀ps∈ai,ps.length=n)∧H d=some (.lst (bU o))∧o.Perm (List.range n)∧xI q n X ai o M D∧(∀i j,i<n→j<n→(lH M D o i j).natAbs≤X∧(nQ M D o i j).natAbs≤X∧(p4 M o i j).natAbs≤X∧(tU M D o i j).natAbs≤X) ∧
 (∀(k:Nat) (hk:k<o.length),de q M (cO o k)→q∣aJ M (cO o k) (M o[k]) o[k]→∀H',ae H H'→Q .aF H') ∧
 (de q M (cO o n)→∀(fd lo up:Addr) (rl ru:Nat→Addr) (lf uf:Nat→Nat→V) (H':Hp),ae H H'→UT H H' q X n o M D fd lo up rl ru lf uf→Q (.ref fd) H')
variable {f:Nat→V}
theorem Aa{i:Nat}{x y:V}(h:(((List.range ((List.range n).map f).length).zip ((List.range n).map f)).map fun p=>(V.int (p.1:Int),p.2))[i]?=some (x,y)):i<n∧x=.int (i:Int)∧y=f i:=by
 rw [cw] at h;cases e:((List.range ((List.range n).map f).length).zip ((List.range n).map f))[i]? with
 | none=>rw [e] at h;cases h
 | some p=>
  rw [e] at h;obtain ⟨h1,h2⟩:=List.getElem?_zip_eq_some.mp e;obtain ⟨hi,e2⟩:=z9 h2;have e1:p.1=i:=by have h3:=(bV.mp h1).2;simpa using h3.symm
  have h4:=Option.some.inj h;rw [Prod.mk.injEq] at h4;refine ⟨hi,?_,?_⟩;·rw [←h4.1,e1]
  ·rw [←h4.2,e2]
theorem aQ.bG{t u:Int}{D:Addr}{ys:List V}(h:aQ B H q v t u)(e:H D=some (.lst ys))(k:∀b o,b≠D→H b=some o→H' b=some o):aQ B H' q v t u:=let ⟨x,m,a,b⟩:=h;⟨x,m,a.bG e k,b⟩
theorem nR:(((List.range ((List.range n).map f).length).zip ((List.range n).map f)).map fun p=>(V.int (p.1:Int),p.2)).length=n:=by simp
end My
namespace L2
open PySem PySem.Spec PyProof.Rows
end L2
namespace My
open PySem L2
section
variable {Cl:Addr→Prop} {H0 H H':Hp} {q:Int} {X n:Nat} {o:List Nat} {M:aS} {D:Nat→Int} {fd lo up:Addr} {rl ru:Nat→Addr} {lf uf:Nat→Nat→V}
end
theorem lub{q:Int}{n:Nat}{o:List Nat}{f:Nat→Nat→Int×Int}(hM:∀i j,(fW q n f i j).natAbs≤997)(lo:o.length=n):∀i j,i<n→j<n→(lH (fW q n f) (h_ q) o i j).natAbs≤df n 997∧(nQ (fW q n f) (h_ q) o i j).natAbs≤df n 997∧(p4 (fW q n f) o i j).natAbs≤df n 997∧(tU (fW q n f) (h_ q) o i j).natAbs≤df n 997:=fun i j _ _=>by
 have b1:1≤997:=by decide
 exact ⟨(pX b1 (mq b1 hM lo _ _ _) (pZ j)).1,(pX b1 (iI b1 hM lo _) (pZ i)).2,a8 (mq b1 hM lo _ _ _) (lF b1),(pX b1 (iI b1 hM lo _) (pZ i)).2⟩
end My
namespace L2
open PySem PySem.Spec PyProof.Rows
theorem DV:∀{bs:List Bool} {ah:List Value},Vals (bs.map V.bl) ah→ah=bs.map Value.bool
 | [],_,.nil=>rfl
 | b::bs,_,.cons (b:=v) r t=>by have e:v=Value.bool b:=r;rw [e,DV t];rfl
def U1:V→List V→Hp→VK→Prop:=fun x vs H Q=>∃(l:Addr) (bs:List Bool),x=.ref l∧vs=[.bl true]∧H l=some (.lst (bs.map V.bl))∧Q (.int (bs.countP id:Nat)) H
theorem eq_true(A:Around)(s:Shared)(y:Value)(h:∃b,y=Value.bool b):SeqAt.EqAt A s y (.bool true) (y == .bool true):=by obtain ⟨b,rfl⟩:=h;have:=CB (A:=A) (s:=s) (y:=.bl b) (x:=.bl true) (u:=.bool b) (v:=.bool true) rfl rfl rfl rfl;cases b <;> exact this
variable {X:Cx}
theorem U2:xj X "list.count" U1:=by
 intro pins s σ H x vs v us Q I rx rv h;obtain ⟨l,bs,rfl,rfl,hH,q⟩:=h;cases rx;obtain ⟨u,rfl,ru⟩:=rv.one;have ru:u=Value.bool true:=ru;subst ru;obtain ⟨z,ah,n,r,hl,e⟩:=I.l8 hH;have ei:=DV r;subst ei;refine oG PySem.F.slot_list_count ⟨_,e,rfl⟩ PySem.F.entry_list_count (PySem.F.args_list_count_2 _ _) (SeqAt.list_countAt l _ n none #[] (.bool true) (fun y=>y == .bool true)) ⟨e,fun y hy=>eq_true _ _ y ?_,?_⟩
 ·obtain ⟨b,_,rfl⟩:=jG.mp (by simpa using hy:y∈bs.map Value.bool)
  exact ⟨b,rfl⟩
 ·have ec:((bs.map Value.bool).toArray.toList.countP fun y=>y == Value.bool true)=bs.countP id:=by
   show (bs.map Value.bool).countP _=_;rw [List.countP_map]
   congr 1
   funext b
   cases b <;> rfl
  rw [ec];exact ⟨.int _,H,I.tok _,⟨_,rfl⟩,q⟩
def U3:V→List V→Hp→VK→Prop:=fun x vs H Q=>∃(l:Addr) (bs:List Bool) (j:Nat),x=.ref l∧vs=[.bl true]∧H l=some (.lst (bs.map V.bl))∧bs[j]?=some true∧(∀m,m<j→bs[m]?=some false)∧bs.length≤1000∧Q (.int (j:Int)) H
theorem U4:xj X "list.index" U3:=by
 intro pins s σ H x vs v us Q I rx rv h;obtain ⟨l,bs,j,rfl,rfl,hH,hj,U5,len,q⟩:=h;cases rx;obtain ⟨u,rfl,ru⟩:=rv.one;have ru:u=Value.bool true:=ru;subst ru;obtain ⟨z,ah,n,r,hl,e⟩:=I.l8 hH;have ei:=DV r;subst ei;have U6:j<bs.length:=(bV.mp hj).1;have at':∀m (hm:m<(bs.map Value.bool).toArray.size),(bs.map Value.bool).toArray[m]=Value.bool (bs.getD m false):=fun m hm=>by
  have e8:m<bs.length:=by simpa using hm
  simp [e8]
 refine oG PySem.F.slot_list_index ⟨_,e,rfl⟩ PySem.F.entry_list_index (PySem.F.args_list_index_2 _ _) (SeqAt.list_indexAt l _ n none #[] (.bool true) (fun y=>y == .bool true) j (by simpa using U6) (by lia) ?_ fun m hm U7=>?_) ⟨e,fun y hy=>eq_true _ _ y ?_,?_⟩
 ·rw [at',ir,hj]
  rfl
 ·rw [at',ir,U5 m U7]
  rfl
 ·obtain ⟨b,_,rfl⟩:=jG.mp (by simpa using hy:y∈bs.map Value.bool)
  exact ⟨b,rfl⟩
 ·exact ⟨.int _,H,I.tok _,⟨_,rfl⟩,q⟩
end L2
namespace My
open PySem L2
end My
namespace L2
open PySem PySem.Spec PyProof.Rows
def U8(c:TT)(a b:pj):pj:=fun D E σ H=>c σ H fun k H1=>if k=true then a D E σ H1 else b D E σ H1
theorem U9{X:Cx}{c:Expr}{a b:List Stmt}{pos:Pos}{tc:TT}{ta tb:pj}(hc:PT X.jj c tc)(ha:xp X a ta)(hb:xp X b tb):xp X [.If c a b pos] (U8 tc ta tb):=by
 intro pins s σ H D E I h;refine yC (bM (Q:=SP X pins D) (wpAny_If (bM (hc pins s σ H _ (I.ji _) h) (fun d s1 ⟨H1,I1,q1⟩=>?_) fun _ _ z=>False.elim z)) (fun f s1 q=>?_) fun _ _ z=>z)
 ·have I2:Inv X pins σ H1 s1:=I1.kU
  cases d with
  | true=>exact ha pins s1 σ H1 D E I2 q1
  | false=>exact hb pins s1 σ H1 D E I2 q1
 ·cases f with
  | next=>exact oB q
  | brk=>exact q
  | cont=>exact q
  | ret u=>exact q
end L2
namespace My
open PySem L2
open L2
end My
namespace L2
open PySem PySem.Spec PyProof.Rows
section
variable {X:Cx} {N:List Str} {scope:Scope} {cl:List (Str×Addr)} {x y:Str} {px py pos tp:Pos} {jZ:Nat} {iter elt:Expr} {ifs:List Expr} {wi:TI} {ρ:St→St} {tt:TT} {te:TE}
theorem U_{y9:Str}{tV xy:Pos}{i0:Nat}(B:Df X N scope cl x y ρ)(hc:X.calm=true)(hN:X.N.Nodup)(Dd:X.N[i0]?=some y9)(hy:Loc X.env.scope y9)(hi:PI X (.Tuple [.Name x px,.Name y py] jZ tp) iter wi)(ht:∀s₃ H₃ fp,k_ (X.bw N scope cl s₃ H₃ fp) ifs tt)(he:∀s₃ H₃ fp,PE (X.bw N scope cl s₃ H₃ fp) elt te)
  (De:swapsWith (.ListComp elt [⟨.Tuple [.Name x px,.Name y py] jZ tp,iter,ifs,0⟩] scope pos) (some (.Name y9 tV)) xy.line X.env=pure true:=by rfl) (hf:X.fn y9=true∨X.env.scope.names.lookup y9=some .local:=by first | exact .inl rfl | exact .inr rfl | assumption)
  (hs:∀x,foldedSetIterable iter X.env x=pure x:=by intro _;rfl):PS X (.Assign [.Name y9 tV] (.ListComp elt [⟨.Tuple [.Name x px,.Name y py] jZ tp,iter,ifs,0⟩] scope pos) xy) (mY (zI X.K wi ρ tt te) (cg i0)):=by
 intro pins s σ H D0 I h
 have h:zI X.K wi ρ tt te σ H (fun v H1=>D0.nx (σ.set i0 (some v)) H1):=h
 rw [exec_Assign_Name_used _ _ _ _ De]
 refine b9 (wF (b9 ?_))
 show wpAny _ X.A (do let _ ←comprehension (.ListComp elt [⟨.Tuple [.Name x px,.Name y py] jZ tp,iter,ifs,0⟩] scope pos) scope X.env _ (newList []) false (eval iter X.env) (some (assign (.Name y9 tV) X.env))) _ _ s
 refine b9 (bM (Q:=fun _ s'=>SP X pins D0 .next s') ?_ (fun _ s' hq=>eG (eG hq)) fun _ _ e=>e)
 refine yL (use:=some (assign (.Name y9 tV) X.env)) rfl hs B.xr B.kind B.names (aK (hi pins s σ H _ I h) fun v s1 h1=>aK h1 fun sF s2 h2=>?_)
 obtain ⟨it,fp,tn,J,H2,rfl,I2,T,eP,f2,q2⟩:=h2
 have nD:H2 s2.heap.objs.size=none:=I2.ay.fresh (aN _)
 obtain ⟨W,⟨m0,w0⟩,turn⟩:=q2 _ nD
 refine wG (yM B.xt (by intro y hy;simp at hy) (fun h₁ fC fD=>?_) B.kind)
 dsimp only at fC fD ⊢
 generalize hD:s2.heap.objs.size=D at nD w0 turn fC fD ⊢
 generalize g9:({s2 with heap:=s2.heap.push {cls:=.type "list",dict:=none,data:=.seq ([]:List Value).toArray}}:Shared)=s3
 have I3:Inv X pins σ (upd H2 D (.lst [])) s3:=by
  subst hD g9
  exact I2.laid (t':=s2.toks) (fun b u e=>cu _ e) (aN _) ⟨b_ _,[],_,.nil,eJ _ rfl⟩
 have e3:s3.heap=s2.heap.push {cls:=.type "list",dict:=none,data:=.seq ([]:List Value).toArray}:=by rw [←g9]
 have fE:∀b o,s2.heap.get? b=some o→s3.heap.get? b=some o:=fun b o e=>by rw [e3];exact cu _ e
 rw [←e3] at fC fD ⊢
 have below:∀b o,s3.heap.get? b=some o→b≠s3.heap.objs.size:=fun b o e=>cV (bL e)
 have dq:∀b o,s3.heap.get? b=some o→h₁.get? b=some o:=fun b o e=>fD.extBut b o (below b o e) (cu _ e)
 have g_:∀b∈fp,∃o,s2.heap.get? b=some o∧∀v,o.data≠.cell v:=T.obj _ _ eP
 have pA:∀b∈fp,b≠D:=fun b hb z=>by
  obtain ⟨o,e,_⟩:=g_ b hb
  rw [z,←hD] at e
  exact absurd (bL e) (eV _)
 have cP:∀y c,cl.lookup y=some c→X.env.cells.lookup y=some c:=fun y c e=>B.sub (y,c) (kC e)
 have pB:=I3.sA
 have dP:(X.bw N scope cl s3 (upd H2 D (.lst [])) fp).Ok:=by
  refine ⟨I.ok.mod,B.kind,I.ok.glob,I.ok.blt,aN _,fun a b c e1 e2=>I.ok.inj a b c (cP a c e1) (cP b c e2),fun y hy=>B.has y hy,(fun _ _ z _=>absurd z cW),(fun _=>I.ok.hd hc),I.ok.frames,.inl rfl,fun b hb=>⟨?_,fun y c e z=>?_⟩,fun b o e=>?_,a8 I.ok.gA I3.sz,fun b o e hb=>?_,fun b hb z=>?_,I3.stack,pB⟩
  ·obtain ⟨o,e,_⟩:=g_ b hb
   exact below b o (fE b o e)
  ·exact (f2 b hb).2.2.2.2.1 y c (cP y c e) z
  ·exact I3.bs b o e
  ·rcases (f2 b hb).2.2.2.1 with z | z
   ·exact I.ok.lS b o e z
   ·exact absurd (dJ (bL e) (a8 I.ok.gA z)) (eV _)
  ·rcases cM.mp (I3.sv b z) with z | z
   ·exact (f2 b hb).2.1 z
   ·exact (f2 b hb).2.2.1 z
 have IB:∀tk:Nat,Inv (X.bw N scope cl s3 (upd H2 D (.lst [])) fp) [] (none::none::ρ σ) (upd H2 D (.lst [])) {s3 with heap:=h₁,toks:=tk}:=fun tk=>by
  refine ⟨dP,rfl,I3.bare,Un.kept dq,⟨_,fC,fun j y v e1 e2 e3=>?_⟩,fun y c e=>?_,?_,fun y c e=>I3.gB y c (cP y c e),(fun p hp=>nomatch hp),I3.ay.kept dq,?_⟩
  ·cases j with
   | zero=>cases e2
   | succ j=>
   cases j with
   | zero=>cases e2
   | succ j=>
    obtain ⟨i,y',a1,a2,a3,a4,a5,a6⟩:=B.xu σ j v e2
    have pD:N[j+1+1]?=some y:=e1
    rw [pD] at a1
    cases a1
    obtain ⟨m,hn,hl⟩:=I3.loc
    obtain ⟨u,r,l⟩:=hl i y v a2 a3 a4
    refine ⟨u,r,.inr ⟨a6,?_⟩⟩
    obtain ⟨c,ec⟩:=B.has y a6
    rcases l with ⟨k,_⟩ | ⟨_,c',jU,z⟩
    ·rcases a5 with q | q <;> (rw [k] at q;cases q)
    ·have:=cP y c ec
     rw [this] at jU
     cases jU
     obtain ⟨o,ho,hd⟩:=z
     exact ⟨c,ec,o,dq _ _ ho,hd⟩
  ·obtain ⟨v,o,ho,hd⟩:=I3.cell y c (cP y c e)
   exact ⟨v,o,dq _ _ ho,hd⟩
  ·exact I3.ay.fresh (aN _)
  ·show (none::none::ρ σ).length=N.length
   rw [eK,eK]
   exact B.len σ I.len
 have pL:∀b o,s3.heap.get? b=some o→b≠s3.heap.objs.size:=below
 have fin:∀{σ':St} {H':Hp} {s':Shared},Inv (X.bw N scope cl s3 (upd H2 D (.lst [])) fp) [] σ' H' s'→D0.nx (σ.set i0 (some (.ref D))) H'→compPost (model X.prog X.w) X.A X.xe (some (assign (.Name y9 tV) X.env)) (fun _ s'=>SP X pins D0 .next s') (.ref D) s3.heap.objs.size (.ok .next) s':=fun{σ' H' s'} J q=>by
  obtain ⟨m,hn,_⟩:=J.loc
  have hn:s'.heap.Ns s3.heap.objs.size m:=hn
  have JC:H' s3.heap.objs.size=none:=J.free
  have u1:Un (cf X.stack) fp (upd H2 D (.lst [])) H' s3.heap s'.heap:=by
   refine ⟨fun b o e n hb hx=>J.base.keep b o e n hb hx,fun b o e n hb hx=>J.base.slot b o e n hb hx,J.base.free,fun b o e hx=>J.base.there b o e hx,J.base.eL,J.base.d5,J.base.eN⟩
  have IX:Inv X pins σ H' s':=I3.kP (ch:=fp) (J.os) u1 J.ay J.bare fun b hb=>by
   obtain ⟨g0,g1,g2,g3,g4,g5⟩:=f2 b hb
   exact ⟨g3,g1,g4,g5⟩
  have nl:X.env.locals≠s3.heap.objs.size:=by
   obtain ⟨m3,⟨o3,_,_,e3,_⟩,_⟩:=I3.loc
   exact pL _ _ e3
  have nc:∀z c,X.env.cells.lookup z=some c→c≠s3.heap.objs.size:=fun z c e=>by
   obtain ⟨v3,o3,e3,_⟩:=I3.cell z c e
   exact pL _ _ e3
  refine wpAny_assign_Name (B_ (v:=.ref D) IX hN Dd hy rfl (fun iY pM pN=>?_) hf)
  obtain ⟨a,pN,ha⟩:=pN
  have na:s3.heap.objs.size≠a:=by
   rcases ha with rfl | e
   ·exact fun z=>nl z.symm
   ·exact fun z=>nc _ _ e z.symm
  refine ⟨m,hn.sameBut pN na,fun h' fF=>⟨σ.set i0 (some (.ref D)),H',?_,q⟩⟩
  have u2:Un (cf X.stack) [s3.heap.objs.size] H' H' iY.heap h':=by
   refine ⟨fun b o e n hb hx=>(fF.2 b (by simpa using hx)).trans e,fun b o e n hb hx=>⟨o.slots,(fF.2 b (by simpa using hx)).trans e⟩,fun b o e n hx=>n,fun b o e hx=>⟨o,(fF.2 b (by simpa using hx)).trans e⟩,fun b xs z=>z,fun b o u z=>z,fun b ps z=>⟨#[],by simpa using z⟩⟩
  have pE:bW X.prog X.w H' h':=fun b u e=>by
   refine (pM.ay b u e).iz (fun c v hc z=>(fF.2 c fun y=>?_).trans z) (fun _ z=>z) fun _ _ z=>z
   have y':c=s3.heap.objs.size:=y
   rcases hc with hc | hc
   ·rw [←hc,y',JC] at e
    cases e
   ·rw [y',JC] at hc
    cases hc
  refine pM.kP (s':={iY with heap:=h'}) (ch:=[s3.heap.objs.size]) rfl u2 pE pM.bare fun b hb=>?_
  have eb:b=s3.heap.objs.size:=by simpa using hb
  subst eb
  refine ⟨.inr I3.sz,fun z=>nl z.symm,fun z c e=>nc z c e,fun p hp=>?_⟩
  exact pL _ _ (I3.pin p hp).1
 have ft:∀{H':Hp},(∀b∈fp,H' b=none)→∀b∈fp,kW (X.bw N scope cl s3 (upd H2 D (.lst [])) fp) [] H' b:=fun hn b hb=>by
  refine ⟨hn b hb,?_,?_,.inl hb,fun y c e z=>(f2 b hb).2.2.2.2.1 y c (cP y c e) z,fun p hp=>nomatch hp⟩
  ·obtain ⟨o,e,_⟩:=g_ b hb
   exact below b o (fE b o e)
  ·exact dP.lU b hb
 have loop:∀tk:Nat,codeAny (model X.prog X.w) X.A (.compLoop (.ListComp elt [⟨.Tuple [.Name x px,.Name y py] jZ tp,iter,ifs,0⟩] scope pos) 0 (.ref it) (.ref D) (compEnvC scope cl s3.heap.objs.size X.env))
   (compPost (model X.prog X.w) X.A X.xe (some (assign (.Name y9 tV) X.env)) (fun _ s'=>SP X pins D0 .next s') (.ref D) s3.heap.objs.size) {s3 with heap:=h₁,toks:=tk}:=fun tk=>by
  refine IF (fun n s'=>∃i ys o o2 H',Inv (X.bw N scope cl s3 (upd H2 D (.lst [])) fp) [] (o::o2::ρ σ) H' s'∧tn i s'.heap∧(∀b∈fp,H' b=none)∧W i n ys H') ?_ m0
   ⟨0,[],none,none,_,IB tk,T.keep _ _ _ eP fun b hb o e=>dq _ _ (fE _ _ e),fun b hb=>by rw [aO (pA b hb)];exact (f2 b hb).1,w0⟩
  rintro n s4 ⟨i,ys,o,o2,H4,I4,jV,jW,w4⟩
  obtain ⟨C1,pF⟩:=turn i n ys H4 w4
  rcases pF with ⟨stop,qn⟩ | ⟨go,step⟩
  ·refine bM (T.done (X.bw N scope cl s3 (upd H2 D (.lst [])) fp) rfl rfl rfl hc i [] s4 _ H4 (fun _ _=>False) I4 (ft jW) jV stop) (fun r s5 ⟨hr,I5⟩=>?_) fun _ _ z=>z.elim
   subst hr
   exact fin I5 qn
  ·refine bM (T.item (X.bw N scope cl s3 (upd H2 D (.lst [])) fp) rfl rfl rfl hc i [] s4 _ H4 (fun _ _=>False) I4 (ft jW) jV go) (fun r s5 ⟨u,hr,h5⟩=>?_) fun _ _ z=>z.elim
   subst hr
   refine bM h5 (fun _ s5 ⟨y0,H5,I5,r5,y5,fv,lW⟩=>?_) fun _ _ z=>z.elim
   obtain ⟨Tt,x1,x2,e0,Dh,pG⟩:=step y0 _ y5
   subst e0
   have lX:=I5.pinned (ft lW) (T.obj _ _ fv)
   have pg:PG (X.bw N scope cl s3 (upd H2 D (.lst [])) fp) (.Tuple [.Name x px,.Name y py] jZ tp) (Cm X.K 2 (xa (cg 0) (xa (cg 1) Ck))):=
    mX (X:=X.bw N scope cl s3 (upd H2 D (.lst [])) fp) hc (fM (cj (i:=0) B.nd B.n0 (.inl (jd B.hx)) (.inr (jd B.hx))) (fM (cj (i:=1) B.nd B.n1 (.inl (jd B.hy)) (.inr (jd B.hy))) mW))
   have again:∀{σ7:St} {H7:Hp} {s7:Shared},Inv (X.bw N scope cl s3 (upd H2 D (.lst [])) fp) ([]++jk fp s5.heap) σ7 H7 s7→Inv (X.bw N scope cl s3 (upd H2 D (.lst [])) fp) [] σ7 H7 s7∧tn (i+1) s7.heap∧∀b∈fp,H7 b=none:=fun{σ7 H7 s7} I7=>by
    refine ⟨I7.oX,T.keep _ _ _ fv fun b hb o e=>(I7.pin (b,o) (dX _ (dX _ (kZ hb e)))).1,fun b hb=>?_⟩
    obtain ⟨o,e,d⟩:=T.obj _ _ fv b hb
    exact (I7.pin (b,o) (dX _ (dX _ (kZ hb e)))).2.1
   refine bM (pg _ s5 _ H5 (.ref Tt) u (fun σ2 H6=>σ2=some x1::some x2::ρ σ∧H6=H5) lX r5 ⟨Tt,_,rfl,Dh,rfl,_,_,rfl,_,_,rfl,rfl,rfl,rfl⟩) (fun _ s6 ⟨σ6,H6,I6,q6⟩=>?_) fun _ _ z=>z.elim
   obtain ⟨rfl,rfl⟩:=q6
   have tests:∀{hE:TT},k_ (X.bw N scope cl s3 (upd H2 D (.lst [])) fp) ifs hE→∀{R:Bool→Hp→Prop},hE (some x1::some x2::ρ σ) H6 R→wpAny (model X.prog X.w) X.A
     (forIn ifs true fun c r=>if r=true then do let ok ←isTrue c (compEnvC scope cl s3.heap.objs.size X.env) (eval c (compEnvC scope cl s3.heap.objs.size X.env));pure (ForInStep.yield ok) else pure (ForInStep.yield r))
     (fun ok s7=>∃H7,Inv (X.bw N scope cl s3 (upd H2 D (.lst [])) fp) ([]++jk fp s5.heap) (some x1::some x2::ρ σ) H7 s7∧R ok H7) (fun _ _=>False) s6:=fun{hE} p {R} hR=>by
    cases p with
    | nil=>exact yN ⟨_,I6,hR⟩
    | one p=>exact yO (p _ s6 _ _ _ I6 hR)
   refine bM (tests (ht s3 _ fp) pG) (fun ok s7 ⟨H7,I7,q7⟩=>?_) fun _ _ z=>z.elim
   cases ok with
   | false=>
    obtain ⟨m',e8,w7⟩:=q7
    obtain ⟨a1,a2,a3⟩:=again I7
    exact ⟨m',e8,i+1,ys,_,_,H7,a1,a2,a3,w7⟩
   | true=>
    refine bM (he s3 _ fp _ s7 _ H7 _ I7 q7) (fun ev s8 ⟨z,H8,I8,r8,pH,hz,m',e8,w8⟩=>?_) fun _ _ z=>z.elim
    refine bM (xl (X:=X.bw N scope cl s3 (upd H2 D (.lst [])) fp) _ s8 _ H8 (.ref D) [z] (.ref D) [ev] (fun _ H9=>H9=upd H8 D (.lst (ys++[z]))) I8 rfl (.cons r8 .nil) ⟨D,ys,z,rfl,rfl,pH,hz,rfl⟩) (fun _ s9 ⟨_,H9,I9,_,q9⟩=>?_) fun _ _ z=>z.elim
    subst q9
    obtain ⟨a1,a2,a3⟩:=again I9
    exact ⟨m',e8,i+1,ys++[z],_,_,_,a1,a2,a3,w8⟩
 have start:=loop (s3.toks+([]:List (Str×Value)).length)
 have es:({s3 with heap:=h₁,toks:=s3.toks+([]:List (Str×Value)).length}:Shared)={s2 with heap:=h₁,toks:=s2.toks+([]:List (Str×Value)).length}:=by rw [←g9]
 rw [es] at start
 exact yP start (T.self _ 0 _ _ _ (T.keep _ _ _ eP fun b hb o e=>dq _ _ (fE _ _ e)) start)
end
section
variable {X:Cx} {e:Expr} {te:TE} {pos p2:Pos}
end
end L2
namespace My
open PySem L2
def xM(C Nf No:Addr):Sp:=fun vs H _ E=>∃(z a d:Addr) (q:Int) (B m:Nat) (ai:fZ) (zs:List Int),vs=[.ref z,.ref a,.ref d]∧dy C H z q∧bC q∧iF B H q a ai∧1≤ai.length∧ai.length≤40∧(∀ps∈ai,ps.length=m) ∧
 ((m≠ai.length∧∀H',ae H H'→E (.ref Nf) none H')∨(m=ai.length∧H d=some (.lst (zs.map V.int))∧zs.length<64∧¬gN zs m∧∀H',ae H H'→E (.ref No) none H'))
def Va(C Nf No:Addr):Sp:=fun vs H Q E=>TQ C No vs H Q E∨xM C Nf No vs H Q E
def DW(C Nf No:Addr):Sp:=fun vs H Q E=>UZ C vs H Q E∨xM C Nf No vs H Q E
def Vb(C Nf No:Addr):Sp:=fun vs H Q E=>∃(z a d e:Addr) (us jw:List V),vs=[.ref z,.ref a,.ref d,.ref e]∧H e=some (.lst us)∧H a=some (.lst jw)∧((us.length≠jw.length∧∀H',ae H H'→E (.ref Nf) none H')∨(us.length=jw.length∧xM C Nf No [.ref z,.ref a,.ref d] H Q E))
def xN(C Nf No:Addr):Sp:=fun vs H Q E=>Uc C vs H Q E∨Vb C Nf No vs H Q E
def iK(T:Addr)(n:Nat)(H:Hp)(v:V):Prop:=∃(l:Addr) (zs:List Int),v=.ref l∧l≠T∧H l=some (.lst (zs.map V.int))∧zs.length<64∧¬gN zs n
variable {T:Addr} {n:Nat} {H H':Hp} {v:V}
theorem iK.mono(h:iK T n H v)(s:ae H H'):iK T n H' v:=let ⟨l,zs,a,d,b,c⟩:=h;⟨l,zs,a,d,s _ _ b,c⟩
theorem iK.off(h:iK T n H v)(s:aG T H H'):iK T n H' v:=let ⟨l,zs,a,d,b,c⟩:=h;⟨l,zs,a,d,s _ _ d b,c⟩
def Ab(F:Hp→Prop):Prop:=∀{H H':Hp},ae H H'→F H→F H'
def LE(T:Addr)(F:Hp→Prop)(σ:St)(te:TE)(zs:List Int):Prop:=∀(H:Hp) (Q:VK),F H→(∀l H',ae H H'→l≠T→H' l=some (.lst (zs.map V.int))→Q (.ref l) H')→te σ H Q
def LG(T:Addr)(F:Hp→Prop)(n:Nat)(σ:St)(te:TE):Prop:=∀(H:Hp) (Q:VK),F H→(∀v H',ae H H'→iK T n H' v→Q v H')→te σ H Q
def LA(T:Addr)(F:Hp→Prop)(n:Nat)(σ:St)(t:TA)(k:Nat):Prop:=∀(H:Hp) (Q:List V→Hp→Prop),F H→(∀vs H',ae H H'→vs.length=k→(∀v∈vs,iK T n H' v)→Q vs H')→t σ H Q
section
variable {T:Addr} {F:Hp→Prop} {σ:St} {n:Nat} {K:aD}
variable {i:Nat} {od:Addr} {zo:List Int}
theorem DX(hσ:σ[i]?=some (some (.ref od)))(hF:∀H,F H→H od=some (.lst (zo.map V.int)))(ne:od≠T):LE T F σ (jJ i) zo:=fun H Q f k=>⟨_,hσ,k od H (ae.refl _) ne (hF H f)⟩
variable {zs:List Int}
theorem xO(tF:∀H,F H→a7 H T){lo hi:Option Int}{tl th:TO}(hσ:σ[i]?=some (some (.ref od)))(hF:∀H,F H→H od=some (.lst (zo.map V.int)))(hl:∀(R:Option Int→Hp→Prop) (H:Hp),R lo H→tl σ H R)(hh:∀(R:Option Int→Hp→Prop) (H:Hp),R hi H→th σ H R)(ec:cT (zo.map V.int) lo hi=zs.map V.int):LE T F σ (pb (m8 K) (jJ i) tl th) zs:=fun H Q f k=>by refine ⟨_,hσ,hl _ _ (hh _ _ ⟨od,_,rfl,.of (hF H f),fun p np=>k p _ (aA np) ((tF H f).ne np) ?_⟩)⟩;rw [au,ec]
variable {t:TE}
theorem p5(tF:∀H,F H→a7 H T){z:Int}(h:∀(R:VK) (H:Hp),F H→R (.int z) H→t σ H R):LE T F σ (xg (lZ t jN)) [z]:=fun H Q f k=>h _ _ f ⟨by show 1≤sizeLine;decide,fun p np=>k p _ (aA np) ((tF _ f).ne np) au⟩
theorem le_nil(tF:∀H,F H→a7 H T):LE T F σ (xg jN) []:=fun H Q f k=>⟨b_ _,fun p np=>k p _ (aA np) ((tF _ f).ne np) au⟩
variable {te:TE}
theorem j6(tF:∀H,F H→a7 H T)(mF:Ab F){tr:TE}{xs ys:List Int}(h1:LE T F σ te xs)(h2:LE T F σ tr ys)(hl:xs.length+ys.length≤100):LE T F σ (lY CL te tr) (xs++ys):=fun H Q f k=>by
 refine h1 H _ f fun l1 H1 s1 _ e1=>h2 H1 _ (mF s1 f) fun l2 H2 s2 _ e2=>⟨l1,l2,_,_,rfl,rfl,s2 _ _ e1,e2,a8 (show _≤100 by simpa using hl) (by decide),fun p np=>k p _ (s1.trans (s2.trans (aA np))) ((tF _ (mF s2 (mF s1 f))).ne np) ?_⟩
 rw [au,kI]
theorem j7(h:LE T F σ te zs)(hl:zs.length<64)(no:¬gN zs n):LG T F n σ te:=fun H Q f k=>h H _ f fun l H' s ne e=>k _ H' s ⟨l,zs,rfl,ne,e,hl,no⟩
theorem DY:LA T F n σ jN 0:=fun H Q f k=>k [] H (ae.refl _) rfl fun v h=>nomatch h
variable {m:Nat}
theorem j8(mF:Ab F){tr:TA}(h:LG T F n σ t)(h':LA T F n σ tr m):LA T F n σ (lZ t tr) (m+1):=fun H Q f k=>
 h H _ f fun v H1 s1 b=>h' H1 _ (mF s1 f) fun vs H2 s2 l bl=>k (v::vs) H2 (s1.trans s2) (by rw [eK,l]) fun x hx=>by
  rcases cM.mp hx with rfl | hx;·exact b.mono s2
  ·exact bl x hx
variable {Q:VK}
theorem ll{t:TA}(h:LA T F n σ t m)(hm:m≤100)(f:F H)(k:∀(l:Addr) (vs:List V) (H':Hp),H l=none→ae H H'→H' l=some (.lst vs)→vs.length=m→(∀v∈vs,iK T n H' v)→Q (.ref l) H'):xg t σ H Q:=
 h H _ f fun vs H1 s1 l bl=>⟨by rw [l];exact a8 hm (by decide),fun p np=>k p vs _ (none_of s1 np) (s1.trans (aA np)) au l fun v hv=>(bl v hv).mono (aA np)⟩
theorem JZ{t:TA}{m0:Nat}{l0:Addr}{tW:List V}(h:LA T F n σ t m)(hm:m≤50)(f:F H)(e0:H l0=some (.lst tW))(Vc:tW.length=m0)(hm2:m0≤50)(b0:∀v∈tW,iK T n H v)(hσ:σ[i]?=some (some (.ref l0)))
  (k:∀(l:Addr) (vs:List V) (H':Hp),H l=none→ae H H'→H' l=some (.lst vs)→vs.length=m0+m→(∀v∈vs,iK T n H' v)→Q (.ref l) H'):lY CL (jJ i) (xg t) σ H Q:=by
 refine ⟨_,hσ,ll h (by lia) f fun l vs H1 nl s1 el ln bl=>?_⟩
 refine ⟨l0,l,tW,vs,rfl,rfl,s1 _ _ e0,el,a8 (show _≤100 by lia) (by decide),fun p np=>?_⟩
 refine k p _ _ (none_of s1 np) (s1.trans (aA np)) au (by rw [cR];lia) fun v hv=>?_
 rcases jB.mp hv with hv | hv;·exact ((b0 v hv).mono s1).mono (aA np)
 ·exact (bl v hv).mono (aA np)
end
variable {zs:List Int}
theorem DZ(h:zs.length≠n):¬gN zs n:=fun p=>h (by have:=p.length_eq;simpa using this)
theorem tX{z:Int}(hm:z∈zs)(h:¬(0≤z∧z<(n:Int))):¬gN zs n:=fun p=>h (by obtain ⟨k,hk,e⟩:=jG.mp (p.mem_iff.mp hm);have:=gS.mp hk;rw [←e];show 0≤(k:Int)∧(k:Int)<n;lia)
theorem Vd(h:¬zs.Nodup):¬gN zs n:=fun p=>h (p.nodup_iff.mpr (List.Pairwise.map _ (fun a b (ne:a≠b) z=>ne (by have:(a:Int)=(b:Int):=z;lia)) yV))
def Ve:Sp:=fun vs H Q _=>∃(T od:Addr) (n:Nat) (o:List Nat),vs=[.ref T,.ref od]∧a7 H T∧od≠T∧H od=some (.lst (bU o))∧o.Perm (List.range n)∧1≤n∧n≤9∧∀(v:V) (H':Hp),aG T H H'→a7 H' T→iK T n H' v→Q v H'
def ja(T:Addr)(q:Int)(H:Hp)(v:V):Prop:=∃(l:Addr) (k m:Nat) (ra:Nat→Addr) (vf:Nat→Nat→V) (f:Nat→Nat→Int×Int),v=.ref l∧l≠T∧(∀i,i<k→ra i≠T)∧gP H l k m ra vf∧(∀i j,i<k→j<m→bh 1000 H q (vf i j) (f i j).1 (f i j).2)∧1≤k∧k≤40∧m≠k
variable {q:Int}
theorem ja.mono(h:ja T q H v)(s:ae H H'):ja T q H' v:=let ⟨l,k,m,ra,vf,f,a,b,c,d,e,g⟩:=h;⟨l,k,m,ra,vf,f,a,b,c,d.mono s,fun i j hi hj=>(e i j hi hj).mono s,g⟩
theorem ja.off(h:ja T q H v)(t:a7 H T)(s:aG T H H'):ja T q H' v:=let ⟨l,k,m,ra,vf,f,a,b,c,d,e,g⟩:=h;⟨l,k,m,ra,vf,f,a,b,c,⟨s _ _ b d.lst,fun i hi=>s _ _ (c i hi) (d.at' i hi)⟩,fun i j hi hj=>(e i j hi hj).fV t s,g⟩
def Vf:Sp:=fun vs H Q _=>∃(td T tab:Addr) (q:Int) (n:Nat) (rt:Nat→Addr) (vf:Nat→Nat→V) (f:Nat→Nat→Int×Int),vs=[.ref td,.ref T,.ref tab]∧gq H td q∧bC q∧a7 H T∧gP H tab n n rt vf∧tab≠T∧(∀i,i<n→rt i≠T)∧(∀i j,i<n→j<n→bh 1000 H q (vf i j) (f i j).1 (f i j).2)∧1≤n∧n≤9∧∀(v:V) (H':Hp),aG T H H'→a7 H' T→ja T q H' v→Q v H'
theorem D3{te:TE}{tr:TA}{σ:St}{Q:List V→Hp→Prop}(h:te σ H fun x H1=>tr σ H1 fun ys H2=>Q (x::ys) H2):lZ te tr σ H Q:=h
def Vg(C Nf No:Addr):Sp:=fun vs H Q _=>∃(z a d e:Addr) (way:Int) (word:String),vs=[.ref z,.ref a,.ref d,.ref e,.int way] ∧
  ((way=0∧∀(Q':VK) (E':XK),(∀v H',ae H H'→word=""→Q' v H')→(∀H',ae H H'→word="fit"→E' (.ref Nf) none H')→(∀H',ae H H'→word="order"→E' (.ref No) none H')→xN C Nf No [.ref z,.ref a,.ref d,.ref e] H Q' E') ∨
   (way=1∧∀(Q':VK) (E':XK),(∀v H',ae H H'→word=""→Q' v H')→(∀H',ae H H'→word="fit"→E' (.ref Nf) none H')→(∀H',ae H H'→word="order"→E' (.ref No) none H')→DW C Nf No [.ref z,.ref a,.ref d] H Q' E'))∧∀H',ae H H'→Q (sV word) H'
end My
set_option maxRecDepth 100000
set_option maxHeartbeats 4000000
namespace My
open PySem L2
def top(i:Nat):Stmt:=PySem.Challenge.pw_bandwright_k36_along_refused.main.body.getD i (.Pass ⟨0,0,0,0⟩)
abbrev Ac:Stmt:=top 12
abbrev Ad:Stmt:=top 13
abbrev Ae:Stmt:=top 14
abbrev Af:Stmt:=top 18
abbrev D4:Stmt:=top 19
abbrev Ag:Stmt:=top 20
abbrev Ah:Stmt:=top 21
abbrev Ai:Stmt:=top 23
abbrev Aj:Stmt:=top 24
abbrev Ak:Stmt:=top 25
abbrev Al:Stmt:=top 27
abbrev Am:Stmt:=top 28
abbrev An:Stmt:=top 29
abbrev Ao:Stmt:=top 30
abbrev Ap:Stmt:=top 31
abbrev Aq:Stmt:=top 32
abbrev Ar:Stmt:=top 34
abbrev As:Stmt:=top 35
abbrev Au:Stmt:=top 37
abbrev Av:Stmt:=top 38
abbrev Aw:Stmt:=top 39
abbrev Ax:Stmt:=top 40
abbrev Ay:Stmt:=top 42
abbrev Az:Stmt:=top 43
abbrev AA:Stmt:=top 44
abbrev AB:Stmt:=top 45
abbrev AD:Stmt:=top 46
abbrev AE:Stmt:=top 48
abbrev AF:Stmt:=top 49
abbrev AG:Stmt:=top 50
abbrev AH:Stmt:=top 51
abbrev AI:Stmt:=top 52
abbrev AJ:Stmt:=top 54
abbrev AK:Stmt:=top 55
abbrev AL:Stmt:=top 58
abbrev AM:Stmt:=top 59
abbrev AN:Stmt:=top 62
abbrev AO:Stmt:=top 63
abbrev AQ:Stmt:=top 64
abbrev AR:Stmt:=top 65
abbrev AS:Stmt:=top 66
abbrev AU:Stmt:=top 67
abbrev AV:Stmt:=top 68
abbrev AW:Stmt:=top 69
abbrev AX:Stmt:=top 70
abbrev AY:Stmt:=top 71
abbrev AZ:Stmt:=top 72
abbrev A0:Stmt:=top 73
abbrev A1:Stmt:=top 74
abbrev A2:Stmt:=top 75
abbrev A3:Stmt:=top 76
abbrev A4:Stmt:=top 77
abbrev A5:Stmt:=top 78
abbrev A6:Stmt:=top 79
abbrev A7:Stmt:=top 80
abbrev A8:Stmt:=inClass (top 60) 0
abbrev jx:Stmt:=inClass (top 60) 3
abbrev D5:Stmt:=inClass (top 60) 4
abbrev A9:Stmt:=inClass (top 60) 5
abbrev A_:Stmt:=inClass (top 60) 6
abbrev Ba:Stmt:=inClass (top 60) 7
set_option genInjectivity false in
set_option genSizeOf false in
structure xP where
 p6:Addr
 tY:FuncData
 p7:Addr
 tZ:FuncData
 p8:Addr
 t6:FuncData
 p9:Addr
 t8:FuncData
 t9:Addr
 xQ:FuncData
 p_:Addr
 t_:FuncData
 qa:Addr
 ua:FuncData
 qb:Addr
 ub:FuncData
 qc:Addr
 uc:FuncData
 qd:Addr
 ud:FuncData
 qe:Addr
 ue:FuncData
 qf:Addr
 ug:FuncData
 qg:Addr
 uh:FuncData
 qh:Addr
 uj:FuncData
 qi:Addr
 um:FuncData
 qj:Addr
 uo:FuncData
 qk:Addr
 ur:FuncData
 ql:Addr
 uu:FuncData
 qm:Addr
 uv:FuncData
 qo:Addr
 uw:FuncData
 qr:Addr
 ux:FuncData
 qt:Addr
 uy:FuncData
 qu:Addr
 uz:FuncData
 qv:Addr
 uA:FuncData
 qw:Addr
 uB:FuncData
 qx:Addr
 uC:FuncData
 qy:Addr
 uD:FuncData
 qz:Addr
 uE:FuncData
 qA:Addr
 uF:FuncData
 qB:Addr
 uH:FuncData
 qC:Addr
 uI:FuncData
 qD:Addr
 uJ:FuncData
 qE:Addr
 uK:FuncData
 qF:Addr
 uM:FuncData
 qG:Addr
 uN:FuncData
 qH:Addr
 uO:FuncData
 qI:Addr
 uP:FuncData
 qJ:Addr
 uQ:FuncData
 qK:Addr
 uR:FuncData
 qL:Addr
 uS:FuncData
 qM:Addr
 uT:FuncData
 qN:Addr
 uU:FuncData
 qO:Addr
 uV:FuncData
 qP:Addr
 uW:FuncData
 qQ:Addr
 uX:FuncData
 qR:Addr
 uY:FuncData
 qS:Addr
 uZ:FuncData
 qT:Addr
 u0:FuncData
 qU:Addr
 u3:FuncData
 qV:Addr
 u4:FuncData
 qW:Addr
 u5:FuncData
 qX:Addr
 u6:FuncData
 qY:Addr
 u7:FuncData
 qZ:Addr
 u9:FuncData
 nS:Addr
 q5:FuncData
 q8:Addr
 u_:FuncData
 mr:Addr
 xR:FuncData
 va:Addr
 xS:FuncData
 q_:Addr
 vb:FuncData
 rb:Addr
 vc:FuncData
 rf:Addr
 vd:FuncData
 aX:Addr
 j9:Addr
 fX:Addr
 lI:Addr
 bf:Addr
 nU:Addr
 bq:Addr
 nV:Addr
 nW:Addr
 nX:Addr
abbrev bj (mg:cG) (x:Str) (f:Addr):Prop:=mg x=some (.ref f)
abbrev xT (K:aD) (a:Addr):Prop:=PySem.W.excIn K a [.type "ValueError",.type "Exception",.type "BaseException",.type "object"] "ValueError.__new__"=true
structure Txt (K:aD) (mg:cG) (t:xP):Prop where
 ve:az K "width" Ac t.p6 t.tY
 J0:Binds K t.tY ["table"] []
 J1:bj mg "width" t.p6
 vg:az K "square_size" Ad t.p7 t.tZ
 J2:Binds K t.tZ ["table"] []
 J4:bj mg "square_size" t.p7
 vh:az K "check_aim" Ae t.p8 t.t6
 J5:Binds K t.t6 ["n","aim"] []
 J6:bj mg "check_aim" t.p8
 rh:az K "is_whole" Af t.p9 t.t8
 D6:Binds K t.t8 ["thing"] []
 D7:bj mg "is_whole" t.p9
 Bb:az K "shortened" D4 t.t9 t.xQ
 Vh:Binds K t.xQ ["one","other"] []
 Vi:bj mg "shortened" t.t9
 lJ:az K "common_divisor" Ag t.p_ t.t_
 vi:Binds K t.t_ ["one","other"] []
 vj:bj mg "common_divisor" t.p_
 vk:az K "is_prime" Ah t.qa t.ua
 J7:Binds K t.ua ["number"] []
 J8:bj mg "is_prime" t.qa
 vm:az K "links_of_place" Ai t.qb t.ub
 J9:Binds K t.ub ["world","table","i"] []
 J_:bj mg "links_of_place" t.qb
 vn:az K "shape_of" Aj t.qc t.uc
 Ka:Binds K t.uc ["world","table"] []
 Kb:bj mg "shape_of" t.qc
 vp:az K "neighbours" Ak t.qd t.ud
 Ke:Binds K t.ud ["shape"] []
 Ki:bj mg "neighbours" t.qd
 vq:az K "is_order" Al t.qe t.ue
 Kj:Binds K t.ue ["thing","n"] []
 Kk:bj mg "is_order" t.qe
 vt:az K "check_order" Am t.qf t.ug
 Kl:Binds K t.ug ["order","n"] []
 Km:bj mg "check_order" t.qf
 rj:az K "turns_of" An t.qg t.uh
 D8:Binds K t.uh ["order"] []
 D9:bj mg "turns_of" t.qg
 vv:az K "link_all" Ao t.qh t.uj
 Kn:Binds K t.uj ["linked","places"] []
 Ko:bj mg "link_all" t.qh
 vw:az K "later" Ap t.qi t.um
 Kp:Binds K t.um ["shape","order"] []
 Kq:bj mg "later" t.qi
 vx:az K "place_deeds" Aq t.qj t.uo
 Kr:Binds K t.uo ["many"] []
 Ks:bj mg "place_deeds" t.qj
 vy:az K "undo_place" Ar t.qk t.ur
 Kt:Binds K t.ur ["world","work","place","others"] []
 Ku:bj mg "undo_place" t.qk
 rn:az K "packed" As t.ql t.uu
 D_:Binds K t.uu ["world","table","order"] []
 Ea:bj mg "packed" t.ql
 vz:az K "lowered" Au t.qm t.uv
 Kv:Binds K t.uv ["world","work","others","order","aim"] []
 Kw:bj mg "lowered" t.qm
 rq:az K "raised" Av t.qo t.uw
 Eb:Binds K t.uw ["world","work","others","places","row"] []
 Ec:bj mg "raised" t.qo
 vA:az K "tied_move" Aw t.qr t.ux
 Kx:Binds K t.ux ["world","work","others","order","many"] []
 Ky:bj mg "tied_move" t.qr
 vB:az K "along" Ax t.qt t.uy
 Kz:Binds K t.uy ["world","table","order","aim"] []
 KA:bj mg "along" t.qt
 vC:az K "lower_row" Ay t.qu t.uz
 KC:Binds K t.uz ["world","row","turns","i"] []
 KD:bj mg "lower_row" t.qu
 vD:az K "upper_row" Az t.qv t.uA
 KG:Binds K t.uA ["world","row","turns","i"] []
 KH:bj mg "upper_row" t.qv
 vE:az K "lower_of" AA t.qw t.uB
 KI:Binds K t.uB ["world","table","turns"] []
 KJ:bj mg "lower_of" t.qw
 vF:az K "upper_of" AB t.qx t.uC
 KN:Binds K t.uC ["world","table","turns"] []
 KO:bj mg "upper_of" t.qx
 vG:az K "factors" AD t.qy t.uD
 KP:Binds K t.uD ["world","table","order"] []
 KQ:bj mg "factors" t.qy
 vH:az K "ratio" AE t.qz t.uE
 KR:Binds K t.uE ["top","bottom"] []
 KS:bj mg "ratio" t.qz
 vI:az K "ratio_plus" AF t.qA t.uF
 KU:Binds K t.uF ["a","b"] []
 KW:bj mg "ratio_plus" t.qA
 vJ:az K "ratio_minus" AG t.qB t.uH
 KY:Binds K t.uH ["a","b"] []
 KZ:bj mg "ratio_minus" t.qB
 nY:az K "ratio_times" AH t.qC t.uI
 Bc:Binds K t.uI ["a","b"] []
 Bd:bj mg "ratio_times" t.qC
 vK:az K "ratio_over" AI t.qD t.uJ
 K6:Binds K t.uJ ["a","b"] []
 K7:bj mg "ratio_over" t.qD
 vL:az K "remainder_back" AJ t.qE t.uK
 K8:Binds K t.uK ["prime","number"] []
 K9:bj mg "remainder_back" t.qE
 rz:az K "remainder_over" AK t.qF t.uM
 Ed:Binds K t.uM ["prime","a","b"] []
 Ee:bj mg "remainder_over" t.qF
 vM:az K "is_fractions" AL t.qG t.uN
 K_:Binds K t.uN ["told"] []
 La:bj mg "is_fractions" t.qG
 vN:az K "is_wheel" AM t.qH t.uO
 Lb:Binds K t.uO ["told"] []
 Lc:bj mg "is_wheel" t.qH
 vO:az K "_law_acell" AN t.qI t.uP
 Ld:Binds K t.uP ["script","k"] []
 Le:bj mg "_law_acell" t.qI
 lK:az K "_law_atape" AO t.qJ t.uQ
 vP:Binds K t.uQ ["script","k"] []
 vQ:bj mg "_law_atape" t.qJ
 dZ:az K "_law_adigit" AQ t.qK t.uR
 fH:Binds K t.uR ["tape","many"] []
 fI:bj mg "_law_adigit" t.qK
 vR:az K "_law_adivisor" AR t.qL t.uS
 Lf:Binds K t.uS ["one","other"] []
 Lg:bj mg "_law_adivisor" t.qL
 vS:az K "_law_aturned" AS t.qM t.uT
 Lh:Binds K t.uT ["number","p"] []
 Li:bj mg "_law_aturned" t.qM
 nZ:az K "_law_anumber" AU t.qN t.uU
 Be:Binds K t.uU ["told","top","bottom"] []
 Bf:bj mg "_law_anumber" t.qN
 vT:az K "_law_aworld" AV t.qO t.uV
 Lj:Binds K t.uV ["tape"] []
 Ll:bj mg "_law_aworld" t.qO
 mw:az K "_law_asome" AW t.qP t.uW
 xU:Binds K t.uW ["told","tape"] []
 xV:bj mg "_law_asome" t.qP
 n8:az K "_law_anought" AX t.qQ t.uX
 Bg:Binds K t.uX ["told"] []
 Bh:bj mg "_law_anought" t.qQ
 vU:az K "_law_atable" AY t.qR t.uY
 Lm:Binds K t.uY ["told","tape","size","links"] []
 Ln:bj mg "_law_atable" t.qR
 vV:az K "_law_alinks" AZ t.qS t.uZ
 Lo:Binds K t.uZ ["tape","size"] []
 Lp:bj mg "_law_alinks" t.qS
 vW:az K "_law_aorder" A0 t.qT t.u0
 Lq:Binds K t.u0 ["tape","size"] []
 Lr:bj mg "_law_aorder" t.qT
 rA:az K "_law_arow" A1 t.qU t.u3
 Ef:Binds K t.u3 ["told","tape","size"] []
 Eg:bj mg "_law_arow" t.qU
 vX:az K "_law_apiece" A2 t.qV t.u4
 Ls:Binds K t.u4 ["script","start"] []
 Lu:bj mg "_law_apiece" t.qV
 vY:az K "_law_akind" A3 t.qW t.u5
 Lv:Binds K t.u5 ["caught"] []
 Lw:bj mg "_law_akind" t.qW
 jy:az K "_law_atold" A4 t.qX t.u6
 n_:Binds K t.u6 ["world","table","order","aim","way"] []
 og:bj mg "_law_atold" t.qX
 vZ:az K "_law_abad_order" A5 t.qY t.u7
 Lx:Binds K t.u7 ["tape","order"] []
 Ly:bj mg "_law_abad_order" t.qY
 v8:az K "_law_abad_table" A6 t.qZ t.u9
 Lz:Binds K t.u9 ["told","tape","table"] []
 LB:bj mg "_law_abad_table" t.qZ
 v9:az K "law" A7 t.nS t.q5
 Vj:Binds K t.q5 ["script"] []
 LC:bj mg "law" t.nS
 xW:dO K "__init__" "World.__init__" A8 t.q8 t.u_
 LD:Binds K t.u_ ["self","told"] []
 Bi:Mk K t.aX t.q8
 LF:i6 K "of" "World.of" jx 1 t.mr t.xR
 Vk:Binds K t.xR ["self","top","bottom"] []
 v_:∃v,Vals [V.int 1] [v]∧Binds K t.xR ["self","top","bottom"] [v]
 Vl:∀(s:Shared) (us ws:List Value),K.In s.heap→ws.length=1→us.length+1=(["self","top","bottom"]:List Str).length→BindsTo s t.xR ⟨us,[("bottom":Str)].zip ws⟩ ((["self","top","bottom"]:List Str).zip (us++ws))
 oh:Meth K t.aX "of" t.mr
 Bj:dO K "plus" "World.plus" D5 t.va t.xS
 Vm:Binds K t.xS ["self","a","b"] []
 Eh:Meth K t.aX "plus" t.va
 xX:dO K "minus" "World.minus" A9 t.q_ t.vb
 Bk:Binds K t.vb ["self","a","b"] []
 wa:Meth K t.aX "minus" t.q_
 xY:dO K "times" "World.times" A_ t.rb t.vc
 Bl:Binds K t.vc ["self","a","b"] []
 wb:Meth K t.aX "times" t.rb
 xZ:dO K "over" "World.over" Ba t.rf t.vd
 Ei:Binds K t.vd ["self","a","b"] []
 x4:Meth K t.aX "over" t.rf
 dh:jM K t.aX
 LH:bj mg "World" t.aX
 jb:o9 K t.aX "prime"
 Ej:bj mg "NoWorld" t.j9
 x5:bj mg "NoOver" t.fX
 LI:bj mg "WrightError" t.lI
 x8:bj mg "NoFit" t.bf
 LJ:bj mg "NoShape" t.nU
 Ek:bj mg "NoOrder" t.bq
 LK:bj mg "NoSize" t.nV
 LL:bj mg "NoLink" t.nW
 LM:bj mg "Tied" t.nX
 LN:mg "ValueError"=none
 Bm:mg "abs"=none
 LO:mg "all"=none
 LP:mg "any"=none
 LQ:mg "bool"=none
 rB:mg "enumerate"=none
 Bn:mg "int"=none
 ie:mg "isinstance"=none
 fc:mg "len"=none
 wc:mg "list"=none
 LR:mg "max"=none
 LS:mg "min"=none
 iL:mg "range"=none
 LU:mg "reversed"=none
 El:mg "sorted"=none
 LV:mg "sum"=none
 Bo:mg "tuple"=none
 Vn:mg "zip"=none
 LW:∃u,mg "GREATEST_PRIME"=some u∧RelV (.int 997) u
 LX:∃u,mg "LONG"=some u∧RelV (.int 2048) u
 LY:xT K t.j9
 Bp:xT K t.fX
 we:xT K t.bf
 Bq:xT K t.bq
 LZ:xT K t.lI
 Em:PySem.W.mroIn K t.bf (.ref t.lI)=some true
 L0:PySem.W.kitOne K (.ref t.bf) (.type "ValueError")=some true
 L3:PySem.W.kitOne K (.ref t.bf) (.ref t.j9)=some false
 L4:PySem.W.kitOne K (.ref t.bf) (.ref t.fX)=some false
 L5:PySem.W.kitOne K (.ref t.bf) (.ref t.bf)=some true
 L6:PySem.W.kitOne K (.ref t.bf) (.ref t.nU)=some false
 L7:PySem.W.kitOne K (.ref t.bf) (.ref t.bq)=some false
 L8:PySem.W.kitOne K (.ref t.bf) (.ref t.nV)=some false
 L9:PySem.W.kitOne K (.ref t.bf) (.ref t.nW)=some false
 L_:PySem.W.kitOne K (.ref t.bf) (.ref t.nX)=some false
 Ma:PySem.W.hasDictIn K t.bf=true
 Mb:PySem.W.findIn K (.ref t.bf) "__getattribute__"=some (some (.builtin "BaseException.__getattribute__"))
 Mc:PySem.W.findIn K (.ref t.bf) "__getattr__"=some none
 Md:PySem.W.findIn K (.ref t.bf) "__class__"=some (some (.builtin "object.__class__"))
 Me:PySem.W.mroIn K t.bf (.type "object")=some true
 Mf:PySem.W.mroIn K t.bf (.type "BaseException")=some true
 Eo:PySem.W.mroIn K t.bq (.ref t.lI)=some true
 Mg:PySem.W.kitOne K (.ref t.bq) (.type "ValueError")=some true
 Mh:PySem.W.kitOne K (.ref t.bq) (.ref t.j9)=some false
 Mi:PySem.W.kitOne K (.ref t.bq) (.ref t.fX)=some false
 Mj:PySem.W.kitOne K (.ref t.bq) (.ref t.bf)=some false
 Ml:PySem.W.kitOne K (.ref t.bq) (.ref t.nU)=some false
 Mm:PySem.W.kitOne K (.ref t.bq) (.ref t.bq)=some true
 Mn:PySem.W.kitOne K (.ref t.bq) (.ref t.nV)=some false
 Mo:PySem.W.kitOne K (.ref t.bq) (.ref t.nW)=some false
 Mp:PySem.W.kitOne K (.ref t.bq) (.ref t.nX)=some false
 Mq:PySem.W.hasDictIn K t.bq=true
 Mr:PySem.W.findIn K (.ref t.bq) "__getattribute__"=some (some (.builtin "BaseException.__getattribute__"))
 Ms:PySem.W.findIn K (.ref t.bq) "__getattr__"=some none
 Mt:PySem.W.findIn K (.ref t.bq) "__class__"=some (some (.builtin "object.__class__"))
 Mu:PySem.W.mroIn K t.bq (.type "object")=some true
 Mv:PySem.W.mroIn K t.bq (.type "BaseException")=some true
section
variable {P:Program} {w:World} {K:aD} {mg:cG} {base:Heap} {t:xP}
theorem Vo:ba ["thing"] ["thing"] (aH Af):=bF
theorem Mw(T:Txt K mg t):aV P w K mg base bK 1 t.p9 t.t8 ["thing"] Q4:=by
 have S:=Vo;refine T.rh.bS S (fun _ _ _ _ H _ Q _ hr h=>?_);obtain ⟨v,rfl,ha,k⟩:=h;refine ⟨_,(ar (aT (w_ (bR (iD (K:=K)) rfl T.ie boot_isinstance (aa (pv 0) (aa (sE (v:=.ty "int") rfl T.Bn boot_int rfl) af))) (Cd (Oe (bR (iD (K:=K)) rfl T.ie boot_isinstance (aa (pv 0) (aa (sE (v:=.ty "bool") rfl T.LQ boot_bool rfl) af)))))))),?_⟩;obtain ⟨Ty,ty,k1,k2,_⟩:=ha.CW (K:=K);refine ⟨_,rfl,_,_,_,_,rfl,rfl,ty,k1,_,rfl,b7 (fun h1=>?_) (fun h1=>?_)⟩
 ·refine ⟨_,rfl,_,_,_,_,rfl,rfl,ty,k2,_,rfl,?_⟩
  have e:(!tu v)=tj v:=by
   cases h2:tu v with
   | true=>rw [Q0 h2];rfl
   | false=>rw [h2,Bool.or_false] at h1;rw [h1];rfl
  show Q (.bl (!tu v)) H;rw [e];exact k
 ·have e:tj v=false:=by
   cases h2:tj v with
   | true=>rw [h2] at h1;exact absurd rfl h1
   | false=>rfl
  rw [e] at k;exact k
theorem Vp:ba ["one","other","left","shorter"] ["one","other"] (aH Ag):=bF
theorem x9(T:Txt K mg t):aV P w K mg base bK 1 t.p_ t.t_ ["one","other"] Q5:=by
 have S:=Vp;obtain ⟨uL,hL,rL⟩:=T.LX;refine T.lJ.bS S (fun _ _ _ _ H _ _ _ hr h=>?_);obtain ⟨a,b,rfl,mb,k⟩:=h
 refine ⟨_,(aj (putL 0 S.nd (bR Cv rfl T.Bm boot_abs (aa (pv 0) af)))
  (aj (putL 1 S.nd (bR Cv rfl T.Bm boot_abs (aa (pv 1) af)))
  (aj (xb dB (bN sM (pv 1) ag) (aj (putL 2 S.nd (ax gf (pv 0) (pv 1)))
  (aj (putL 0 S.nd (pv 1))
  (aj (putL 1 S.nd (pv 2))
  (ar (bT (bN sM (PJ PySem.F.plainAttrs_int PySem.F.slot_int_bit_length PySem.F.type_int_bit_length QY (pv 0)) (kT (v:=.int 2048) rfl hL rL)) Ol bZ))))))
  (ar (aT (pv 0)))))),?_⟩
 refine ⟨_,rfl,a,rfl,_,rfl,b,rfl,fun m σ H'=>H'=H∧∃(x y:Nat) (v u:Option V),σ=[some (.int (x:Int)),some (.int (y:Int)),v,u]∧m=y∧y≤b.natAbs∧Nat.gcd x y=Int.gcd a b,⟨b.natAbs,rfl,a.natAbs,b.natAbs,none,none,?_,rfl,aN _,rfl⟩,?_⟩
 ·show [some (V.int (if a<0 then -a else a)),some (V.int (if b<0 then -b else b)),none,none]=_
  rw [C8,C8]
 ·rintro m σ H' ⟨rfl,x,y,v,u,rfl,em,hb,hg⟩
  refine ⟨_,rfl,_,_,rfl,rfl,_,rfl,b7 (fun hy=>?_) (fun hy=>?_)⟩
  ·have hy:(0:Int)<y:=fh hy
   refine ⟨fun σ' H2=>H2=H'∧σ'=[some (.int (y:Int)),some (.int (((x % y:Nat)):Int)),some (.int (((x % y:Nat)):Int)),u],?_,?_⟩
   ·rintro σ' H2 ⟨rfl,rfl⟩
    exact ⟨x % y,by rw [em];exact Nat.mod_lt _ (by lia),rfl,y,x % y,_,_,rfl,rfl,a8 (Nat.le_of_lt (Nat.mod_lt _ (by lia))) hb,by rw [Q1];exact hg⟩
   ·have hm:dC (y:Int):=kD (by rw [wL];exact hb) mb
    have hbt:=QZ hm;refine ⟨_,rfl,_,rfl,_,_,rfl,rfl,hy,_,rfl,_,rfl,_,rfl,rfl,_,rfl,rfl,_,_,rfl,rfl,_,rfl,b7 (fun hz=>?_) (fun _=>⟨rfl,rfl⟩)⟩;have hz:=fh hz;exact absurd hz (by lia)
  ·have hy:¬(0:Int)<y:=fun z=>hy (dc z)
   have y0:y=0:=by lia
   subst y0;rw [Nat.gcd_zero_right] at hg;rw [←hg] at k;exact ⟨_,rfl,k⟩
theorem Vq:ba ["number","divisor"] ["number"] (aH Ah):=bF
theorem Vr(T:Txt K mg t):aV P w K mg base bK 1 t.qa t.ua ["number"] Q6:=by
 have S:=Vq;refine T.vk.bS S (fun _ _ _ _ H _ Q _ hr h=>?_);obtain ⟨n,rfl,Vs,sO,k⟩:=h
 refine ⟨_,(aj (putL 1 S.nd ag)
  (aj (xb dB (bN Ct (ax fO (pv 1) (pv 1)) (pv 0)) (aj (bT (bN fP (ax gf (pv 0) (pv 1)) ag) (ar (aT iU)) bZ)
  (ar (Ov (i:=1) S.nd rfl (Or.inl rfl) ag Oy))))
  (ar (aT (sN OS (pv 0) ag))))),?_⟩
 refine ⟨fun m σ H'=>H'=H∧∃d:Int,σ=[some (.int n),some (.int d)]∧2≤d∧d≤32∧m=(33-d).toNat∧∀e:Int,2≤e→e<d→n % e≠0,⟨_,rfl,2,rfl,by lia,by lia,rfl,fun e a b=>by lia⟩,?_⟩
 rintro m σ H' ⟨rfl,d,rfl,h1,h2,rfl,h3⟩;refine ⟨_,rfl,_,rfl,_,_,rfl,rfl,.inl ⟨by lia,by lia⟩,_,rfl,_,_,rfl,rfl,_,rfl,b7 (fun hq=>?_) (fun hq=>?_)⟩
 ·have hq:=fh hq
  have hd:d<32:=by
   by_cases z:d<32;·exact z
   ·have:d=32:=by lia
    subst this;lia
  refine ⟨fun σ' H2=>H2=H'∧σ'=[some (.int n),some (.int (d+1))]∧n % d≠0,?_,?_⟩
  ·rintro σ' H2 ⟨rfl,rfl,hm⟩
   refine ⟨(33-(d+1)).toNat,by lia,rfl,d+1,rfl,by lia,by lia,rfl,fun e a b=>?_⟩
   by_cases z:e=d;·subst z;exact hm
   ·exact h3 e a (by lia)
  ·refine ⟨_,rfl,_,rfl,_,_,rfl,rfl,(show (0:Int)<d by lia),rfl,_,rfl,b7 (fun hm=>?_) (fun hm=>?_)⟩
   ·have hm:=V.int.inj (fh hm)
    rw [Iv sO h1 hq hm] at k;exact k
   ·exact ⟨_,rfl,_,_,rfl,rfl,rfl,rfl,fun z=>hm (dc (gU V.int z))⟩
 ·have hq:¬d*d≤n:=fun z=>hq (dc z)
  refine ⟨_,rfl,_,_,rfl,rfl,?_⟩;rw [QO (n:=n) (d:=d) (by lia) h1 h3] at k
  have e:decide ((2:Int)≤n)=true:=dc Vs;show Q (.bl (decide ((2:Int)≤n))) H';rw [e];exact k
theorem Vt:ba ["told"] ["told"] (aH AL):=bF
theorem Vu(T:Txt K mg t):aV P w K mg base bK 1 t.qG t.uN ["told"] Q7:=by
 have S:=Vt;refine T.vM.bS S (fun _ _ _ _ H _ _ _ hr h=>?_);obtain ⟨p,d,rfl,hp,k⟩:=h;refine ⟨_,(ar (aT (w_ (bR (iD (K:=K)) rfl T.ie boot_isinstance (aa (pv 0) (aa (sE (v:=.ty "tuple") rfl T.Bo boot_tuple rfl) af))) (w_ (sN fP (bR fQ rfl T.fc fj (aa (pv 0) af)) ag) (Cd (sN fP (aB bH (pv 0) ag) cz)))))),?_⟩;refine ⟨_,rfl,_,_,_,true,rfl,rfl,.of (.tup hp),C7,true,rfl,gg ?_⟩;cases d with
 | a x=>refine ⟨_,rfl,p,_,rfl,.inr (.of hp),rfl,true,rfl,gg ?_⟩;refine ⟨_,rfl,p,_,0,.str x,rfl,rfl,.of hp,rfl,rfl,?_⟩;rw [C6];exact k
 | b x n=>exact ⟨_,rfl,p,_,rfl,.inr (.of hp),rfl,false,rfl,cK k⟩
theorem Vv:ba ["told"] ["told"] (aH AM):=bF
theorem Vw(T:Txt K mg t):aV P w K mg base bK 2 t.qH t.uO ["told"] Q8:=by
 have S:=Vv;obtain ⟨uG,hG,rG⟩:=T.LW;refine T.vN.bS S (fun _ _ _ _ H _ _ _ hr h=>?_);obtain ⟨p,d,rfl,hp,k⟩:=h
 refine ⟨_,(aj (bT (PW.pt (pw_or (w9 (mV (bR (iD (K:=K)) rfl T.ie boot_isinstance (aa (pv 0) (aa (sE (v:=.ty "tuple") rfl T.Bo boot_tuple rfl) af))))) (pw_or (bN fz (bR fQ rfl T.fc fj (aa (pv 0) af)) ag) (pw_or1 (bN fz (aB bH (pv 0) ag) cz))))) (ar (aT iU)) bZ)
  (ar (aT (w_ (aW (Mw T) hr T.D7 T.rh.kp T.D6 aI (aa (aB bH (pv 0) ag) af)) (w_ (OU Ct Ct ag (aB bH (pv 0) ag) (kT (v:=.int 997) rfl hG rG)) (Cd (aW (Vr T) hr T.J8 T.vk.kp T.J7 aI (aa (aB bH (pv 0) ag) af)))))))),?_⟩
 refine ⟨_,rfl,_,_,_,true,rfl,rfl,.of (.tup hp),C7,true,rfl,cK ?_⟩;cases d with
 | a x=>exact ⟨_,rfl,p,_,rfl,.inr (.of hp),rfl,true,rfl,gg (gg k)⟩
 | b x n=>
  refine ⟨_,rfl,p,_,rfl,.inr (.of hp),rfl,false,rfl,cK ?_⟩;refine ⟨_,rfl,p,_,0,.str x,rfl,rfl,.of hp,rfl,rfl,_,rfl,b7 (fun hw=>?_) (fun hw=>?_)⟩
  ·have hw:¬x="wheel":=by rw [C6] at hw;simpa using hw
   have e:(Td.b x n).jq=false:=by simp [Td.jq,hw]
   rw [e] at k;exact k
  ·have hw:x="wheel":=by rw [C6] at hw;simpa using hw
   refine ⟨_,rfl,p,_,1,.int n,rfl,rfl,.of hp,rfl,.int n,rfl,.int n,true,rfl,gg ?_⟩;refine ⟨_,rfl,p,_,1,.int n,rfl,rfl,.of hp,rfl,_,_,rfl,rfl,_,rfl,?_⟩;refine b7 (fun h2=>?_) (fun h2=>?_)
   ·have h2:=fh h2
    refine ⟨_,_,rfl,rfl,_,rfl,b7 (fun h3=>?_) (fun h3=>?_)⟩
    ·have h3:=fh h3
     refine ⟨_,rfl,p,_,1,.int n,rfl,rfl,.of hp,rfl,n,rfl,h2,h3,?_⟩;have e:(Td.b x n).jq=gK n:=by simp [Td.jq,hw,h2,h3]
     rw [e] at k;exact k
    ·have h3:¬n≤997:=fun z=>h3 (dc z)
     have e:(Td.b x n).jq=false:=by simp [Td.jq,h3]
     rw [e] at k;exact k
   ·have h2:¬2≤n:=fun z=>h2 (dc z)
    have e:(Td.b x n).jq=false:=by simp [Td.jq,h2]
    rw [e] at k;exact ⟨false,rfl,cK k⟩
theorem Vx:ba ["self","told"] ["self","told"] (aH A8):=bF
theorem Vy(T:Txt K mg t):aV P w K mg base (cL P w) 3 t.q8 t.u_ ["self","told"] (Q9 t.aX t.j9):=by
 have S:=Vx;refine T.xW.dP S (fun _ _ _ _ H _ _ _ hr h L=>?_);obtain ⟨x,dx,p,d,rfl,hx,hp,k1,k2⟩:=h;refine ⟨_,(ar (bT (mV (aW (Vu T) hr T.La T.vM.kp T.K_ aI (aa (pv 1) af))) (ar (Hv (pv 0) jK rfl)) (ar (bT (mV (aW (Vw T) hr T.Lc T.vN.kp T.Lb aI (aa (pv 1) af))) (ar (Hv (pv 0) (aB bH (pv 1) ag) rfl)) (ar (m9 L rfl lQ T.LY rfl T.Ej (aa cz af))))))),?_⟩;refine ⟨_,rfl,p,d,rfl,hp,_,rfl,b7 (fun hF=>?_) (fun hF=>?_)⟩
 ·refine ⟨_,rfl,x,t.aX,dx,[],rfl,hx,T.dh,T.jb,(by show 0<1000;decide),?_⟩
  have e:d.prime=.aF:=by
   cases d with
   | a x=>rfl
   | b x n=>cases hF
  have k:=k1 (by unfold Td.good;rw [hF];rfl)
  rw [e] at k;exact k
 ·have hF:d.xq=false:=by simpa using hF
  refine ⟨_,rfl,p,d,rfl,hp,_,rfl,b7 (fun hW=>?_) (fun hW=>?_)⟩
  ·have k:=k1 (by unfold Td.good;rw [hW,Bool.or_true])
   cases d with
   | a x=>cases hW
   | b y n=>exact ⟨_,rfl,p,_,1,.int n,rfl,rfl,.of hp,rfl,_,rfl,x,t.aX,dx,[],rfl,hx,T.dh,T.jb,(by show 0<1000;decide),k⟩
  ·have hW:d.jq=false:=by simpa using hW
   exact ⟨by show 1≤sizeLine;decide,k2 (by unfold Td.good;rw [hF,hW];rfl)⟩
theorem Vz:ba ["top","bottom","shared"] ["top","bottom"] (aH AE):=bF
theorem VA(T:Txt K mg t):aV P w K mg base (cL P w) 2 t.qz t.uE ["top","bottom"] (Ru t.fX):=by
 have S:=Vz;refine T.vH.dP S (fun _ _ _ _ H _ _ _ hr h L=>?_);obtain ⟨a,b,rfl,mb,kE,k⟩:=h
 refine ⟨_,(aj (bT (bN fP (pv 1) ag) (ar (m9 L rfl lQ T.Bp rfl T.x5 (aa cz af))) bZ)
  (dN.jj (aj (putL 2 S.nd (aW (x9 T) hr T.vj T.lJ.kp T.vi aI (aa (pv 0) (aa (pv 1) af))))
  (aj (bT (bN oY (pv 1) ag) (ar (putL 2 S.nd (m4 m6 (pv 2)))) bZ)
  (ar (aT (eZ (aa (ax zw (pv 0) (pv 2)) (aa (ax zw (pv 1) (pv 2)) af))))))))),?_⟩
 have n2:2≤sizeLine:=by decide
 refine ⟨_,rfl,rfl,_,rfl,b7 (fun hz=>?_) (fun hz=>?_)⟩
 ·have hz:b=0:=V.int.inj (fh hz)
  exact ⟨by show 1≤sizeLine;decide,kE hz⟩
 have hz:b≠0:=fun z=>hz (dc (by rw [z]))
 have ok:=Q3 (a:=a) hz mb;have kk:=k hz;unfold xv xw at kk;refine ⟨_,rfl,_,rfl,a,b,rfl,mb,_,rfl,_,_,rfl,rfl,_,rfl,b7 (fun hn=>?_) (fun hn=>?_)⟩
 ·have hn:b<0:=fh hn
  have e:lowG a b=-(Int.gcd a b:Int):=by unfold lowG;rw [aq hn,Int.zero_sub]
  rw [e] at ok kk;refine ⟨_,rfl,_,rfl,_,rfl,_,rfl,_,_,rfl,rfl,ok,_,rfl,_,rfl,_,_,rfl,rfl,ok,n2,fun r hr=>kk r _ (aA hr) au⟩
 ·have hn:¬b<0:=fun z=>hn (dc z)
  have e:lowG a b=(Int.gcd a b:Int):=by unfold lowG;rw [ak hn]
  rw [e] at ok kk;refine ⟨_,rfl,_,rfl,_,_,rfl,rfl,ok,_,rfl,_,rfl,_,_,rfl,rfl,ok,n2,fun r hr=>kk r _ (aA hr) au⟩
theorem VB:ba ["prime","number","last","last_times","now","now_times","fits","left","left_times"] ["prime","number"] (aH AJ):=bF
theorem VC(T:Txt K mg t):aV P w K mg base (cL P w) 1 t.qE t.uK ["prime","number"] (Rk t.fX):=by
 have S:=VB;refine T.vL.dP S (fun _ _ _ _ H _ _ _ hr h L=>?_);obtain ⟨q,b,rfl,q1,q2,q3,b0,b1,kE,k⟩:=h
 refine ⟨_,(aj (bT (bN fP (pv 1) ag) (ar (m9 L rfl lQ T.Bp rfl T.x5 (aa cz af))) bZ)
  (dN.jj (aj (putL 2 S.nd (pv 0))
  (aj (putL 3 S.nd ag)
  (aj (putL 4 S.nd (pv 1))
  (aj (putL 5 S.nd ag)
  (aj (xb dB (bN sM (pv 4) ag) (aj (putL 6 S.nd (ax zc (pv 2) (pv 4)))
  (aj (putL 7 S.nd (ax k6 (pv 2) (ax fO (pv 6) (pv 4))))
  (aj (putL 8 S.nd (ax k6 (pv 3) (ax fO (pv 6) (pv 5))))
  (aj (putL 2 S.nd (pv 4))
  (aj (putL 3 S.nd (pv 5))
  (aj (putL 4 S.nd (pv 7))
  (ar (putL 5 S.nd (pv 8))))))))))
  (ar (aT (ax gf (pv 5) (pv 0))))))))))),?_⟩
 refine ⟨_,rfl,rfl,_,rfl,b7 (fun hz=>?_) (fun hz=>?_)⟩
 ·have hz:b=0:=V.int.inj (fh hz)
  exact ⟨by show 1≤sizeLine;decide,kE hz⟩
 have hz:b≠0:=fun z=>hz (dc (by rw [z]))
 refine ⟨_,rfl,_,rfl,fun m σ H'=>H'=H∧∃(l lt n nt:Int) (v1 v2 v3:Option V),σ=[some (.int q),some (.int b),some (.int l),some (.int lt),some (.int n),some (.int nt),v1,v2,v3]∧m=n.toNat∧me q b l lt n nt∧l≤997,
  ⟨b.toNat,rfl,q,0,b,1,none,none,none,rfl,rfl,me.start q1 q2 q3 (by lia) b1,q2⟩,?_⟩
 rintro m σ H' ⟨rfl,l,lt,n,nt,v1,v2,v3,rfl,em,hb,hl⟩;have p1:=hb.pos;have p2:=hb.less;refine ⟨_,rfl,_,_,rfl,rfl,_,rfl,b7 (fun hy=>?_) (fun hy=>?_)⟩
 ·have hy:1<n:=fh hy
  have hs:=hb.step hy;have f0:0≤l / n:=yX (by lia) (by lia)
  have f1:l / n≤l:=Int.ediv_le_self _ (by lia)
  refine ⟨fun σ' H2=>H2=H'∧σ'=[some (.int q),some (.int b),some (.int n),some (.int nt),some (.int (l-l / n*n)),some (.int (lt-l / n*nt)),some (.int (l / n)),some (.int (l-l / n*n)),some (.int (lt-l / n*nt))],?_,?_⟩
  ·rintro σ' H2 ⟨rfl,rfl⟩
   exact ⟨(l-l / n*n).toNat,by rw [em];lia,rfl,_,_,_,_,_,_,_,rfl,rfl,hs.1,by lia⟩
  ·exact ⟨_,rfl,_,rfl,_,_,rfl,rfl,⟨by lia,by lia⟩,_,rfl,_,rfl,_,rfl,_,_,rfl,rfl,.inr ⟨by lia,by lia⟩,_,_,rfl,rfl,
    _,rfl,_,rfl,_,rfl,_,_,rfl,rfl,.inl ⟨by lia,by lia⟩,_,_,rfl,rfl,_,rfl,_,rfl,_,rfl,_,rfl,rfl,rfl⟩
 ·have hy:¬1<n:=fun z=>hy (dc z)
  have n1:n=1:=by lia
  subst n1;exact ⟨_,rfl,_,rfl,_,_,rfl,rfl,(show (0:Int)<q by lia),k hz _ (gw _ (by lia)) (gW _ (by lia)) (hb.done q1)⟩
theorem VD:ba ["prime","a","b"] ["prime","a","b"] (aH AK):=bF
theorem Mx(T:Txt K mg t):aV P w K mg base (cL P w) 2 t.qF t.uM ["prime","a","b"] (Rm t.fX):=by
 have S:=VD;refine T.rz.dP S (fun _ _ _ _ H _ _ _ hr h L=>?_);obtain ⟨q,i,j,rfl,q1,q2,q3,i0,i1,j0,j1,kE,k⟩:=h;refine ⟨_,(ar (aT (ax gf (ax fO (pv 1) (aW (VC T) hr T.K9 T.vL.kp T.K8 (i3 L) (aa (pv 0) (aa (pv 2) af)))) (pv 0)))),?_⟩
 exact ⟨_,rfl,_,rfl,_,rfl,q,j,rfl,q1,q2,q3,j0,j1,kE,fun hj r r0 r1 wg=>⟨_,_,rfl,rfl,.inl ⟨by lia,by lia⟩,_,rfl,_,_,rfl,rfl,(show (0:Int)<q by lia),
  k hj _ (gw _ (by lia)) (gW _ (by lia)) (Rp q1 i0 i1 wg)⟩⟩
theorem VE:ba ["self","top","bottom"] ["self","top","bottom"] (aH jx):=bF
theorem x_(T:Txt K mg t):aV P w K mg base (cL P w) 3 t.mr t.xR ["self","top","bottom"] (Rv t.aX t.fX):=by
 have S:=VE;refine T.LF.sX S (fun vs H Q E h=>?_) (fun aZ A outer s H vs Q E hr h L=>?_)
 ·obtain ⟨z,q,a,b,rfl,_⟩:=h
  rfl
 ·obtain ⟨z,q,a,b,rfl,⟨dx,hx⟩,hq,mb,kE,k⟩:=h
  refine ⟨_,(aj (bT (bN xf (k7 (pv 0) rfl) jK) (ar (aT (aW (VA T) hr T.KS T.vH.kp T.KR (i3 L) (aa (pv 1) (aa (pv 2) af))))) bZ)
   (ar (aT (aW (Mx T) hr T.Ee T.rz.kp T.Ed (i3 L) (aa (k7 (pv 0) rfl) (aa (ax gf (pv 1) (k7 (pv 0) rfl)) (aa (ax gf (pv 2) (k7 (pv 0) rfl)) af))))))),?_⟩
  refine ⟨_,rfl,z,t.aX,dx,_,_,rfl,hx,T.dh,T.jb,lh _,rfl,_,rfl,?_⟩;rcases hq with rfl | ⟨q2,q3,q4⟩
  ·rw [aq rfl]
   refine gg ⟨_,rfl,_,rfl,a,b,rfl,mb,fun hb=>kE (by unfold nB;rw [aq rfl];exact hb),fun hb r H' s' er=>k (fun hn=>hb (by unfold nB at hn;rw [aq rfl] at hn;exact hn)) _ H' s' (.inl ⟨rfl,r,rfl,er⟩)⟩
  ·have hq:q≠0:=by lia
   rw [ak hq] at hx ⊢;have p0:(0:Int)<q:=by lia
   refine cK ⟨_,rfl,z,t.aX,dx,_,_,rfl,hx,T.dh,T.jb,lh _,_,rfl,_,rfl,z,t.aX,dx,_,_,rfl,hx,T.dh,T.jb,lh _,_,_,rfl,rfl,p0,_,rfl,_,rfl,z,t.aX,dx,_,_,rfl,hx,T.dh,T.jb,lh _,_,_,rfl,rfl,p0,?_⟩;have nv:nB q b↔b % q=0:=by unfold nB;rw [ak hq]
   exact ⟨q,a % q,b % q,rfl,q2,q3,q4,gw _ hq,gW _ p0,gw _ hq,gW _ p0,fun hj=>kE (nv.mpr hj),fun hj r r0 r1 wg=>k (fun z=>hj (nv.mp z)) _ H (ae.refl H) (.inr ⟨q2,r,rfl,r0,r1,wg⟩)⟩
theorem VF:ba ["a","b","shared","top","again"] ["a","b"] (aH AF):=bF
theorem VG(T:Txt K mg t):aV P w K mg base bK 2 t.qA t.uF ["a","b"] Rg:=by
 have S:=VF;refine T.vI.bS S (fun _ _ _ _ H _ _ _ hr h=>?_);obtain ⟨p,q,x,m,y,n,rfl,hp,hq,la,lb,bx,bm,mx,bn,k⟩:=h
 refine ⟨_,(aj (putL 2 S.nd (aW (x9 T) hr T.vj T.lJ.kp T.vi aI (aa (aB bH (pv 0) ag) (aa (aB bH (pv 1) ag) af))))
  (aj (bT (bN fP (pv 2) ag) (ar (aT (eZ (aa (ax eQ (ax ng (aB bH (pv 0) ag) (aB bH (pv 1) ag)) (ax ng (aB bH (pv 1) ag) (aB bH (pv 0) ag))) (aa (ax ng (aB bH (pv 0) ag) (aB bH (pv 1) ag)) af))))) bZ)
  (aj (putL 3 S.nd (ax eQ (ax ng (aB bH (pv 0) ag) (ax ma (aB bH (pv 1) ag) (pv 2))) (ax ng (aB bH (pv 1) ag) (ax ma (aB bH (pv 0) ag) (pv 2)))))
  (aj (putL 4 S.nd (aW (x9 T) hr T.vj T.lJ.kp T.vi aI (aa (pv 3) (aa (pv 2) af))))
  (ar (aT (eZ (aa (ax ma (pv 3) (pv 4)) (aa (ax ng (ax ma (aB bH (pv 0) ag) (pv 2)) (ax ma (aB bH (pv 1) ag) (pv 4))) af))))))))),?_⟩
 have n2:2≤sizeLine:=by decide
 have m0:=la.pos;have n0:=lb.pos;refine ⟨_,rfl,p,_,_,_,rfl,rfl,.of hp,rfl,_,rfl,q,_,_,_,rfl,rfl,.of hq,rfl,m,n,rfl,bn.mid,?_⟩;have gp:(0:Int)<(Int.gcd m n:Int):=zC (by lia)
 have gb:bQ (Int.gcd m n:Int):=bn.gcd (by lia)
 refine ⟨_,rfl,rfl,_,rfl,b7 (fun e=>?_) (fun _=>?_)⟩
 ·have e:Int.gcd m n=1:=by have z:=fh e;have z:=V.int.inj z;lia
  exact ⟨_,rfl,p,_,_,_,rfl,rfl,.of hp,rfl,_,rfl,q,_,_,_,rfl,rfl,.of hq,rfl,_,_,rfl,rfl,⟨bx.mid,bn.mid⟩,
   _,rfl,q,_,_,_,rfl,rfl,.of hq,rfl,_,rfl,p,_,_,_,rfl,rfl,.of hp,rfl,_,_,rfl,rfl,⟨mx.mid,bm.mid⟩,_,_,rfl,rfl,
   _,rfl,p,_,_,_,rfl,rfl,.of hp,rfl,_,rfl,q,_,_,_,rfl,rfl,.of hq,rfl,_,_,rfl,rfl,⟨bm.mid,bn.mid⟩,n2,fun r hr=>k r _ _ _ (aA hr) au (Ra la lb e) rfl⟩
 refine ⟨_,rfl,p,_,_,_,rfl,rfl,.of hp,rfl,_,rfl,q,_,_,_,rfl,rfl,.of hq,rfl,_,rfl,_,_,rfl,rfl,⟨gp,gb.mid⟩,_,_,rfl,rfl,⟨bx.mid,bn.over.mid⟩,
  _,rfl,q,_,_,_,rfl,rfl,.of hq,rfl,_,rfl,p,_,_,_,rfl,rfl,.of hp,rfl,_,rfl,_,_,rfl,rfl,⟨gp,gb.mid⟩,_,_,rfl,rfl,⟨mx.mid,bm.over.mid⟩,_,_,rfl,rfl,?_⟩
 refine ⟨_,rfl,_,rfl,_,_,rfl,gb.mid,?_⟩;have ap:(0:Int)<(Int.gcd (x*(n / (Int.gcd m n:Int))+y*(m / (Int.gcd m n:Int))) (Int.gcd m n:Int):Int):=zC (by lia)
 have ab:bQ (Int.gcd (x*(n / (Int.gcd m n:Int))+y*(m / (Int.gcd m n:Int))) (Int.gcd m n:Int):Int):=gb.gcd (by lia)
 have z:=Rb la lb _ _ rfl _ rfl rfl
 exact ⟨_,rfl,_,rfl,_,_,rfl,rfl,⟨ap,ab.mid⟩,_,rfl,p,_,_,_,rfl,rfl,.of hp,rfl,_,rfl,_,_,rfl,rfl,⟨gp,gb.mid⟩,_,rfl,q,_,_,_,rfl,rfl,.of hq,rfl,_,rfl,_,_,rfl,rfl,⟨ap,ab.mid⟩,_,_,rfl,rfl,⟨bm.over.mid,bn.over.mid⟩,n2,
  fun r hr=>k r _ _ _ (aA hr) au z.1 z.2⟩
theorem VH:ba ["a","b"] ["a","b"] (aH AG):=bF
theorem VI(T:Txt K mg t):aV P w K mg base bK 3 t.qB t.uH ["a","b"] Rh:=by
 have S:=VH;refine T.vJ.bS S (fun _ _ _ _ H _ _ _ hr h=>?_);obtain ⟨p,q,x,m,y,n,rfl,hp,hq,la,lb,bx,bm,mx,bn,k⟩:=h;refine ⟨_,(ar (aT (aW (VG T) hr T.KW T.vI.kp T.KU aI (aa (pv 0) (aa (eZ (aa (m4 m6 (aB bH (pv 1) ag)) (aa (aB bH (pv 1) ag) af))) af))))),?_⟩
 exact ⟨_,rfl,_,rfl,q,_,_,_,rfl,rfl,.of hq,rfl,_,rfl,_,rfl,q,_,_,_,rfl,rfl,.of hq,rfl,by show 2≤sizeLine;decide,fun r hr=>⟨p,r,x,m,-y,n,rfl,aA hr _ _ hp,au,la,lb.neg,bx,bm,mx.neg,bn,
  fun r' H' u d s' e l z=>k r' H' u d ((aA hr).trans s') e l (by rw [z,Int.neg_mul,Int.sub_eq_add_neg])⟩⟩
theorem VJ:ba ["a","b","first","second"] ["a","b"] (aH AH):=bF
theorem Ep(T:Txt K mg t):aV P w K mg base bK 2 t.qC t.uI ["a","b"] Ri:=by
 have S:=VJ;refine T.nY.bS S (fun _ _ _ _ H _ _ _ hr h=>?_);obtain ⟨p,q,x,m,y,n,rfl,hp,hq,la,lb,bx,bm,mx,bn,k⟩:=h
 refine ⟨_,(aj (putL 2 S.nd (aW (x9 T) hr T.vj T.lJ.kp T.vi aI (aa (aB bH (pv 0) ag) (aa (aB bH (pv 1) ag) af))))
  (aj (putL 3 S.nd (aW (x9 T) hr T.vj T.lJ.kp T.vi aI (aa (aB bH (pv 1) ag) (aa (aB bH (pv 0) ag) af))))
  (ar (aT (eZ (aa (ax ng (ax ma (aB bH (pv 0) ag) (pv 2)) (ax ma (aB bH (pv 1) ag) (pv 3))) (aa (ax ng (ax ma (aB bH (pv 0) ag) (pv 3)) (ax ma (aB bH (pv 1) ag) (pv 2))) af))))))),?_⟩
 have n2:2≤sizeLine:=by decide
 have m0:=la.pos;have n0:=lb.pos;have gp:(0:Int)<(Int.gcd x n:Int):=zC (by lia)
 have gb:bQ (Int.gcd x n:Int):=bn.gcd (by lia)
 have ap:(0:Int)<(Int.gcd y m:Int):=zC (by lia)
 have ab:bQ (Int.gcd y m:Int):=bm.gcd (by lia)
 refine ⟨_,rfl,p,_,_,_,rfl,rfl,.of hp,rfl,_,rfl,q,_,_,_,rfl,rfl,.of hq,rfl,x,n,rfl,bn.mid,?_⟩;refine ⟨_,rfl,q,_,_,_,rfl,rfl,.of hq,rfl,_,rfl,p,_,_,_,rfl,rfl,.of hp,rfl,y,m,rfl,bm.mid,?_⟩;have z:=Q_ la lb
 exact ⟨_,rfl,p,_,_,_,rfl,rfl,.of hp,rfl,_,rfl,_,_,rfl,rfl,⟨gp,gb.mid⟩,_,rfl,q,_,_,_,rfl,rfl,.of hq,rfl,_,rfl,_,_,rfl,rfl,⟨ap,ab.mid⟩,_,_,rfl,rfl,⟨bx.over.mid,mx.over.mid⟩,
  _,rfl,p,_,_,_,rfl,rfl,.of hp,rfl,_,rfl,_,_,rfl,rfl,⟨ap,ab.mid⟩,_,rfl,q,_,_,_,rfl,rfl,.of hq,rfl,_,rfl,_,_,rfl,rfl,⟨gp,gb.mid⟩,_,_,rfl,rfl,⟨bm.over.mid,bn.over.mid⟩,n2,
  fun r hr=>k r _ _ _ (aA hr) au z.1 z.2⟩
theorem VL:ba ["a","b"] ["a","b"] (aH AI):=bF
theorem VM(T:Txt K mg t):aV P w K mg base (cL P w) 3 t.qD t.uJ ["a","b"] (Rl t.fX):=by
 have S:=VL;refine T.vK.dP S (fun _ _ _ _ H _ _ _ hr h L=>?_);obtain ⟨p,q,x,m,y,n,rfl,hp,hq,la,lb,bx,bm,mx,bn,kE,k⟩:=h
 refine ⟨_,(aj (bT (bN fP (aB bH (pv 1) ag) ag) (ar (m9 L rfl lQ T.Bp rfl T.x5 (aa cz af))) bZ)
  (dN.jj (aj (bT (bN oY (aB bH (pv 1) ag) ag) (ar (aT (aW (Ep T) hr T.Bd T.nY.kp T.Bc aI (aa (pv 0) (aa (eZ (aa (m4 m6 (aB bH (pv 1) ag)) (aa (m4 m6 (aB bH (pv 1) ag)) af))) af))))) bZ)
  (ar (aT (aW (Ep T) hr T.Bd T.nY.kp T.Bc aI (aa (pv 0) (aa (eZ (aa (aB bH (pv 1) ag) (aa (aB bH (pv 1) ag) af))) af)))))))),?_⟩
 have n2:2≤sizeLine:=by decide
 refine ⟨_,rfl,q,_,_,_,rfl,rfl,.of hq,rfl,rfl,_,rfl,b7 (fun hz=>?_) (fun hz=>?_)⟩
 ·have hz:y=0:=V.int.inj (fh hz)
  exact ⟨by show 1≤sizeLine;decide,kE hz⟩
 have hz:y≠0:=fun z=>hz (dc (by rw [z]))
 refine ⟨_,rfl,q,_,_,_,rfl,rfl,.of hq,rfl,_,_,rfl,rfl,_,rfl,b7 (fun hn=>?_) (fun hn=>?_)⟩
 ·have hn:y<0:=fh hn
  exact ⟨_,rfl,_,rfl,q,_,_,_,rfl,rfl,.of hq,rfl,_,rfl,_,rfl,q,_,_,_,rfl,rfl,.of hq,rfl,_,rfl,n2,fun r hr=>⟨p,r,x,m,-n,-y,rfl,aA hr _ _ hp,au,la,Ro lb hn,bx,bm,bn.neg,mx.neg,
   fun r' H' u d s' e l z=>k hz r' H' u d ((aA hr).trans s') e l (by rw [mM,mM,mM,Int.neg_mul] at z;omega)⟩⟩
 ·have hn:¬y<0:=fun z=>hn (dc z)
  exact ⟨_,rfl,_,rfl,q,_,_,_,rfl,rfl,.of hq,rfl,_,rfl,q,_,_,_,rfl,rfl,.of hq,rfl,n2,fun r hr=>⟨p,r,x,m,n,y,rfl,aA hr _ _ hp,au,la,Rn lb (by lia),bx,bm,bn,mx,
   fun r' H' u d s' e l z=>k hz r' H' u d ((aA hr).trans s') e l z⟩⟩
theorem VN:ba ["self","a","b"] ["self","a","b"] (aH A9):=bF
theorem Er(T:Txt K mg t):aV P w K mg base bK 4 t.q_ t.vb ["self","a","b"] (jX t.aX (fun x m y n=>x*n-y*m) (fun i j=>i-j)):=by
 have S:=VN;refine T.xX.bS S (fun _ _ _ _ H _ _ _ hr h=>?_);obtain ⟨z,q,v,u,rfl,⟨dx,hx⟩,hc⟩:=h
 refine ⟨_,(aj (bT (bN xf (k7 (pv 0) rfl) jK) (ar (aT (aW (VI T) hr T.KZ T.vJ.kp T.KY aI (aa (pv 1) (aa (pv 2) af))))) bZ)
  (ar (aT (ax gf (ax k6 (pv 1) (pv 2)) (k7 (pv 0) rfl))))),?_⟩
 refine ⟨_,rfl,z,t.aX,dx,_,_,rfl,hx,T.dh,T.jb,lh _,rfl,_,rfl,?_⟩;rcases hc with ⟨rfl,p,r,x,m,y,n,rfl,rfl,h1⟩ | ⟨q2,i,j,rfl,rfl,i0,i1,k⟩
 ·rw [aq rfl]
  exact gg ⟨_,rfl,_,rfl,p,r,x,m,y,n,rfl,h1⟩
 ·have hq:q≠0:=by lia
  rw [ak hq] at hx ⊢;exact cK ⟨_,rfl,_,rfl,_,_,rfl,rfl,_,rfl,z,t.aX,dx,_,_,rfl,hx,T.dh,T.jb,lh _,_,_,rfl,rfl,(show (0:Int)<q by lia),k⟩
theorem VO:ba ["self","a","b"] ["self","a","b"] (aH A_):=bF
theorem Es(T:Txt K mg t):aV P w K mg base bK 4 t.rb t.vc ["self","a","b"] (jX t.aX (fun x m y n=>x*y) (fun i j=>i*j)):=by
 have S:=VO;refine T.xY.bS S (fun _ _ _ _ H _ _ _ hr h=>?_);obtain ⟨z,q,v,u,rfl,⟨dx,hx⟩,hc⟩:=h
 refine ⟨_,(aj (bT (bN xf (k7 (pv 0) rfl) jK) (ar (aT (aW (Ep T) hr T.Bd T.nY.kp T.Bc aI (aa (pv 1) (aa (pv 2) af))))) bZ)
  (ar (aT (ax gf (ax fO (pv 1) (pv 2)) (k7 (pv 0) rfl))))),?_⟩
 refine ⟨_,rfl,z,t.aX,dx,_,_,rfl,hx,T.dh,T.jb,lh _,rfl,_,rfl,?_⟩;rcases hc with ⟨rfl,p,r,x,m,y,n,rfl,rfl,h1⟩ | ⟨q2,i,j,rfl,rfl,i0,i1,k⟩
 ·rw [aq rfl]
  exact gg ⟨_,rfl,_,rfl,p,r,x,m,y,n,rfl,h1⟩
 ·have hq:q≠0:=by lia
  rw [ak hq] at hx ⊢;exact cK ⟨_,rfl,_,rfl,_,_,rfl,rfl,.inl ⟨by lia,by lia⟩,_,rfl,z,t.aX,dx,_,_,rfl,hx,T.dh,T.jb,lh _,_,_,rfl,rfl,(show (0:Int)<q by lia),k⟩
theorem VP:ba ["self","a","b"] ["self","a","b"] (aH Ba):=bF
theorem Mz(T:Txt K mg t):aV P w K mg base (cL P w) 4 t.rf t.vd ["self","a","b"] (zE t.aX t.fX):=by
 have S:=VP;refine T.xZ.dP S (fun _ _ _ _ H _ _ _ hr h L=>?_);obtain ⟨z,q,v,u,rfl,⟨dx,hx⟩,hc⟩:=h
 refine ⟨_,(aj (bT (bN xf (k7 (pv 0) rfl) jK) (ar (aT (aW (VM T) hr T.K7 T.vK.kp T.K6 (i3 L) (aa (pv 1) (aa (pv 2) af))))) bZ)
  (ar (aT (aW (Mx T) hr T.Ee T.rz.kp T.Ed (i3 L) (aa (k7 (pv 0) rfl) (aa (pv 1) (aa (pv 2) af))))))),?_⟩
 refine ⟨_,rfl,z,t.aX,dx,_,_,rfl,hx,T.dh,T.jb,lh _,rfl,_,rfl,?_⟩;rcases hc with ⟨rfl,p,r,x,m,y,n,rfl,rfl,h1⟩ | ⟨q2,i,j,rfl,rfl,h1⟩
 ·rw [aq rfl]
  exact gg ⟨_,rfl,_,rfl,p,r,x,m,y,n,rfl,h1⟩
 ·have hq:q≠0:=by lia
  rw [ak hq] at hx ⊢;exact cK ⟨_,rfl,z,t.aX,dx,_,_,rfl,hx,T.dh,T.jb,lh _,_,rfl,_,rfl,q,i,j,rfl,q2,h1⟩
theorem VQ:ba ["world","work","place","others","head","i","row","j"] ["world","work","place","others"] (aH Ar):=bF
theorem VR(T:Txt K mg t):aV P w K mg base bK 5 t.qk t.ur ["world","work","place","others"] (Tv t.aX):=by
 have S:=VQ;have Et:=Mz (P:=P) (w:=w) (base:=base) T;have ya:=Er (P:=P) (w:=w) (base:=base) T;have yb:=Es (P:=P) (w:=w) (base:=base) T;refine T.vy.bS S (fun _ A _ _ H _ _ _ hr h=>?_);obtain ⟨z,a,b,q,n,X,p,rs,vf,ms,Tw,U,T',U',rfl,hw,hq,hW,eb,bz,pn,Eu,nd,Br,X1,fU,hF,hB,fJ,kk⟩:=h
 refine ⟨_,(aj (putL 4 S.nd (aB bJ (pv 1) (pv 2)))
  (ar (eO dB rfl (gc (pv 3)) (cj (i:=5) S.nd rfl (Or.inl rfl))
   (aj (putL 6 S.nd (aB bJ (pv 1) (pv 5)))
  (aj (@gC _ _ _ _ _ _ (g6 (pv 0) T.dh T.x4 Et (hr.mono (by decide)) T.Ei .nil k9 (aa (aB bJ (pv 6) (pv 2)) (aa (aB bJ (pv 4) (pv 2)) af))) (iA (pv 6) (pv 2) set_list) (by rfl) (by rfl) (by rfl))
  (ar (eO dB rfl (gc (pv 3)) (cj (i:=7) S.nd rfl (Or.inl rfl))
   (ar (@gC _ _ _ _ _ _ (g6 (pv 0) T.dh T.wa ya (hr.mono (by decide)) T.Bk .nil aI (aa (aB bJ (pv 6) (pv 7)) (aa (g6 (pv 0) T.dh T.wb yb (hr.mono (by decide)) T.Bl .nil aI (aa (aB bJ (pv 6) (pv 2)) (aa (aB bJ (pv 4) (pv 7)) af))) af))) (iA (pv 6) (pv 7) set_list) (by rfl) (by rfl) (by rfl)))))))))),?_⟩
 obtain ⟨dz,hz⟩:=id hw;have zr:∀{Hx:Hp},fb n rs H Hx→dy t.aX Hx z q:=fun{Hx} o=>⟨dz,o z _ (fun i hi=>(bz i hi).2) hz⟩;have br:∀{Hx:Hp},fb n rs H Hx→Hx b=some (.lst (bU ms)):=fun{Hx} o=>o b _ (fun i hi=>(bz i hi).1) eb;have ig:X≤10 ^ 300:=a8 fU (by decide +kernel)
 have XX:X*X≤10 ^ 300:=a8 (gz fU fU) (by decide +kernel)
 refine aC fun _ hR=>aY ⟨_,rfl,_,rfl,a,_,_,_,rfl,rfl,.of hW.lst,ck pn,hR _ _ ?_⟩;refine ⟨_,rfl,b,rfl,⟨_,.of eb⟩,?_⟩;refine k4 (K:=K) (a:=b) (xs:=bU ms) (fun k σ Hc=>∃(iH:Nat→Nat→V) (v5 v6 v7:Option V),σ=[some (.ref z),some (.ref a),some (.int (p:Int)),some (.ref b),some (.ref (rs p)),v5,v6,v7]∧fb n rs H Hc∧WTab Hc a n rs iH∧dr X Hc q n iH (i_ (fun i _=>decide (i∈ms.take k)) Tw T') (i_ (fun i _=>decide (i∈ms.take k)) U U')) ⟨vf,_,_,_,rfl,fb.refl _ _ _,hW,hF.to fun i j _ _=>⟨dF (by simp),dF (by simp)⟩⟩ (fun k σ Hc _ ⟨_,_,_,_,_,oc,_⟩=>.of (br oc)) ?_ ?_
 ·rintro k x σ Hc hx ⟨iH,v5,v6,v7,rfl,oc,Wc,Fc⟩
  obtain ⟨i,hi,rfl⟩:=int_at hx;have im:=gv hi;obtain ⟨cm,ip⟩:=Eu i im;have ik:=zZ nd hi;have pk:p∉ms.take k:=fun z=>(Eu p (List.mem_of_mem_take z)).2 rfl;have fi:decide (i∈ms.take k)=false:=da ik;have fp:decide (p∈ms.take k)=false:=da pk;dsimp only [cg];refine aC fun _ hR=>aY ⟨_,rfl,_,rfl,a,_,_,_,rfl,rfl,.of Wc.lst,ck cm,hR _ _ ?_⟩;have rC:=Fc i p cm pn;have Ew:=Fc p p pn pn;rw [dF fi,dF fi] at rC;rw [dF fp,dF fp] at Ew;obtain ⟨Bs,gr⟩:=zr oc;refine aC fun _ hR=>aY ⟨_,rfl,z,Bs,_,rfl,gr,hJ (by decide +kernel),_,rfl,_,rfl,rs i,_,_,_,rfl,rfl,.of (Wc.at' i cm),ck pn,_,rfl,_,rfl,rs p,_,_,_,rfl,rfl,.of (Wc.at' p pn),ck pn,?_⟩
  dsimp only [jN];show zE t.aX t.fX [.ref z,iH i p,iH p p] _ _ _;refine JB (Y':=(Tw i p*U p p).natAbs+(U i p*Tw p p).natAbs) (zr oc) hq rC Ew ig ig fJ.mi (by lia) (by lia) fun v' H1 s1 w1=>?_
  have W1:=Wc.mono s1;have w1:=(w1.eq hq (fJ.low i im) (fJ.nz i p cm pn)).bd (fJ.bt i p cm pn).1 (fJ.bt i p cm pn).2;refine ⟨_,rfl,_,rfl,rs i,_,_,p,rfl,rfl,W1.at' i cm,by rw [bg,dj];exact i8 pn,hR _ _ ?_⟩
  have W2:=W1.put (j:=p) v' cm;have Bt:fb n rs H (upd H1 (rs i) (.lst (((List.range n).map (iH i)).set p v'))):=(oc.same s1).put cm;have F2:dr X (upd H1 (rs i) (.lst (((List.range n).map (iH i)).set p v'))) q n (lE iH i p v') (i_ (fun i' j'=>decide (i'∈ms.take k) || (decide (i'=i) && (decide (j'=p) || decide (j'∈ms.take 0)))) Tw T') (i_ (fun i' j'=>decide (i'∈ms.take k) || (decide (i'=i) && (decide (j'=p) || decide (j'∈ms.take 0)))) U U'):=Fc.put (fun v t u h=>(h.mono s1).put (W1.at' i cm)) (by rw [eU (by simp),eU (by simp)];exact w1.put (W1.at' i cm)) fun i' j' _ _ ne=>by
   by_cases h1:i'∈ms.take k
   ·rw [eU (by simp [h1]),eU (by simp [h1]),eU (by simp [h1]),eU (by simp [h1])]
    exact ⟨rfl,rfl⟩
   ·by_cases h2:i'=i
    ·have h3:j'≠p:=fun z=>ne ⟨h2,z⟩
     rw [dF (by simp [h1,h3]),dF (by simp [h1]),dF (by simp [h1,h3]),dF (by simp [h1])]
     exact ⟨rfl,rfl⟩
    ·rw [dF (by simp [h1,h2]),dF (by simp [h1]),dF (by simp [h1,h2]),dF (by simp [h1])]
     exact ⟨rfl,rfl⟩
  generalize upd H1 (rs i) (.lst (((List.range n).map (iH i)).set p v'))=H2 at W2 Bt F2 ⊢;refine ⟨_,rfl,b,rfl,⟨_,.of (br Bt)⟩,?_⟩;refine k4 (K:=K) (a:=b) (xs:=bU ms) (fun l σ Hd=>∃(oi:Nat→Nat→V) (v7:Option V),σ=[some (.ref z),some (.ref a),some (.int (p:Int)),some (.ref b),some (.ref (rs p)),some (.int (i:Int)),some (.ref (rs i)),v7]∧fb n rs H Hd∧WTab Hd a n rs oi∧dr X Hd q n oi (i_ (fun i' j'=>decide (i'∈ms.take k) || (decide (i'=i) && (decide (j'=p) || decide (j'∈ms.take l)))) Tw T') (i_ (fun i' j'=>decide (i'∈ms.take k) || (decide (i'=i) && (decide (j'=p) || decide (j'∈ms.take l)))) U U')) ⟨_,_,rfl,Bt,W2,F2⟩ (fun l σ Hd _ ⟨_,_,_,od,_⟩=>.of (br od)) ?_ ?_
  ·clear F2 W2 Bt w1 W1 rC Ew Fc Wc oc
   rintro l x σ Hd hx ⟨oi,v7,rfl,od,Wd,Fd⟩;obtain ⟨j,hj,rfl⟩:=int_at hx;have jm:=gv hj;obtain ⟨eE,jp⟩:=Eu j jm;have jl:=zZ nd hj;have Ex:=Fd i j cm eE;have rC:=Fd i p cm pn;have Ey:=Fd p j pn eE;rw [dF (by simp [ik,jp,jl]),dF (by simp [ik,jp,jl])] at Ex
   rw [eU (by simp),eU (by simp)] at rC
   rw [dF (by simp [pk,Ne.symm ip]),dF (by simp [pk,Ne.symm ip])] at Ey
   obtain ⟨Bs,gr⟩:=zr od;dsimp only [cg];refine aY ⟨_,rfl,z,Bs,_,rfl,gr,hJ (by decide +kernel),_,rfl,_,rfl,rs i,_,_,_,rfl,rfl,.of (Wd.at' i cm),ck eE,_,rfl,z,Bs,_,rfl,gr,hJ (by decide +kernel),_,rfl,_,rfl,rs i,_,_,_,rfl,rfl,.of (Wd.at' i cm),ck pn,_,rfl,_,rfl,rs p,_,_,_,rfl,rfl,.of (Wd.at' p pn),ck eE,?_⟩
   have MA:=rC.choose_spec.choose_spec.2.2;have MB:=Ey.choose_spec.choose_spec.2.2;have VS:=Ex.choose_spec.choose_spec.2.2;dsimp only [jN];show jX t.aX (fun x m y n=>x*y) (fun i j=>i*j) [.ref z,oi i p,oi p j] _ _ _;refine DD (Y':=(T' i p*Tw p j).natAbs+(U' i p*U p j).natAbs) (zr od) hq rC Ey ig ig (e_ hq MA MB) (by lia) (by lia) fun v1 H1 s1 w1=>?_
   have w1:aQ (X*X) H1 q v1 (T' i p*Tw p j) (U' i p*U p j):=w1.bd (by rw [fK];exact gz (fJ.bt i p cm pn).1 (hB p j pn eE).1) (by rw [fK];exact gz (fJ.bt i p cm pn).2 (hB p j pn eE).2)
   show jX t.aX (fun x m y n=>x*n-y*m) (fun i j=>i-j) [.ref z,oi i j,v1] _ _ _;refine DC (Y':=(Tw i j*(U' i p*U p j)-T' i p*Tw p j*U i j).natAbs+(U i j*(U' i p*U p j)).natAbs) (zr (od.same s1)) hq (Ex.mono s1) w1 ig XX (e_ hq VS (e_ hq MA MB)) (by lia) (by lia) fun v2 H2 s2 w2=>?_
   have W1:=Wd.mono (s1.trans s2);have w2:=(w2.eq hq (fJ.ent i im j jm) (fJ.nz i j cm eE)).bd (fJ.bt i j cm eE).1 (fJ.bt i j cm eE).2;refine ⟨_,rfl,_,rfl,rs i,_,_,j,rfl,rfl,W1.at' i cm,by rw [bg,dj];exact i8 eE,?_⟩
   refine ⟨_,_,rfl,(od.same (s1.trans s2)).put cm,W1.put (j:=j) v2 cm,Fd.put (fun v t u h=>(h.mono (s1.trans s2)).put (W1.at' i cm)) (by rw [eU (by simp [take_snoc hj]),eU (by simp [take_snoc hj])];exact w2.put (W1.at' i cm)) fun i' j' _ _ ne=>?_⟩
   have ej:(fun i' j'=>decide (i'∈ms.take k) || (decide (i'=i) && (decide (j'=p) || decide (j'∈ms.take (l+1))))) i' j'=(fun i' j'=>decide (i'∈ms.take k) || (decide (i'=i) && (decide (j'=p) || decide (j'∈ms.take l)))) i' j':=by
    dsimp only;by_cases h2:i'=i
    ·have h3:j'≠j:=fun z=>ne ⟨h2,z⟩
     rw [take_snoc hj];simp [h3]
    ·simp [h2]
   constructor <;> (unfold i_;rw [ej])
  ·rintro σ Hd ⟨oi,v7,rfl,od,Wd,Fd⟩
   refine ⟨oi,_,_,_,rfl,od,Wd,Fd.JE hq fun i' j' dS eB=>?_⟩;have ll:(bU ms).length=ms.length:=bg _;rw [ll,kH,take_snoc hi];by_cases h1:i'∈ms.take k
   ·refine .inl ?_
    rw [eU (by simp [h1]),eU (by simp [h1]),eU (by simp [h1]),eU (by simp [h1])]
    exact ⟨rfl,rfl⟩
   ·by_cases h2:i'=i
    ·subst h2
     by_cases h3:j'=p∨j'∈ms
     ·refine .inl ?_
      rw [eU (by simp),eU (by simpa [h1] using h3),eU (by simp),eU (by simpa [h1] using h3)]
      exact ⟨rfl,rfl⟩
     ·rw [not_or] at h3
      refine .inr ?_;have a1:∀A A':Nat→Nat→Int,i_ (fun i _=>decide (i∈ms.take k++[i'])) A A' i' j'=A' i' j':=fun A A'=>eU (by simp)
      have a2:∀A A':Nat→Nat→Int,i_ (fun MC MD=>decide (MC∈ms.take k) || (decide (MC=i') && (decide (MD=p) || decide (MD∈ms)))) A A' i' j'=A i' j':=fun A A'=>dF (by simp [h1,h3.1,h3.2])
      rw [a1,a1,a2,a2];exact ⟨fJ.xE i' j' dS eB (.inr h3),fJ.nz i' j' dS eB,fJ.bt i' j' dS eB⟩
    ·refine .inl ?_
     rw [dF (by simp [h1,h2]),dF (by simp [h1,h2]),dF (by simp [h1,h2]),dF (by simp [h1,h2])]
     exact ⟨rfl,rfl⟩
 ·rintro σ Hc ⟨iH,v5,v6,v7,rfl,oc,Wc,Fc⟩
  have ll:(bU ms).length=ms.length:=bg _;rw [ll,kH] at Fc;refine kk Hc iH oc Wc (Fc.JE hq fun i' j' dS eB=>?_);by_cases h1:i'∈ms
  ·refine .inl ?_
   rw [eU (by simp [h1]),eU (by simp [h1])]
   exact ⟨rfl,rfl⟩
  ·refine .inr ?_
   rw [dF (by simp [h1]),dF (by simp [h1])]
   exact ⟨fJ.xE i' j' dS eB (.inl h1),fJ.nz i' j' dS eB,fJ.bt i' j' dS eB⟩
theorem VT:ba ["table","wide"] ["table"] (aH Ac):=bF
theorem VU(T:Txt K mg t):aV P w K mg base (cL P w) 1 t.p6 t.tY ["table"] (R3 t.bf):=by
 have S:=VT;refine T.ve.dP S (fun _ _ _ _ H vs _ _ hr h L=>?_);obtain ⟨a,q,B,ai,m,rfl,⟨vs,ea,hl,hn⟩,h1,yc,hm,k⟩:=h
 refine ⟨_,(aj (bT (bN fP (bR fQ rfl T.fc fj (aa (pv 0) af)) ag) (ar (aT ag)) bZ)
  (aj (C5 1 S.nd (bR fQ rfl T.fc fj (aa (aB bJ (pv 0) ag) af)))
  (aj (bT (mV (bR (RC (K:=K) rfl) rfl T.LP boot_any (aa (l_ (N:=["row","wide"]) (ρ:=(fun σ=>[σ[1]?.join])) (jT [1] rfl) rfl (gc (pv 0)) (fun _ _ _=>.nil) (fun _ _ _=>(sN fz (bR (II (K:=K)) rfl T.fc fj (aa (pv 0) af)) (pv 1)))) af))) (ar (m9 L rfl lQ T.we rfl T.x8 (aa cz af))) bZ)
  (ar (aT (pv 1)))))),?_⟩
 have h0:0<vs.length:=by lia
 refine ⟨_,rfl,a,vs,rfl,.inl (.of ea),rfl,false,by rw [i5,da (by lia)],cK ?_⟩
 have VV:0<ai.length:=by lia
 obtain ⟨r,er,us,eu,lu,_⟩:=hn 0 vs[0] ai[0] (by simp [h0]) (by simp [VV])
 have Vc:=hm ai[0] (gY ..);refine ⟨_,rfl,a,vs,_,vs[0],rfl,rfl,.of ea,(by exact jQ (j:=0) (by simp [h0])),r,us,by rw [er],.inl (.of eu),?_⟩
 have em:(us.length:Int)=(m:Int):=by lia
 rw [em];dsimp only [cg];have VW:∀(i:Nat) (v:V),vs[i]?=some v→∃(r:Addr) (us:List V),v=.ref r∧H r=some (.lst us)∧us.length=m:=fun i v e=>by
  have dS:i<ai.length:=by rw [←hl];exact (bV.mp e).1
  obtain ⟨r,e1,us,e2,e3,_⟩:=hn i v ai[i] e (by simp [dS])
  exact ⟨r,us,e1,e2,by rw [e3];exact hm _ (gY ..)⟩
 refine nF (RL (RM (Di (IE (xs:=vs) (fun R h=>⟨_,rfl,a,rfl,⟨_,.of ea⟩,h _ _ (ae.refl _) (nE (.of ea))⟩) (by rw [hl];exact fB (by lia)) (fun _ i y _=>y=.bl false) (fun _ _ _ _ _ _ h _ _=>h) ?_ ?_))))
 ·intro D i v hi Hc R sc _ kc
  obtain ⟨r',ME,rfl,e2,e3⟩:=VW i v hi;refine ⟨_,rfl,r',ME,rfl,.inl (.of (sc _ _ e2)),_,rfl,rfl,?_⟩;have zz:(!decide (V.int (ME.length:Int)=V.int (m:Int)))=false:=by rw [i5,dc (by lia)];rfl
  rw [zz];exact kc _ Hc (ae.refl _) rfl
 ·intro D ys Hc sc wm hP eD
  refine ⟨D,List.replicate ys.length false,rfl,.of (by rw [eD];exact gU _ (gU _ (IJ hP))),false,by rw [RN],cK ?_⟩
  exact ⟨_,rfl,k Hc sc⟩
theorem VX:ba ["table"] ["table"] (aH Ad):=bF
theorem VY(T:Txt K mg t):aV P w K mg base (cL P w) 2 t.p7 t.tZ ["table"] (R4 t.bf):=by
 have S:=VX;refine T.vg.dP S (fun _ _ _ _ H vs _ _ hr h L=>?_);obtain ⟨a,q,B,ai,m,rfl,hA,h1,yc,hm,kE,k⟩:=h
 refine ⟨_,(aj (bT (bN fz (aW (VU T) hr T.J1 T.ve.kp T.J0 (i3 L) (aa (pv 0) af)) (bR fQ rfl T.fc fj (aa (pv 0) af))) (ar (m9 L rfl lQ T.we rfl T.x8 (aa cz af))) bZ)
  (ar (aT (bR fQ rfl T.fc fj (aa (pv 0) af))))),?_⟩
 refine ⟨_,rfl,a,q,B,ai,m,rfl,hA,h1,yc,hm,fun H1 s1=>?_⟩;obtain ⟨vs,ea,lv,_⟩:=id (hA.mono s1);refine ⟨_,rfl,a,vs,rfl,.inl (.of ea),rfl,_,rfl,b7 (fun eS=>?_) (fun eS=>?_)⟩
 ·have eS:m≠ai.length:=fun z=>by
   have:(m:Int)=(vs.length:Int):=by lia
   rw [i5,dc this] at eS;cases eS
  exact ⟨by show 1≤sizeLine;decide,kE eS H1 s1⟩
 ·have heq:m=ai.length:=by
   by_cases z:(m:Int)=(vs.length:Int);·lia
   ·exact absurd (by rw [i5,da z];rfl) eS
  have z:=k heq H1 s1;dsimp only [Cf];refine ⟨_,rfl,a,vs,rfl,.inl (.of ea),?_⟩;rw [show (vs.length:Int)=(m:Int) by lia]
  exact z
theorem VZ:ba ["world","table","i","nought"] ["world","table","i"] (aH Ai):=bF
theorem V0(T:Txt K mg t):aV P w K mg base bK 4 t.qb t.ub ["world","table","i"] (R9 t.aX):=by
 have S:=VZ;have j_:=x_ (P:=P) (w:=w) (base:=base) T;obtain ⟨dv,ke,kg⟩:=T.v_;refine T.vm.bS S (fun _ _ _ _ H vs _ _ hr h=>?_);obtain ⟨z,a,q,B,ai,n,i,rfl,⟨dz,hd⟩,hq,hT,ln,dH,hm,hi,kk⟩:=h;have hu:=hr.sP
 refine ⟨_,(aj (C5 3 S.nd (g6 (pv 0) T.dh T.oh j_ (hr.mono (by decide)) kg ke k9 (aa ag af)))
  (ar (aT (l_ (N:=["j","i","table","nought"]) (ρ:=(fun σ=>[σ[2]?.join,σ[1]?.join,σ[3]?.join])) (jT [2,1,3] rfl) rfl (OI rfl T.iL (aa (ax eQ (pv 2) ag) (aa (bR fQ rfl T.fc fj (aa (pv 1) af)) af))) (fun _ _ _=>(.one (PW.pt (pw_or (bN (IY (K:=K) hu) (aB (lq (K:=K)) (aB (lq (K:=K)) (pv 2) (pv 1)) (pv 0)) (pv 3)) (pw_or1 (bN (IY (K:=K) hu) (aB (lq (K:=K)) (aB (lq (K:=K)) (pv 2) (pv 0)) (pv 1)) (pv 3))))))) (fun _ _ _=>(eZ (aa (pv 1) (aa (pv 0) af)))))))),?_⟩
 have nv:=xB hq;refine ⟨_,rfl,z,dz,_,rfl,hd,hJ (by decide +kernel),z,q,0,1,rfl,⟨dz,hd⟩,hq,dC.of_lt (by decide) (by decide),fun h=>absurd h nv,fun _ v0 H1 s1 ho=>?_⟩
 have h0:=pP (B:=1000) (by decide) ho hq (.inl rfl)
 dsimp only [cg];obtain ⟨vs,ea,lv,hv⟩:=id (hT.mono s1);have cell:∀i j,i<n→j<n→∃(r:Addr) (ws:List V) (v:V),vs[i]?=some (.ref r)∧H1 r=some (.lst ws)∧ws[j]?=some v∧bh B H1 q v ((ai.getD i []).getD j o1).1 ((ai.getD i []).getD j o1).2:=fun i j hi hj=>by
  have i1:i<vs.length:=by lia
  have i2:i<ai.length:=by lia
  obtain ⟨r,e,ws,er,lw,fw⟩:=hv i vs[i] ai[i] (by simp [i1]) (by simp [i2])
  have lp:=hm ai[i] (gY i2);have j1:j<ws.length:=by lia
  have j2:j<ai[i].length:=by lia
  refine ⟨r,ws,ws[j],by rw [←e];simp [i1],er,by simp [j1],?_⟩
  rw [getD_at i2,getD_at j2];exact fw j _ _ (by simp [j1]) (by simp [j2])
 refine gi (I0 (xs:=(List.range (n-(i+1))).map fun k:Nat=>V.int ((i:Int)+1+(k:Int))) (fun k=>cA ai i (i+1+k)) (fun R h=>⟨_,rfl,_,_,rfl,rfl,_,rfl,a,vs,rfl,.inl (.of ea),_,_,rfl,⟨by lia,by lia,by lia,by lia⟩,h _ ?_⟩) (by rw [bg,dj];exact fB (by lia)) (fun _ k y Hx=>∃b:Addr,y=.ref b∧Hx b=some (.tup [.int (i:Int),.int ((i+1+k:Nat):Int)])) (fun D k y Ha Hb ys ⟨b,h1,h2⟩ e f=>⟨b,h1,f b _ (fun z=>by rw [z,e] at h2;cases h2) h2⟩) ?_ ?_ ?_)
 ·rw [show ((vs.length:Int)-((i:Int)+1)).toNat=n-(i+1) by lia]
  exact zG
 ·intro k x hx Hc R sc hR
  have hk:k<n-(i+1):=by have:=(bV.mp hx).1;simpa using this
  rw [cw,je hk] at hx;cases hx;have ej:(i:Int)+1+(k:Int)=((i+1+k:Nat):Int):=by lia
  obtain ⟨r1,w1,v1,a1,a2,a3,a4⟩:=cell i (i+1+k) hi (by lia)
  obtain ⟨r2,w2,v2,b1,b2,b3,b4⟩:=cell (i+1+k) i (by lia) hi
  have Bu:=sc _ _ ea;refine ⟨_,rfl,_,rfl,a,vs,_,.ref r1,rfl,rfl,.of Bu,jQ a1,_,rfl,r1,w1,_,v1,rfl,rfl,.of (sc _ _ a2),(by show gI w1 ((i:Int)+1+(k:Int))=_;rw [ej];exact jQ a3),_,rfl,IZ (a4.mono sc) (h0.mono sc) ⟨_,rfl,b7 (fun hb=>?_) (fun hb=>?_)⟩⟩
  ·have e:cA ai i (i+1+k)=true:=by unfold cA nG;rw [hb,Bool.true_or]
   rw [e] at hR;exact hR
  ·have e:cA ai i (i+1+k)=nG ai (i+1+k) i:=by
    have V1:nG ai i (i+1+k)=false:=by unfold nG;simpa using hb
    unfold cA;rw [V1,Bool.false_or]
   rw [e] at hR;refine ⟨_,rfl,_,rfl,a,vs,_,.ref r2,rfl,rfl,.of Bu,(by show gI vs ((i:Int)+1+(k:Int))=_;rw [ej];exact jQ b1),_,rfl,r2,w2,_,v2,rfl,rfl,.of (sc _ _ b2),jQ b3,_,rfl,IZ (b4.mono sc) (h0.mono sc) ⟨_,rfl,hR⟩⟩
 ·intro D k x hx Hc R sc _ kc
  have hk:k<n-(i+1):=by have:=(bV.mp hx).1;simpa using this
  rw [cw,je hk] at hx;cases hx;refine ⟨_,rfl,_,rfl,by show 2≤sizeLine;decide,fun tp fe=>?_⟩
  refine kc _ _ (aA fe) ⟨tp,rfl,?_⟩;rw [au,show ((i+1+k:Nat):Int)=(i:Int)+1+(k:Int) by lia]
 ·intro D ys Hc nD sc mB hP eD
  rw [bg,dj] at mB hP;refine kk D ys Hc (s1.trans sc) (none_of s1 nD) eD ⟨by unfold lC;rw [bg];exact mB,fun k v p h1 h2=>?_⟩
  unfold lC at h2;rw [cw] at h2;cases e:((List.range (n-(i+1))).filter fun k=>cA ai i (i+1+k))[k]? with
  | none=>rw [e] at h2;cases h2
  | some k'=>rw [e] at h2;cases h2;exact hP k k' v h1 e
theorem V2:ba ["world","table","n","links","i"] ["world","table"] (aH Aj):=bF
theorem V3(T:Txt K mg t):aV P w K mg base (cL P w) 6 t.qc t.uc ["world","table"] (R_ t.aX t.bf):=by
 have S:=V2;refine T.vn.dP S (fun _ _ _ _ H _ _ _ hr h L=>?_);obtain ⟨z,a,q,B,ai,m,rfl,hz,hq,hT,h1,yc,hm,kE,kk⟩:=h
 refine ⟨_,(aj (putL 2 S.nd (aW (VY T) hr T.J4 T.vg.kp T.J2 (i3 L) (aa (pv 1) af)))
  (dN.jj (aj (putL 3 S.nd (cC af))
  (aj (eO dB rfl (kX rfl T.iL (aa (pv 2) af)) (cj (i:=4) S.nd rfl (Or.inl rfl))
   (ar (oU (xk wU PySem.F.slot_list_extend PySem.F.type_list_extend PQ (pv 3) (aa (aW (V0 T) hr T.J_ T.vm.kp T.J9 aI (aa (pv 0) (aa (pv 1) (aa (pv 4) af)))) af)))))
  (ar (aT (eZ (aa (pv 2) (aa (m7 PD rfl T.Bo boot_tuple (aa (pv 3) af)) af))))))))),?_⟩
 refine ⟨_,rfl,a,q,B,ai,m,rfl,hT,h1,yc,hm,fun eS H1 s1=>kE eS H1 s1,fun heq H1 s1=>?_⟩;subst heq;have kk:=kk rfl;dsimp only [cg];refine ⟨by show 0≤sizeLine;decide,fun fd yd=>?_⟩
 have s2:ae H1 (upd H1 fd (.lst [])):=aA yd;have ef:upd H1 fd (.lst []) fd=some (.lst []):=au;dsimp only [cg];generalize upd H1 fd (.lst [])=H2 at s2 ef ⊢;have di:=s1.trans s2;have V4:H fd=none:=none_of s1 yd;refine ⟨_,rfl,(ai.length:Int),rfl,by lia,by lia,?_⟩
 rw [fg];have V5:∀i,i≤ai.length→(dA ai.length (cA ai) i).length≤40*i:=fun i=>by
  induction i with
  | zero=>intro _;exact aN _
  | succ i ih=>
   intro hi;have a:=ih (by lia)
   show (dA ai.length (cA ai) i++lC ai.length (cA ai) i).length≤_;have b:(lC ai.length (cA ai) i).length≤40:=by unfold lC;rw [bg];refine a8 (B0 _ _) ?_;rw [dj];lia
   rw [cR];lia
 refine sJ (fun i σ Hc=>∃(us:List V) (v4:Option V),σ=[some (.ref z),some (.ref a),some (.int (ai.length:Int)),some (.ref fd),v4]∧ae H Hc∧Hc fd=some (.lst us)∧dD Hc us (dA ai.length (cA ai) i)) ⟨[],_,rfl,di,ef,dD.nil _⟩ ?_ ?_
 ·rintro i σ Hc hi ⟨us,v4,rfl,sc,ye,hL⟩
  refine ⟨_,rfl,.inl ⟨rfl,_,.of ye⟩,_,rfl,_,rfl,_,rfl,z,a,q,B,ai,ai.length,i,?_,hz.mono sc,hq,hT.mono sc,rfl,yc,hm,hi,fun r ws Hd sd nr V6 hR=>?_⟩
  ·show [V.ref z,V.ref a,V.int (0+(i:Int))]=_
   rw [oN]
  have l1:=hL.1;have l2:=hR.1;have l3:=V5 (i+1) (by lia)
  have e3:dA ai.length (cA ai) (i+1)=dA ai.length (cA ai) i++lC ai.length (cA ai) i:=rfl;rw [e3,cR] at l3;refine ⟨fd,r,us,ws,rfl,rfl,sd _ _ ye,V6,a8 (show _≤2000 by lia) (by decide),us++ws,_,rfl,iE (sc.trans sd) V4,au,?_⟩
  rw [e3];exact ((hL.mono sd).cat hR).bG (sd _ _ ye) fun b o nb e=>by rw [aO nb];exact e
 ·rintro σ Hc ⟨us,v4,rfl,sc,ye,hL⟩
  refine ⟨_,rfl,_,rfl,fd,us,rfl,.inl ⟨.of ye,fun lt V7=>?_⟩⟩;have sl:ae Hc (upd Hc lt (.tup us)):=aA V7;have el:upd Hc lt (.tup us) lt=some (.tup us):=au;generalize upd Hc lt (.tup us)=Hd at sl el ⊢;refine ⟨by show 2≤sizeLine;decide,fun tp fe=>?_⟩
  have st:ae Hd (upd Hd tp (.tup [.int (ai.length:Int),.ref lt])):=aA fe;exact kk tp _ (sc.trans (sl.trans st)) (none_of (sc.trans sl) fe) ⟨lt,us,au,st _ _ el,(hL.mono sl).mono st⟩
theorem V8:ba ["shape","linked","i","j"] ["shape"] (aH Ak):=bF
theorem V9(T:Txt K mg t):aV P w K mg base bK 1 t.qd t.ud ["shape"] SF:=by
 have S:=V8;refine T.vp.bS S (fun _ _ _ _ H _ _ _ hr h=>?_);obtain ⟨tp,n,L,rfl,⟨lt,us,dI,elt,hL⟩,ok,n9,kk⟩:=h;have hu:=kD (Nat.add_le_add_left (show 1≤64 by decide) _) hr.units
 have V_:((List.range n).map fun i:Nat=>V.int (0+(i:Int))).length=n:=by rw [bg,dj]
 refine ⟨_,(aj (zH (i0:=1) (N:=["place"]) (ρ:=(fun σ=>[])) (jT [] rfl) rfl S.nd rfl (Or.inl rfl) (kX rfl T.iL (aa (aB bH (pv 0) ag) af)) (fun _ _ _=>.nil) (fun _ _ _=>Sr))
  (aj (eO dB rfl (OF (aB bH (pv 0) ag)) (mX rfl (fM (cj (i:=2) S.nd rfl (Or.inl rfl)) (fM (cj (i:=3) S.nd rfl (Or.inl rfl)) mW)))
   (aj (Du hu (aB bJ (pv 1) (pv 2)) (pv 3) iU rfl)
  (ar (Du hu (aB bJ (pv 1) (pv 3)) (pv 2) iU rfl))))
  (ar (aT (pv 1))))),?_⟩
 refine nF (aY (pQ (xs:=(List.range n).map fun i:Nat=>V.int (0+(i:Int))) (n:=n) V_ (fun R h=>⟨_,rfl,tp,_,_,_,rfl,rfl,.of dI,rfl,(n:Int),rfl,by lia,by lia,h _ _ (ae.refl _) (by rw [fg];exact zG)⟩) (fB (by lia)) (fun _ i y Hx=>Hx y=some (.dK (dk []))∧H y=none) ?_ ?_ ?_))
 ·intro D i y Ha Hb ys ⟨h1,h2⟩ hy e f
  exact ⟨f y _ hy h1,h2⟩
 ·intro D i x hx Hc R sc _ kc
  refine fun p np=>kc p _ (iE (ae.refl _) np) np ⟨_,au⟩ ⟨au,?_⟩;cases e:H p with
  | none=>rfl
  | some o=>rw [sc _ _ e] at np;cases np
 ·intro D ds H1 nD s1 inj hA eD
  have K0:dQ H1 D n ds (fun _=>True) (fun _=>[]):=⟨eD,inj,fun i hi=>(hA i hi).2,fun i hi _=>(hA i hi).1.1,fun i _=>lD.nil n⟩;have fr:∀i,i<n→H (ds i)=none:=fun i hi=>(hA i hi).1.2;dsimp only [cg];refine nF ⟨_,rfl,tp,_,_,_,rfl,rfl,.of (s1 _ _ dI),rfl,lt,rfl,⟨_,.of (s1 _ _ elt)⟩,?_⟩;refine OL (K:=K) (a:=lt) (xs:=us) (fun k σ Hc=>∃(f:Nat→List Nat) (v2 v3:Option V),σ=[some (.ref tp),some (.ref D),v2,v3]∧ae H Hc∧dQ Hc D n ds (fun _=>True) f∧mf n (L.take k) f) ⟨_,_,_,rfl,s1,K0,mf.nil n⟩ (fun k σ Hc _ ⟨_,_,_,_,sc,_⟩=>.of (sc _ _ elt)) ?_ ?_
  ·rintro k x σ Hc hx ⟨f,v2,v3,rfl,sc,KL,nb⟩
   have hk:k<L.length:=by rw [←hL.1];exact (bV.mp hx).1
   obtain ⟨b,rfl,eb⟩:=hL.2 k x L[k] hx (by simp [hk])
   have pk:=ok L[k] (gY hk);have tk:L.take (k+1)=L.take k++[L[k]]:=by rw [List.take_succ,cN hk];rfl
   generalize L[k]=p at eb pk tk;obtain ⟨p1,p2⟩:=p;dsimp only at pk eb;obtain ⟨i,rfl⟩:=wV pk.1;obtain ⟨j,rfl⟩:=wV pk.2.2.1;have hi:i<n:=by lia
   have hj:j<n:=by lia
   refine ⟨b,_,rfl,.of (sc _ _ eb),rfl,_,_,rfl,_,_,rfl,rfl,?_⟩;obtain ⟨q1,K1⟩:=KL.put hi hj trivial n9;obtain ⟨q2,K2⟩:=K1.put hj hi trivial n9;refine ⟨_,rfl,_,rfl,D,_,_,_,rfl,rfl,.of KL.lst,KL.ix hi,_,rfl,_,_,rfl,q1,?_⟩;refine ⟨_,rfl,_,rfl,D,_,_,_,rfl,rfl,.of K1.lst,K1.ix hj,_,rfl,_,_,rfl,q2,?_⟩;have off:∀(Hx:Hp) (i:Nat) (o:HO),i<n→ae H Hx→ae H (upd Hx (ds i) o):=fun Hx i o hi sx a u e=>by
    rw [aO (fun z=>by rw [z,fr i hi] at e;cases e)]
    exact sx _ _ e
   exact ⟨_,_,_,rfl,off _ _ _ hj (off _ _ _ hi sc),K2,by rw [tk];exact nb.more hi hj⟩
  ·rintro σ Hc ⟨f,v2,v3,rfl,sc,KL,nb⟩
   rw [hL.1,kH] at nb;exact ⟨_,rfl,kk _ _ _ _ sc nD fr KL nb⟩
theorem We:ba ["many"] ["many"] (aH Aq):=bF
theorem Wf(T:Txt K mg t):aV P w K mg base bK 1 t.qj t.uo ["many"] Th:=by have S:=We;refine T.vx.bS S (fun _ _ _ _ H _ _ _ hr h=>?_);obtain ⟨m,rfl,m1,k⟩:=h;refine ⟨_,(ar (aT (ax eQ (ax eQ (ax fO (pv 0) (pv 0)) (ax fO ag (pv 0))) ag))),?_⟩;exact ⟨_,rfl,_,rfl,_,_,rfl,rfl,.inl ⟨by lia,by lia⟩,_,rfl,_,_,rfl,rfl,.inl ⟨by lia,by lia⟩,_,_,rfl,rfl,_,_,rfl,rfl,k⟩
theorem Wg:ba ["thing","n"] ["thing","n"] (aH Al):=bF
theorem Wh(T:Txt K mg t):aV P w K mg base bK 2 t.qe t.ue ["thing","n"] SM:=by
 have S:=Wg;refine T.vq.bS S (fun _ _ _ _ H _ _ _ hr h=>?_);obtain ⟨a,zs,n,rfl,ea,yf,n1,k⟩:=h;have yg:=hr.units
 refine ⟨_,(aj (bT (PW.pt (pw_or (w9 (mV (bR (iD (K:=K)) rfl T.ie boot_isinstance (aa (pv 0) (aa (sE (v:=.ty "list") rfl T.wc boot_list rfl) af))))) (pw_or1 (w9 (mV (bR (QQ (K:=K) rfl) rfl T.LO boot_all (aa (l_ (N:=["place"]) (ρ:=(fun σ=>[])) (jT [] rfl) rfl (gc (pv 0)) (fun _ _ _=>.nil) (fun _ _ _=>(aW (Mw T) hr T.D7 T.rh.kp T.D6 aI (aa (pv 0) af)))) af))))))) (ar (aT iU)) bZ)
  (ar (aT (sN (SH yg) (bR Jk rfl T.El PyProof.Rows.boot_sorted (aa (pv 0) af)) (m7 (QU rfl) rfl T.wc boot_list (aa (m7 QS rfl T.iL QV (aa (pv 1) af)) af)))))),?_⟩
 refine ⟨_,rfl,_,_,_,true,rfl,rfl,.of (.lst ea),C7,true,rfl,cK ?_⟩;unfold GY tB;refine Di (IE (xs:=zs.map V.int) (fun R h=>⟨_,rfl,a,rfl,⟨_,.of ea⟩,h _ _ (ae.refl _) (nE (.of ea))⟩) (by rw [bg];exact fB (by lia)) (fun _ i y _=>y=.bl true) (fun _ _ _ _ _ _ h _ _=>h) ?_ ?_)
 ·intro D i v hi Hc R sc _ kc
  obtain ⟨z,rfl⟩:∃z:Int,v=.int z:=by
   rw [cw] at hi;cases e:zs[i]? with
   | none=>rw [e] at hi;cases hi
   | some z=>rw [e] at hi;exact ⟨z,(Option.some.inj hi).symm⟩
  exact ⟨_,rfl,.int z,rfl,.int z,kc _ Hc (ae.refl _) rfl⟩
 ·intro D ys Hc sc wm hP eD
  refine ⟨D,List.replicate ys.length true,rfl,.of (by rw [eD];exact gU _ (gU _ (IJ hP))),?_⟩
  rw [RO];refine ⟨true,rfl,cK ?_⟩;dsimp only [Cf];have Bu:=sc _ _ ea;refine ⟨_,rfl,a,zs,rfl,Bu,yf,fun ws D2 p o n2=>?_⟩;refine ⟨_,rfl,(n:Int),rfl,fun p1 Ez=>⟨p1,n,rfl,au,by lia,fun l nl=>?_⟩⟩
  have d1:D2≠p1:=fun z=>by rw [←z,au] at Ez;cases Ez
  have d2:D2≠l:=fun z=>by rw [←z,aO d1,au] at nl;cases nl
  refine ⟨D2,l,ws,(List.range n).map iN,rfl,rfl,.of ?_,.of ?_,?_⟩;·rw [aO d2,aO d1,au]
  ·rw [au]
   unfold sY;rw [iR];rfl
  ·rw [SK p o]
   exact k _ (zP (zP (zP sc n2) Ez) nl)
theorem Wi:ba ["order","n"] ["order","n"] (aH Am):=bF
theorem Wj(T:Txt K mg t):aV P w K mg base (cL P w) 3 t.qf t.ug ["order","n"] (SN t.bq):=by
 have S:=Wi;refine T.vt.dP S (fun _ _ _ _ H _ _ _ hr h L=>?_);obtain ⟨a,zs,n,rfl,ea,yf,n1,kE,k⟩:=h;refine ⟨_,(ar (bT (w9 (mV (aW (Wh T) hr T.Kk T.vq.kp T.Kj aI (aa (pv 0) (aa (pv 1) af))))) (ar (m9 L rfl lQ T.Bq rfl T.Ek (aa cz af))) bZ)),?_⟩;refine ⟨_,rfl,_,rfl,a,zs,n,rfl,ea,yf,n1,fun H1 s1=>⟨_,rfl,b7 (fun hb=>?_) (fun hb=>?_)⟩⟩;·exact ⟨by show 1≤sizeLine;decide,kE (by simpa using hb) _ s1⟩
 ·exact k (by simpa using hb) _ s1
theorem Wl:ba ["order","turns","turn","place"] ["order"] (aH An):=bF
theorem MF(T:Txt K mg t):aV P w K mg base bK 1 t.qg t.uh ["order"] SQ:=by
 have S:=Wl;refine T.rj.bS S (fun _ _ _ _ H _ _ _ hr h=>?_);obtain ⟨a,n,o,rfl,⟨ea,ho⟩,n1,kk⟩:=h;have lo:=eh ho;have lm:(o.map fun k:Nat=>V.int (k:Int)).length=n:=by rw [bg,lo]
 refine ⟨_,(aj (putL 1 S.nd (ax HS (cC (aa ag af)) (bR fQ rfl T.fc fj (aa (pv 0) af))))
  (aj (eO dB rfl (tK rfl T.rB (aa (pv 0) af)) (mX rfl (fM (cj (i:=2) S.nd rfl (Or.inl rfl)) (fM (cj (i:=3) S.nd rfl (Or.inl rfl)) mW)))
   (ar (@gC _ _ _ _ _ _ (pv 2) (iA (pv 1) (pv 3) set_list) (by rfl) (by rfl) (by rfl))))
  (ar (aT (pv 1))))),?_⟩
 refine ⟨by show 1≤sizeLine;decide,fun l nl=>?_⟩
 have al:a≠l:=fun z=>by rw [z,nl] at ea;cases ea
 refine ⟨_,rfl,a,_,rfl,.inl (.of (by rw [aO al];exact ea)),l,_,_,rfl,rfl,au,by lia,by rw [lm];lia,?_,fun c nc=>?_⟩
 ·rw [lm,fg]
  show 1*n≤sizeLine;rw [sizeLine_eq];lia
 rw [lm,fg,SU n o];have MG:H c=none:=none_of (aA nl) nc;have s0:ae H (upd (upd H l (.lst [.int 0])) c (.lst ((List.range n).map fun p=>V.int (ju o 0 p)))):=(aA nl).trans (aA nc);have e0:upd (upd H l (.lst [.int 0])) c (.lst ((List.range n).map fun p=>V.int (ju o 0 p))) c=_:=au;generalize upd (upd H l (.lst [.int 0])) c (.lst ((List.range n).map fun p=>V.int (ju o 0 p)))=H0 at s0 e0 ⊢;dsimp only [cg];refine nF ⟨_,rfl,a,rfl,⟨_,.of (s0 _ _ ea)⟩,?_⟩
 refine IP (K:=K) (l:=a) (xs:=o.map fun k:Nat=>V.int (k:Int)) (fun i σ Hc=>ae H Hc∧∃(v2 v3:Option V),σ=[some (.ref a),some (.ref c),v2,v3]∧Hc c=some (.lst ((List.range n).map fun p=>V.int (ju o i p))))
  ⟨s0,_,_,rfl,e0⟩ (fun i σ Hc ⟨z,_⟩=>.of (z _ _ ea)) ?_ ?_
 ·rintro i x σ Hc Tt hx ⟨sc,v2,v3,rfl,ec⟩ nT
  have hi:i<o.length:=by have:=(bV.mp hx).1;simpa using this
  have ex:x=.int ((o[i]:Nat):Int):=by rw [cw] at hx;simp [hi] at hx;exact hx.symm
  subst ex;have hp:o[i]<n:=(cB ho).mp (gY hi);have sT:ae Hc (upd Hc Tt (.tup [.int (i:Int),.int ((o[i]:Nat):Int)])):=aA nT;have eT:upd Hc Tt (.tup [.int (i:Int),.int ((o[i]:Nat):Int)]) Tt=_:=au;generalize upd Hc Tt (.tup [.int (i:Int),.int ((o[i]:Nat):Int)])=H1 at sT eT ⊢;refine ⟨Tt,_,rfl,.of eT,rfl,_,_,rfl,_,_,rfl,rfl,?_⟩;refine ⟨_,rfl,_,rfl,_,rfl,c,_,_,o[i],rfl,rfl,sT _ _ ec,by rw [bg,dj];exact i8 hp,?_⟩
  exact ⟨iE (sc.trans sT) MG,_,_,rfl,by rw [au,SS ho hi]⟩
 ·rintro σ Hc ⟨sc,v2,v3,rfl,ec⟩
  rw [bg,SV ho] at ec;exact ⟨_,rfl,kk c Hc sc MG ec⟩
theorem Wm:ba ["linked","places","one","other"] ["linked","places"] (aH Ao):=bF
theorem Wn(T:Txt K mg t):aV P w K mg base bK 1 t.qh t.uj ["linked","places"] SW:=by
 have S:=Wm;refine T.vv.bS S (fun _ _ _ _ H _ _ _ hr h=>?_);obtain ⟨D,pl,n,ds,un,f,ps,rfl,KL,wo,EA,n9,kk⟩:=h;have hu:=kD (Nat.add_le_add_left (show 1≤64 by decide) _) hr.units
 have bG:∀i,i<n→un i→pl≠ds i:=fun i hi ui z=>by rw [z,KL.at' i hi ui] at wo;cases wo
 have MH:∀{i:Nat} {x:V},(ps.map fun k:Nat=>V.int (k:Int))[i]?=some x→∃p:Nat,ps[i]?=some p∧x=.int (p:Int)∧p<n∧un p:=fun{i x} hx=>by
  rw [cw] at hx;cases e:ps[i]? with
  | none=>rw [e] at hx;cases hx
  | some p=>rw [e] at hx;exact ⟨p,rfl,(Option.some.inj hx).symm,EA p (gv e)⟩
 refine ⟨_,(ar (eO dB rfl (gc (pv 1)) (cj (i:=2) S.nd rfl (Or.inl rfl))
   (ar (eO dB rfl (gc (pv 1)) (cj (i:=3) S.nd rfl (Or.inl rfl))
   (ar (bT (bN fz (pv 2) (pv 3)) (ar (Du hu (aB bJ (pv 0) (pv 2)) (pv 3) iU rfl)) bZ)))))),?_⟩
 refine ⟨_,rfl,pl,rfl,⟨_,.of wo⟩,?_⟩;refine k4 (K:=K) (a:=pl) (xs:=ps.map fun k:Nat=>V.int (k:Int)) (fun i σ Hc=>∃(g:Nat→List Nat) (v2 v3:Option V),σ=[some (.ref D),some (.ref pl),v2,v3]∧nJ n ds un H Hc∧dQ Hc D n ds un g∧gO n f ps i 0 g) ⟨f,_,_,rfl,.refl,KL,gO.start n f ps⟩ (fun i σ Hc _ ⟨_,_,_,_,oc,_⟩=>.of (oc _ _ wo bG)) ?_ ?_
 ·rintro i x σ Hc hx ⟨g,v2,v3,rfl,oc,Kc,la⟩
  obtain ⟨p,hp,rfl,pn,up⟩:=MH hx;refine ⟨_,rfl,pl,rfl,⟨_,.of (oc _ _ wo bG)⟩,?_⟩;refine k4 (K:=K) (a:=pl) (xs:=ps.map fun k:Nat=>V.int (k:Int)) (fun j σ Hd=>∃(g:Nat→List Nat) (v3:Option V),σ=[some (.ref D),some (.ref pl),some (.int (p:Int)),v3]∧nJ n ds un H Hd∧dQ Hd D n ds un g∧gO n f ps i j g) ⟨g,_,rfl,oc,Kc,la⟩ (fun i σ Hc _ ⟨_,_,_,oc,_⟩=>.of (oc _ _ wo bG)) ?_ ?_
  ·rintro j y σ Hd hy ⟨g,v3,rfl,od,Kd,la⟩
   obtain ⟨q,hq,rfl,qn,uq⟩:=MH hy;refine ⟨_,rfl,_,rfl,rfl,_,rfl,b7 (fun hb=>?_) (fun hb=>?_)⟩
   ·have ne:p≠q:=fun z=>by subst z;rw [i5,dc rfl] at hb;cases hb
    obtain ⟨q1,K1⟩:=Kd.put pn qn up n9;exact ⟨_,rfl,_,rfl,D,_,_,_,rfl,rfl,.of Kd.lst,Kd.ix pn,_,rfl,_,_,rfl,q1,_,_,rfl,od.put pn up,K1,la.put hp hq ne⟩
   ·have e:p=q:=by
     by_cases z:(p:Int)=(q:Int);·lia
     ·exact absurd (by rw [i5,da z];rfl) hb
    subst e;exact ⟨_,_,rfl,od,Kd,la.same hp hq⟩
  ·rintro σ Hd ⟨g,v3,rfl,od,Kd,la⟩
   rw [bg] at la;exact ⟨g,_,_,rfl,od,Kd,la.row⟩
 ·rintro σ Hc ⟨g,v2,v3,rfl,oc,Kc,la⟩
  rw [bg] at la;exact kk _ g oc Kc la.done
theorem Wo:ba ["shape","order","linked","turns","told","place"] ["shape","order"] (aH Ap):=bF
theorem Wq(T:Txt K mg t):aV P w K mg base (cL P w) 4 t.qi t.um ["shape","order"] (Tj t.bq):=by
 have S:=Wo;refine T.vw.dP S (fun _ _ _ _ H _ _ _ hr h L=>?_);obtain ⟨tp,a,n,Lk,zs,rfl,hS,hL,ns,Br,ea,yf,kE,kk⟩:=h;obtain ⟨lt,us,dI,elt,s_⟩:=id hS
 refine ⟨_,(aj (oU (aW (Wj T) hr T.Km T.vt.kp T.Kl (i3 L) (aa (pv 1) (aa (aB bH (pv 0) ag) af))))
  (dN.jj (aj (putL 2 S.nd (aW (V9 T) hr T.Ki T.vp.kp T.Ke aI (aa (pv 0) af)))
  (aj (C5 3 S.nd (aW (MF T) hr T.D9 T.rj.kp T.D8 aI (aa (pv 1) af)))
  (aj (zH (i0:=4) (N:=["place"]) (ρ:=(fun σ=>[])) (jT [] rfl) rfl S.nd rfl (Or.inl rfl) (gc (pv 1)) (fun _ _ _=>.nil) (fun _ _ _=>(cC af)))
  (aj (eO dB rfl (gc (pv 1)) (cj (i:=5) S.nd rfl (Or.inr rfl))
   (aj (@gC _ _ _ _ _ _ (bR Jk rfl T.El PyProof.Rows.boot_sorted (aa (l_ (N:=["other","turns","place"]) (ρ:=(fun σ=>[σ[3]?.join,σ[5]?.join])) (jT [3,5] rfl) rfl (Sf (aB bJ (pv 2) (pv 5))) (fun _ _ _=>(.one (bN sM (aB (lq (K:=K)) (pv 1) (pv 0)) (aB (lq (K:=K)) (pv 1) (pv 2))))) (fun _ _ _=>(pv 0))) af)) (iA (pv 4) (pv 5) set_list) (by rfl) (by rfl) (by rfl))
  (ar (oU (aW (Wn T) hr T.Ko T.vv.kp T.Kn aI (aa (pv 2) (aa (aB bJ (pv 4) (pv 5)) af)))))))
  (ar (aT (pv 4))))))))),?_⟩
 refine ⟨_,rfl,_,rfl,tp,_,_,_,rfl,rfl,.of dI,rfl,a,zs,n,rfl,ea,yf,by lia,fun no H1 s1=>kE no H1 s1,fun yes H1 s1=>?_⟩
 obtain ⟨o,rfl,ho⟩:=S7 yes;have kk:=kk o rfl ho;have lo:=eh ho;have nd:=i9 ho;have yh:H a=some (.lst (o.map fun k:Nat=>V.int (k:Int))):=by rw [ea,iR];rfl
 have lm:(o.map fun k:Nat=>V.int (k:Int)).length=n:=by rw [bg,lo]
 refine ⟨_,rfl,tp,n,Lk,rfl,⟨lt,us,s1 _ _ dI,s1 _ _ elt,s_.mono s1⟩,hL,by lia,fun H2 D ds f s2 nD Wr KL nb=>?_⟩
 have nD0:=none_of s1 nD;have MI:∀i,i<n→H (ds i)=none:=fun i hi=>none_of s1 (Wr i hi);have di:=s1.trans s2;dsimp only [cg];refine ⟨_,rfl,a,n,o,rfl,⟨di _ _ yh,ho⟩,by lia,fun tr H3 s3 Ws e3=>?_⟩
 have iM:=di.trans s3;have aev:=none_of di Ws;have K3:=KL.mono s3;dsimp only [cg];refine nF (aY (pQ (xs:=o.map fun k:Nat=>V.int (k:Int)) (n:=n) lm (fun R h=>⟨_,rfl,a,rfl,⟨_,.of (iM _ _ yh)⟩,h _ _ (ae.refl _) (nE (.of (iM _ _ yh)))⟩) (fB (by lia)) (fun _ i y Hx=>H3 y=none) (fun _ _ _ _ _ _ h _ _ _=>h) ?_ ?_))
 ·intro D' i x hx Hc R sc _ kc
  refine ⟨by show 0≤sizeLine;exact b_ _,fun p np=>kc p _ (aA np) np ⟨_,au⟩ (none_of sc np)⟩
 ·intro c Wu H4 nc s4 _ hA ec
  have oj:=iM.trans s4;have MJ:=none_of iM nc;have K4:=K3.mono s4;have e4:=s4 _ _ e3;have cD:c≠D:=fun z=>by rw [z,K3.lst] at nc;cases nc
  have Wv:c≠tr:=fun z=>by rw [z,e3] at nc;cases nc
  dsimp only [cg];refine nF ⟨_,rfl,a,rfl,⟨_,.of (oj _ _ yh)⟩,?_⟩
  refine k4 (K:=K) (a:=a) (xs:=o.map fun k:Nat=>V.int (k:Int)) (fun k σ Hc=>∃(rs:Nat→Addr) (f g:Nat→List Nat) (v5:Option V),σ=[some (.ref tp),some (.ref a),some (.ref D),some (.ref tr),some (.ref c),v5]∧ae H Hc∧dQ Hc D n ds (fun p=>k≤o.idxOf p) f∧Hc tr=some (.lst ((List.range n).map fun p=>V.int (o.idxOf p:Int)))∧Hc c=some (.lst ((List.range n).map fun p=>V.ref (rs p))) ∧
    (∀p,p<n→o.idxOf p<k→H (rs p)=none∧rs p≠c∧Hc (rs p)=some (.lst ((g p).map fun k:Nat=>V.int (k:Int)))∧iG n o p (g p)∧hV n Lk o p (g p))∧pV n Lk o k f) ⟨Wu,f,fun _=>[],_,rfl,oj,K4.less (fun _ _ _=>trivial),e4,ec,fun p _ h=>absurd h (mJ _),pV.start nb ns⟩ (fun k σ Hc _ ⟨_,_,_,_,_,sc,_⟩=>.of (sc _ _ yh)) ?_ ?_
  ·rintro k x σ Hc hx ⟨rs,f,g,v5,rfl,sc,Kc,EB,Bv,done,EC⟩
   have hk:k<o.length:=by have:=(bV.mp hx).1;simpa using this
   have ex:x=.int ((o[k]:Nat):Int):=by rw [cw] at hx;simp [hk] at hx;exact hx.symm
   subst ex;have hp:o[k]<n:=(cB ho).mp (gY hk);have ip:o.idxOf o[k]=k:=nH nd hk;generalize o[k]=p at hp ip ⊢;dsimp only [cg];have MK:=Kc.at' p hp (by lia)
   refine nF (aY (Di (Te ⟨_,rfl,_,rfl,D,_,_,_,rfl,rfl,.of Kc.lst,Kc.ix hp,ds p,dk (f p),rfl,.inl ⟨MK,fun ob=>?_⟩⟩)));have Kf:dQ (upd Hc (ds p) (.cp ob (.dK (dk (f p))))) D n ds (fun q=>k+1≤o.idxOf q) f:=(Kc.less (fun i hi (ui:k+1≤o.idxOf i)=>show k≤o.idxOf i by lia)).upd (Kc.ne p hp) (fun i hi (ui:k+1≤o.idxOf i) z=>by have:=Kc.inj i p hi hp z;subst this;lia)
   have ED:∀{b:Addr} {xs:List V},Hc b=some (.lst xs)→b≠ds p:=fun{b xs} e z=>by rw [z,MK] at e;cases e
   have Bw:upd Hc (ds p) (.cp ob (.dK (dk (f p)))) tr=_:=(aO (ED EB)).trans EB;have Bx:upd Hc (ds p) (.cp ob (.dK (dk (f p)))) c=_:=(aO (ED Bv)).trans Bv;have sf:ae H (upd Hc (ds p) (.cp ob (.dK (dk (f p))))):=fun b u e=>by
    rw [aO (fun z=>by rw [z,MI p hp] at e;cases e)]
    exact sc _ _ e
   have EE:∀q,q<n→o.idxOf q<k→H (rs q)=none∧rs q≠c∧upd Hc (ds p) (.cp ob (.dK (dk (f p)))) (rs q)=some (.lst ((g q).map fun k:Nat=>V.int (k:Int)))∧iG n o q (g q)∧hV n Lk o q (g q):=fun q hq By=>by obtain ⟨d1,d2,d3,d4⟩:=done q hq By;exact ⟨d1,d2,(aO (ED d3)).trans d3,d4⟩
   have ML:upd Hc (ds p) (.cp ob (.dK (dk (f p)))) (ds p)=some (.cp ob (.dK (dk (f p)))):=au;generalize upd Hc (ds p) (.cp ob (.dK (dk (f p))))=Hf at Kf Bw Bx sf EE ML ⊢;have yi:=Kc.pl p hp;refine S2 ML (fun q=>decide ((o.idxOf p:Int)<(o.idxOf q:Int))) (kD yi.len (fB (by lia))) ?_ ?_ ?_
   ·intro q hq Hx R sx hR
    have qn:=yi.2 q hq;exact ⟨_,rfl,_,rfl,tr,_,_,_,rfl,rfl,.of (sx _ _ Bw),ck qn,_,rfl,_,rfl,tr,_,_,_,rfl,rfl,.of (sx _ _ Bw),ck hp,_,_,rfl,rfl,_,rfl,hR⟩
   ·intro q hq Hx R hR
    exact ⟨_,rfl,hR⟩
   ·intro D1 H1 EF MM MN
    rw [Tc] at MN;have fl:((f p).filter fun q=>decide (o.idxOf p<o.idxOf q)).length≤n:=a8 (B0 _ _) yi.len;refine ⟨D1,((f p).filter fun q=>decide (o.idxOf p<o.idxOf q)).map iN,rfl,by rw [MN,iR];rfl,by rw [bg];lia,fun ws D2 pw so MO=>?_⟩
    obtain ⟨ms,rfl,pm⟩:=Jn pw;have gk:=S3 yi pm so;have hm:∀q,q∈ms↔q∈f p∧k<o.idxOf q:=fun q=>by rw [pm.mem_iff,r9,wQ,ip]
    have Ww:hV n Lk o p ms:=fun q=>by
     rw [hm q,ip];constructor
     ·rintro ⟨h1,h2⟩
      have qn:=yi.2 q h1;exact ⟨qn,h2,((EC p q hp qn (by lia) (by lia)).mp h1).2⟩
     ·rintro ⟨h1,h2,h3⟩
      exact ⟨(EC p q hp h1 (by lia) (by lia)).mpr ⟨fun e=>by subst e;lia,h3⟩,h2⟩
    have rD:ae Hf (upd H1 D2 (.lst ((ms.map iN).map V.int))):=zP MM MO;have Bz:upd H1 D2 (.lst ((ms.map iN).map V.int)) D2=some (.lst (ms.map fun k:Nat=>V.int (k:Int))):=by rw [au,iR];rfl
    have EG:Hf D2=none:=none_of MM MO;have Wx:H D2=none:=none_of sf EG;generalize upd H1 D2 (.lst ((ms.map iN).map V.int))=Hg at rD Bz ⊢;have MP:D2≠c:=fun z=>by rw [z,Bx] at EG;cases EG
    refine ⟨_,rfl,_,rfl,c,_,_,p,rfl,rfl,rD _ _ Bx,by rw [bg,dj];exact i8 hp,?_⟩
    rw [S9];have Kg:=Kf.mono rD;have Kh:dQ (upd Hg c (.lst ((List.range n).map fun q=>V.ref (jv rs p D2 q)))) D n ds (fun q=>k+1≤o.idxOf q) f:=Kg.upd cD (fun i hi ui z=>by have:=Kg.at' i hi ui;rw [z,rD _ _ Bx] at this;cases this)
    have sh:ae H (upd Hg c (.lst ((List.range n).map fun q=>V.ref (jv rs p D2 q)))):=iE (sf.trans rD) MJ;have EH:upd Hg c (.lst ((List.range n).map fun q=>V.ref (jv rs p D2 q))) c=_:=au;have MQ:upd Hg c (.lst ((List.range n).map fun q=>V.ref (jv rs p D2 q))) tr=_:=(aO (Ne.symm Wv)).trans (rD _ _ Bw);have EI:upd Hg c (.lst ((List.range n).map fun q=>V.ref (jv rs p D2 q))) D2=_:=(aO MP).trans Bz;have MR:∀q,q<n→o.idxOf q<k→upd Hg c (.lst ((List.range n).map fun q=>V.ref (jv rs p D2 q))) (rs q)=some (.lst ((g q).map fun k:Nat=>V.int (k:Int))):=fun q hq By=>by obtain ⟨d1,d2,d3,d4⟩:=EE q hq By;exact (aO d2).trans (rD _ _ d3)
    generalize upd Hg c (.lst ((List.range n).map fun q=>V.ref (jv rs p D2 q)))=Hh at Kh sh EH MQ EI MR ⊢;refine ⟨_,rfl,_,rfl,_,rfl,c,_,_,_,rfl,rfl,.of EH,ck hp,?_⟩;rw [Jo];refine ⟨D,D2,n,ds,_,f,ms,rfl,Kh,EI,fun q hq=>⟨gk.lt q hq,by have:=gk.la q hq;lia⟩,by lia,fun H5 g5 off K5 con=>?_⟩
    have bG:∀{b:Addr} {xs:List V},Hh b=some (.lst xs)→H5 b=some (.lst xs):=fun{b xs} e=>off _ _ e fun i hi ui z=>by rw [z,Kh.at' i hi ui] at e;cases e
    refine ⟨jv rs p D2,g5,fG g p ms,_,rfl,fun b u e=>off _ _ (sh _ _ e) (fun i hi _ z=>by rw [z,MI i hi] at e;cases e),K5,bG MQ,bG EH,fun q hq By=>?_,EC.step ho hp ip hm gk.lt con⟩
    by_cases e:q=p
    ·subst e
     rw [Jo,Ta];exact ⟨Wx,MP,bG EI,gk,Ww⟩
    ·rw [S_ e,Tb e]
     have ne:=pS ho hq hp e;have MS:o.idxOf q<k:=by lia
     obtain ⟨d1,d2,d3,d4⟩:=EE q hq MS;exact ⟨d1,d2,bG (MR q hq MS),d4⟩
  ·rintro σ Hc ⟨rs,f,g,v5,rfl,sc,Kc,EB,Bv,done,_⟩
   rw [lm] at done;have lt:∀p,p<n→o.idxOf p<n:=fun p hp=>by have:=(dE ((cB ho).mpr hp)).1;lia
   exact ⟨_,rfl,kk Hc c rs g sc MJ (fun p hp=>(done p hp (lt p hp)).1) ⟨Bv,fun p hp=>(done p hp (lt p hp)).2.2.1⟩ fun p hp=>(done p hp (lt p hp)).2.2.2⟩
theorem Wy:ba ["world","work","others","order","aim","left","place","i"] ["world","work","others","order","aim"] (aH Au):=bF
theorem Wz(T:Txt K mg t):aV P w K mg base bK 5 t.qm t.uv ["world","work","others","order","aim"] (TU t.aX):=by
 have S:=Wy;have ya:=Er (P:=P) (w:=w) (base:=base) T;have yb:=Es (P:=P) (w:=w) (base:=base) T;refine T.vz.bS S (fun _ _ _ _ H _ _ _ hr h=>?_);obtain ⟨z,wk,ot,d,e,q,X,n,L,o,M,D,rs,ls,vf,g,av,rfl,hw,hq,n1,dH,hW,hF,la,c_,ed,ho,ee,hA,gd,hD,zero,X1,fU,bd,bl,kk⟩:=h;have lo:=eh ho;obtain ⟨dz,hz⟩:=id hw;have ig:X≤10 ^ 300:=a8 fU (by decide +kernel)
 have XX:X*X≤10 ^ 300:=a8 (gz fU fU) (by decide +kernel)
 have yj:∀i j,i<n→j<n→¬q∣sU M D o n i j:=fun i j hi hj=>(hF i j hi hj).choose_spec.choose_spec.2.2;have yk:∀k i,k≤n→¬q∣sW M D o k i:=fun k i hk=>e_ hq (hD i) (mh hq (mj gd (by lia)))
 refine ⟨_,(aj (putL 5 S.nd (m7 CD rfl T.wc boot_list (aa (pv 4) af)))
  (aj (eO dB rfl (gc (pv 3)) (cj (i:=6) S.nd rfl (Or.inl rfl))
   (ar (eO dB rfl (gc (aB bJ (pv 2) (pv 6))) (cj (i:=7) S.nd rfl (Or.inl rfl))
   (ar (@gC _ _ _ _ _ _ (g6 (pv 0) T.dh T.wa ya (hr.mono (by decide)) T.Bk .nil aI (aa (aB bJ (pv 5) (pv 7)) (aa (g6 (pv 0) T.dh T.wb yb (hr.mono (by decide)) T.Bl .nil aI (aa (aB bJ (aB bJ (pv 1) (pv 7)) (pv 6)) (aa (aB bJ (pv 5) (pv 6)) af))) af))) (iA (pv 5) (pv 7) set_list) (by rfl) (by rfl) (by rfl))))))
  (ar (aT (pv 5))))),?_⟩
 refine aC fun _ hR=>aY ⟨_,rfl,e,_,rfl,.inl (.of ee),fun r nr=>hR _ _ ?_⟩;have o1:aG r H (upd H r (.lst ((List.range n).map av))):=aG.of (aA nr);have e1:cE (upd H r (.lst ((List.range n).map av))) r n av:=au;have F1:∀i,i<n→aQ X (upd H r (.lst ((List.range n).map av))) q (av i) (sL M o n 0 i) (sW M D o 0 i):=fun i hi=>by
  have a1:sL M o n 0 i=M i n:=by unfold sL;rw [Nat.zero_min];exact Dy
  have a2:sW M D o 0 i=D i:=by unfold sW;rw [Nat.zero_min];exact gu _
  rw [a1,a2];exact (hA i hi).mono (aA nr)
 generalize upd H r (.lst ((List.range n).map av))=H1 at o1 e1 F1 ⊢;have off:∀{Hc:Hp},aG r H Hc→∀b u,H b=some u→Hc b=some u:=fun{Hc} oc b u e=>oc b u (fun zz=>by rw [zz,nr] at e;cases e) e
 refine aC fun _ hR=>⟨_,rfl,d,rfl,⟨_,.of (off o1 _ _ ed)⟩,?_⟩;refine k4 (K:=K) (a:=d) (xs:=bU o) (fun k σ Hc=>∃(lv:Nat→V) (v6 v7:Option V),σ=[some (.ref z),some (.ref wk),some (.ref ot),some (.ref d),some (.ref e),some (.ref r),v6,v7]∧aG r H Hc∧cE Hc r n lv∧∀i,i<n→aQ X Hc q (lv i) (sL M o n k i) (sW M D o k i)) ⟨av,_,_,rfl,o1,e1,F1⟩ (fun k σ Hc _ ⟨_,_,_,_,oc,_⟩=>.of (off oc _ _ ed)) ?_ ?_
 ·rintro k x σ Hc hx ⟨lv,v6,v7,rfl,oc,er,Fc⟩
  obtain ⟨p,hk,rfl⟩:=int_at hx;have kl:k<o.length:=(bV.mp hk).1;have pk:o[k]=p:=(bV.mp hk).2;have hp:p<n:=(cB ho).mp (gv hk);have ip:o.idxOf p=k:=by rw [←pk];exact nH (i9 ho) kl
  obtain ⟨WA,eP⟩:=TV (D:=D) hq ho hp ip gd zero (c_ p hp).2;have lk:=(c_ p hp).1;have nd:(g p).Nodup:=lk.up.imp (fun h=>cV h);have pm:p∉g p:=fun zz=>by have:=lk.la p zz;lia
  dsimp only [cg];refine ⟨_,rfl,_,rfl,ot,_,_,_,rfl,rfl,.of (off oc _ _ la.1),ck hp,ls p,rfl,⟨_,.of (off oc _ _ (la.2 p hp))⟩,?_⟩;refine k4 (K:=K) (a:=ls p) (xs:=bU (g p)) (fun l σ Hd=>∃(lv:Nat→V) (v7:Option V),σ=[some (.ref z),some (.ref wk),some (.ref ot),some (.ref d),some (.ref e),some (.ref r),some (.int (p:Int)),v7]∧aG r H Hd∧cE Hd r n lv∧∀i,i<n→aQ X Hd q (lv i) (if i∈(g p).take l then sL M o n (k+1) i else sL M o n k i) (if i∈(g p).take l then sW M D o (k+1) i else sW M D o k i)) ⟨lv,_,rfl,oc,er,fun i hi=>by simpa using Fc i hi⟩ (fun l σ Hd _ ⟨_,_,_,od,_⟩=>.of (off od _ _ (la.2 p hp))) ?_ ?_
  ·clear Fc er oc
   rintro l x σ Hd hx ⟨lv,v7,rfl,od,er,Fd⟩;obtain ⟨i,hi,rfl⟩:=int_at hx;have im:=gv hi;have cm:=lk.lt i im;have il:=zZ nd hi;have pl:p∉(g p).take l:=fun zz=>pm (List.mem_of_mem_take zz);have wi:=Fd i cm;have wp:=Fd p hp;rw [ak il,ak il] at wi;rw [ak pl,ak pl] at wp;have sd:ae H Hd:=off od;have wt:=(hF i p cm hp).mono sd;have gr:=sd _ _ hz;dsimp only [cg];refine aY ⟨_,rfl,z,dz,_,rfl,gr,hJ (by decide +kernel),_,rfl,_,rfl,r,_,_,_,rfl,rfl,.of er,ck cm,_,rfl,z,dz,_,rfl,gr,hJ (by decide +kernel),_,rfl,_,rfl,wk,_,_,_,rfl,rfl,.of (sd _ _ hW.lst),ck cm,_,rfl,rs i,_,_,_,rfl,rfl,.of (sd _ _ (hW.at' i cm)),ck hp,_,rfl,_,rfl,r,_,_,_,rfl,rfl,.of er,ck hp,?_⟩
   dsimp only [jN];show jX t.aX (fun x m y n=>x*y) (fun i j=>i*j) [.ref z,vf i p,lv p] _ _ _;refine DD (Y':=(sT M D o n i p*sL M o n k p).natAbs+(sU M D o n i p*sW M D o k p).natAbs) ⟨dz,gr⟩ hq wt wp ig ig (e_ hq (yj i p cm hp) (yk k p (by lia))) (by lia) (by lia) fun v1 H2 s2 w1=>?_
   have w1:aQ (X*X) H2 q v1 (sT M D o n i p*sL M o n k p) (sU M D o n i p*sW M D o k p):=w1.bd (by rw [fK];exact gz (bd n i p (aN _)).1 (bl k p (by lia)).1) (by rw [fK];exact gz (bd n i p (aN _)).2 (bl k p (by lia)).2)
   show jX t.aX (fun x m y n=>x*n-y*m) (fun i j=>i-j) [.ref z,lv i,v1] _ _ _;refine DC (Y':=(sL M o n k i*(sU M D o n i p*sW M D o k p)-sT M D o n i p*sL M o n k p*sW M D o k i).natAbs+(sW M D o k i*(sU M D o n i p*sW M D o k p)).natAbs) ⟨dz,s2 _ _ gr⟩ hq (wi.mono s2) w1 ig XX (e_ hq (yk k i (by lia)) (e_ hq (yj i p cm hp) (yk k p (by lia)))) (by lia) (by lia) fun v2 H3 s3 w2=>?_
   have w2:=(w2.eq hq (WA i im) (yk (k+1) i (by lia))).bd (bl (k+1) i (by lia)).1 (bl (k+1) i (by lia)).2
   have rE:=s2.trans s3;have kh:=rE _ _ er;refine ⟨_,rfl,_,rfl,r,_,_,i,rfl,rfl,kh,by rw [bg,dj];exact i8 cm,?_⟩
   refine ⟨fun j=>if j=i then v2 else lv j,_,rfl,fun b u ne e=>by rw [aO ne];exact rE _ _ (od b u ne e),by unfold cE;rw [au,map_set],fun j hj=>?_⟩
   rw [take_snoc hi];by_cases ej:j=i
   ·subst ej
    simp only [aq,jB,iu,or_true];exact w2.put kh
   ·have e3:(j∈(g p).take l++[i])↔j∈(g p).take l:=by simp [ej]
    simp only [ak ej,e3];exact ((Fd j hj).mono rE).put kh
  ·rintro σ Hd ⟨lv,v7,rfl,od,er,Fd⟩
   have ll:(bU (g p)).length=(g p).length:=bg _;rw [ll,kH] at Fd;refine ⟨lv,_,_,rfl,od,er,fun i hi=>?_⟩;have:=Fd i hi;by_cases h:i∈g p;·rwa [aq h,aq h] at this
   ·rw [ak h,ak h] at this
    exact (this.eq hq (eP i hi h) (yk (k+1) i (by lia))).bd (bl (k+1) i (by lia)).1 (bl (k+1) i (by lia)).2
 ·rintro σ Hc ⟨lv,v6,v7,rfl,oc,er,Fc⟩
  refine hR _ _ ?_;have ll:(bU o).length=n:=by unfold bU;rw [bg,lo]
  rw [ll] at Fc;exact ⟨_,rfl,kk r lv Hc (off oc) nr er Fc⟩
theorem WB:ba ["world","work","others","places","row","told","place","j"] ["world","work","others","places","row"] (aH Av):=bF
theorem MT(T:Txt K mg t):aV P w K mg base bK 5 t.qo t.uw ["world","work","others","places","row"] (TZ t.aX):=by
 have S:=WB;have ya:=Er (P:=P) (w:=w) (base:=base) T;have yb:=Es (P:=P) (w:=w) (base:=base) T;have Et:=Mz (P:=P) (w:=w) (base:=base) T;refine T.rq.bS S (fun _ A _ _ H _ _ _ hr h=>?_);obtain ⟨z,wk,ot,d,e,q,X,n,ps,Tw,U,rs,ls,vf,g,av,A,B,x,y,Sw,Rw,rfl,hw,hq,dH,hW,hF,hB,la,ed,nd,EA,EJ,ee,hA,X1,fU,rp,kk⟩:=h;obtain ⟨dz,hz⟩:=id hw;have ig:X≤10 ^ 300:=a8 fU (by decide +kernel)
 have XX:X*X≤10 ^ 300:=a8 (gz fU fU) (by decide +kernel)
 have yj:∀i j,i<n→j<n→¬q∣U i j:=fun i j hi hj=>(hF i j hi hj).choose_spec.choose_spec.2.2
 refine ⟨_,(aj (putL 5 S.nd (m7 CD rfl T.wc boot_list (aa (pv 4) af)))
  (aj (eO dB rfl (TM rfl T.LU (aa (pv 3) af)) (cj (i:=6) S.nd rfl (Or.inl rfl))
   (aj (eO dB rfl (gc (aB bJ (pv 2) (pv 6))) (cj (i:=7) S.nd rfl (Or.inl rfl))
   (ar (@gC _ _ _ _ _ _ (g6 (pv 0) T.dh T.wa ya (hr.mono (by decide)) T.Bk .nil aI (aa (aB bJ (pv 5) (pv 6)) (aa (g6 (pv 0) T.dh T.wb yb (hr.mono (by decide)) T.Bl .nil aI (aa (aB bJ (aB bJ (pv 1) (pv 6)) (pv 7)) (aa (aB bJ (pv 5) (pv 7)) af))) af))) (iA (pv 5) (pv 6) set_list) (by rfl) (by rfl) (by rfl))))
  (ar (@gC _ _ _ _ _ _ (g6 (pv 0) T.dh T.x4 Et (hr.mono (by decide)) T.Ei .nil k9 (aa (aB bJ (pv 5) (pv 6)) (aa (aB bJ (aB bJ (pv 1) (pv 6)) (pv 6)) af))) (iA (pv 5) (pv 6) set_list) (by rfl) (by rfl) (by rfl)))))
  (ar (aT (pv 5))))),?_⟩
 refine aC fun _ hR=>aY ⟨_,rfl,e,_,rfl,.inl (.of ee),fun r nr=>hR _ _ ?_⟩;have o1:aG r H (upd H r (.lst ((List.range n).map av))):=aG.of (aA nr);have e1:cE (upd H r (.lst ((List.range n).map av))) r n av:=au;have F1:∀i,i<n→aQ X (upd H r (.lst ((List.range n).map av))) q (av i) (A i) (B i):=fun i hi=>(hA i hi).mono (aA nr);generalize upd H r (.lst ((List.range n).map av))=H1 at o1 e1 F1 ⊢;have off:∀{Hc:Hp},aG r H Hc→∀b u,H b=some u→Hc b=some u:=fun{Hc} oc b u e=>oc b u (fun zz=>by rw [zz,nr] at e;cases e) e
 have yl:(bU ps).length=ps.length:=bg _;refine aC fun _ hR=>⟨_,rfl,d,_,rfl,.of (off o1 _ _ ed),?_⟩;refine TN (K:=K) (a:=d) (xs:=bU ps) (fun k σ Hc=>∃(lv:Nat→V) (v6 v7:Option V),σ=[some (.ref z),some (.ref wk),some (.ref ot),some (.ref d),some (.ref e),some (.ref r),v6,v7]∧aG r H Hc∧cE Hc r n lv∧∀i,i<n→aQ X Hc q (lv i) (if i∈ps.take (ps.length-k) then A i else x i) (if i∈ps.take (ps.length-k) then B i else y i)) ⟨av,_,_,rfl,o1,e1,fun i hi=>?_⟩ (fun k σ Hc _ ⟨_,_,_,_,oc,_⟩=>.of (off oc _ _ ed)) ?_ ?_
 ·rw [Nat.sub_zero,kH]
  by_cases h:i∈ps
  ·rw [aq h,aq h]
   exact F1 i hi
  ·rw [ak h,ak h,←(rp.xE i hi h).1,←(rp.xE i hi h).2]
   exact F1 i hi
 ·rintro k v σ Hc WC hx ⟨lv,v6,v7,rfl,oc,er,Fc⟩
  rw [yl] at WC hx;obtain ⟨p,hk,rfl⟩:=int_at hx;have pm:=gv hk;obtain ⟨hp,hg⟩:=EA p pm;have EJ:=EJ _ p hk;have ts:ps.take (ps.length-k)=ps.take (ps.length-1-k)++[p]:=by
   rw [show ps.length-k=(ps.length-1-k)+1 by lia]
   exact take_snoc hk
  have pt:p∉ps.take (ps.length-1-k):=zZ nd hk;have gt:∀j∈g p,j∉ps.take (ps.length-k):=fun j hj=>by
   have:=EJ j hj
   rwa [show ps.length-1-k+1=ps.length-k by lia] at this
  dsimp only [cg];refine aC fun _ hR=>⟨_,rfl,_,rfl,ot,_,_,_,rfl,rfl,.of (off oc _ _ la.1),ck hp,ls p,rfl,⟨_,.of (off oc _ _ (la.2 p hp))⟩,?_⟩;refine k4 (K:=K) (a:=ls p) (xs:=bU (g p)) (fun l σ Hd=>∃(lv:Nat→V) (v7:Option V),σ=[some (.ref z),some (.ref wk),some (.ref ot),some (.ref d),some (.ref e),some (.ref r),some (.int (p:Int)),v7]∧aG r H Hd∧cE Hd r n lv∧aQ X Hd q (lv p) (Sw p l) (Rw p l)∧∀i,i<n→i≠p→aQ X Hd q (lv i) (if i∈ps.take (ps.length-k) then A i else x i) (if i∈ps.take (ps.length-k) then B i else y i)) ⟨lv,_,rfl,oc,er,?_,fun i hi _=>Fc i hi⟩ (fun l σ Hd _ ⟨_,_,_,od,_⟩=>.of (off od _ _ (la.2 p hp))) ?_ ?_
  ·have:=Fc p hp
   rw [aq (by rw [ts];simp),aq (by rw [ts];simp)] at this
   exact (this.eq hq (rp.s0 p pm) (rp.DJ p pm 0)).bd (rp.bd.1 p pm 0 (b_ _)).1 (rp.bd.1 p pm 0 (b_ _)).2
  ·clear Fc er oc
   rintro l v σ Hd hx ⟨lv,v7,rfl,od,er,wp,Fd⟩;obtain ⟨j,hj,rfl⟩:=int_at hx;have jm:=gv hj;have ll:=(bV.mp hj).1;obtain ⟨eE,jp⟩:=hg j jm;have wj:=Fd j eE jp;rw [ak (gt j jm),ak (gt j jm)] at wj;have sd:ae H Hd:=off od;have wt:=(hF p j hp eE).mono sd;have gr:=sd _ _ hz;dsimp only [cg];refine aY ⟨_,rfl,z,dz,_,rfl,gr,hJ (by decide +kernel),_,rfl,_,rfl,r,_,_,_,rfl,rfl,.of er,ck hp,_,rfl,z,dz,_,rfl,gr,hJ (by decide +kernel),_,rfl,_,rfl,wk,_,_,_,rfl,rfl,.of (sd _ _ hW.lst),ck hp,_,rfl,rs p,_,_,_,rfl,rfl,.of (sd _ _ (hW.at' p hp)),ck eE,_,rfl,_,rfl,r,_,_,_,rfl,rfl,.of er,ck eE,?_⟩
   dsimp only [jN];show jX t.aX (fun x m y n=>x*y) (fun i j=>i*j) [.ref z,vf p j,lv j] _ _ _;refine DD (Y':=(Tw p j*x j).natAbs+(U p j*y j).natAbs) ⟨dz,gr⟩ hq wt wj ig ig (e_ hq (yj p j hp eE) (rp.DK j)) (by lia) (by lia) fun v1 H2 s2 w1=>?_
   have w1:aQ (X*X) H2 q v1 (Tw p j*x j) (U p j*y j):=w1.bd (by rw [fK];exact gz (hB p j hp eE).1 (rp.bd.2 j).1) (by rw [fK];exact gz (hB p j hp eE).2 (rp.bd.2 j).2)
   show jX t.aX (fun x m y n=>x*n-y*m) (fun i j=>i-j) [.ref z,lv p,v1] _ _ _;refine DC (Y':=(Sw p l*(U p j*y j)-Tw p j*x j*Rw p l).natAbs+(Rw p l*(U p j*y j)).natAbs) ⟨dz,s2 _ _ gr⟩ hq (wp.mono s2) w1 ig XX (e_ hq (rp.DJ p pm l) (e_ hq (yj p j hp eE) (rp.DK j))) (by lia) (by lia) fun v2 H3 s3 w2=>?_
   have w2:=(w2.eq hq (rp.TY p pm l j hj) (rp.DJ p pm (l+1))).bd (rp.bd.1 p pm (l+1) ll).1 (rp.bd.1 p pm (l+1) ll).2;have rE:=s2.trans s3;have kh:=rE _ _ er;refine ⟨_,rfl,_,rfl,r,_,_,p,rfl,rfl,kh,by rw [bg,dj];exact i8 hp,?_⟩
   refine ⟨fun i=>if i=p then v2 else lv i,_,rfl,fun b u ne e=>by rw [aO ne];exact rE _ _ (od b u ne e),by unfold cE;rw [au,map_set],by dsimp only;rw [aq rfl];exact w2.put kh,fun i hi ip=>?_⟩
   dsimp only;rw [ak ip];exact ((Fd i hi ip).mono rE).put kh
  ·rintro σ Hd ⟨lv,v7,rfl,od,er,wp,Fd⟩
   have ll:(bU (g p)).length=(g p).length:=bg _;rw [ll] at wp;refine hR _ _ ?_;have sd:ae H Hd:=off od;have wt:=(hF p p hp hp).mono sd;have gr:=sd _ _ hz;refine aY ⟨_,rfl,z,dz,_,rfl,gr,hJ (by decide +kernel),_,rfl,_,rfl,r,_,_,_,rfl,rfl,.of er,ck hp,_,rfl,_,rfl,wk,_,_,_,rfl,rfl,.of (sd _ _ hW.lst),ck hp,_,rfl,rs p,_,_,_,rfl,rfl,.of (sd _ _ (hW.at' p hp)),ck hp,?_⟩
   dsimp only [jN];show zE t.aX t.fX [.ref z,lv p,vf p p] _ _ _;refine JB (Y':=(Sw p (g p).length*U p p).natAbs+(Rw p (g p).length*Tw p p).natAbs) ⟨dz,gr⟩ hq wp wt ig ig (rp.mi p pm) (by lia) (by lia) fun v2 H3 s3 w2=>?_
   have w2:=(w2.eq hq (rp.fin p pm) (rp.DK p)).bd (rp.bd.2 p).1 (rp.bd.2 p).2;have kh:=s3 _ _ er;refine ⟨_,rfl,_,rfl,r,_,_,p,rfl,rfl,kh,by rw [bg,dj];exact i8 hp,?_⟩
   refine ⟨fun i=>if i=p then v2 else lv i,_,_,rfl,fun b u ne e=>by rw [aO ne];exact s3 _ _ (od b u ne e),by unfold cE;rw [au,map_set],fun i hi=>?_⟩
   rw [show ps.length-(k+1)=ps.length-1-k by lia]
   dsimp only;by_cases ip:i=p
   ·subst ip
    rw [aq rfl,ak pt,ak pt];exact w2.put kh
   ·have e3:i∈ps.take (ps.length-k)↔i∈ps.take (ps.length-1-k):=by rw [ts];simp [ip]
    have:=((Fd i hi ip).mono s3).put (o:=.lst (((List.range n).map lv).set p v2)) kh;simp only [e3] at this;rw [ak ip];exact this
 ·rintro σ Hc ⟨lv,v6,v7,rfl,oc,er,Fc⟩
  refine hR _ _ ?_;rw [yl] at Fc;refine ⟨_,rfl,kk r lv Hc (off oc) nr er fun i hi=>?_⟩;have:=Fc i hi;simpa using this
theorem WD:ba ["world","work","others","order","many","start"] ["world","work","others","order","many"] (aH Aw):=bF
theorem WE(T:Txt K mg t):aV P w K mg base bK 6 t.qr t.ux ["world","work","others","order","many"] (Ub t.aX):=by
 have S:=WD;have j_:=x_ (P:=P) (w:=w) (base:=base) T;obtain ⟨dv,ke,kg⟩:=T.v_;refine T.vA.bS S (fun _ _ _ _ H _ _ _ hr h=>?_);obtain ⟨z,wk,ot,d,q,X,n,k,tt,L,o,M,D,rs,ls,vf,g,rfl,hw,hq,dH,hW,hF,la,c_,ed,ho,ht,it,gd,hD,zero,X1,fU,bd,b1,b2,kk⟩:=h;have lo:=eh ho;obtain ⟨dz,hz⟩:=id hw;have nv:=xB hq;have kl:k<o.length:=by rw [←it];exact (dE ((cB ho).mpr ht)).1
 have WG:o[k]=tt:=by have:=(dE ((cB ho).mpr ht)).2;simp only [it] at this;exact this
 have ln:(bU o).length=n:=by unfold bU;rw [bg,lo]
 refine ⟨_,(aj (putL 5 S.nd (ax HS (cC (aa (g6 (pv 0) T.dh T.oh j_ (hr.mono (by decide)) kg ke k9 (aa ag af)) af)) (bR fQ rfl T.fc fj (aa (pv 3) af))))
  (aj (@gC _ _ _ _ _ _ (g6 (pv 0) T.dh T.oh j_ (hr.mono (by decide)) kg ke k9 (aa ag af)) (iA (pv 5) (aB bJ (pv 3) (ax k6 (pv 4) ag)) set_list) (by rfl) (by rfl) (by rfl))
  (ar (aT (aW (MT T) hr T.Ec T.rq.kp T.Eb aI (aa (pv 0) (aa (pv 1) (aa (pv 2) (aa (gH gJ (pv 3) gF (gG (ax k6 (pv 4) ag))) (aa (pv 5) af)))))))))),?_⟩
 refine aC fun _ hR=>aY ⟨_,rfl,z,dz,_,rfl,hz,hJ (by decide +kernel),z,q,0,1,rfl,⟨dz,hz⟩,hq,dC.of_lt (by decide) (by decide),fun h=>absurd h nv,fun _ v0 H1 s1 WH=>?_⟩
 refine ⟨by show 1≤sizeLine;decide,fun l nl=>?_⟩
 have sl:ae H1 (upd H1 l (.lst [v0])):=aA nl;have MU:upd H1 l (.lst [v0]) l=some (.lst [v0]):=au;have h0:=pP (B:=X) (by lia) (WH.mono sl) hq (.inl rfl)
 generalize upd H1 l (.lst [v0])=H2 at sl MU h0 ⊢;have s2:=s1.trans sl;refine ⟨_,rfl,d,_,rfl,.inl (.of (s2 _ _ ed)),?_⟩;rw [ln];refine ⟨l,(n:Int),[v0],rfl,rfl,MU,by lia,by lia,?_,fun r nr=>hR _ _ ?_⟩
 ·rw [fg]
  exact a8 (show [v0].length*n≤40 by simp;exact dH) (by decide)
 rw [fg,show (List.replicate n [v0]).flatten=(List.range n).map fun _=>v0 by
  refine eX (by simp) fun i h1 h2=>?_
  simp]
 have sr:ae H2 (upd H2 r (.lst ((List.range n).map fun _=>v0))):=aA nr;have er:upd H2 r (.lst ((List.range n).map fun _=>v0)) r=some (.lst ((List.range n).map fun _=>v0)):=au;generalize upd H2 r (.lst ((List.range n).map fun _=>v0))=H3 at sr er ⊢;have s3:=s2.trans sr;have WI:H r=none:=none_of s2 nr;have EK:=s3 _ _ hz;refine aC fun _ hR=>aY ⟨_,rfl,z,dz,_,rfl,EK,hJ (by decide +kernel),z,q,1,1,rfl,⟨dz,EK⟩,hq,dC.of_lt (by decide) (by decide),fun h=>absurd h nv,fun _ v1 H4 s4 WJ=>?_⟩
 have h1:=pP (B:=X) (by lia) WJ hq (.inr rfl)
 have EL:=s4 _ _ er;have ek:(bU o)[k]?=some (.int (tt:Int)):=by unfold bU;rw [cw,cN kl,WG];rfl
 refine ⟨_,rfl,_,rfl,_,rfl,_,_,rfl,rfl,d,_,_,_,rfl,rfl,.of (s4 _ _ (s3 _ _ ed)),(by show gI (bU o) ((k:Int)+1-1)=_;rw [show (k:Int)+1-1=(k:Int) by lia];exact jQ ek),r,_,_,tt,rfl,rfl,EL,by rw [bg,dj];exact i8 ht,hR _ _ ?_⟩
 have MV:¬q∣aM M (cO o k):=mh hq gd;rw [map_set];have o5:∀b u,b≠r→H4 b=some u→upd H4 r (.lst ((List.range n).map fun j'=>if j'=tt then v1 else v0)) b=some u:=fun b u ne e=>by rw [aO ne];exact e
 have MW:upd H4 r (.lst ((List.range n).map fun j'=>if j'=tt then v1 else v0)) r=some (.lst ((List.range n).map fun j'=>if j'=tt then v1 else v0)):=au
 have w1:aQ X (upd H4 r (.lst ((List.range n).map fun j'=>if j'=tt then v1 else v0))) q v1 (aM M (cO o k)) (aM M (cO o k)):=aQ.put ⟨1,1,h1,by rw [oM,gu,mQ];exact oP q,MV⟩ EL
 have w0:aQ X (upd H4 r (.lst ((List.range n).map fun j'=>if j'=tt then v1 else v0))) q v0 0 (aM M (cO o k)):=aQ.put ⟨0,1,(h0.mono sr).mono s4,by rw [eW,eW,mQ];exact oP q,MV⟩ EL
 generalize upd H4 r (.lst ((List.range n).map fun j'=>if j'=tt then v1 else v0))=H5 at o5 MW w1 w0 ⊢
 have s5:ae H H5:=fun b u e=>o5 b u (fun zz=>by rw [zz,WI] at e;cases e) (s4 _ _ (s3 _ _ e))
 refine gi ⟨_,rfl,_,rfl,_,rfl,_,rfl,_,rfl,_,_,rfl,rfl,_,rfl,d,_,rfl,.of (s5 _ _ ed),fun u nu=>?_⟩;have ec:cT (bU o) none (some ((k:Int)+1-1))=bU (o.take k):=by
  rw [show (k:Int)+1-1=(k:Int) by lia,C9]
  unfold bU;rw [List.map_take]
 rw [ec];have s6:ae H5 (upd H5 u (.lst (bU (o.take k)))):=aA nu;have eu:upd H5 u (.lst (bU (o.take k))) u=some (.lst (bU (o.take k))):=au;generalize upd H5 u (.lst (bU (o.take k)))=H6 at s6 eu ⊢;have rF:=s5.trans s6;have lt:∀{p},p∈o.take k→p<n∧o.idxOf p<k:=fun{p} hp=>(tR ho).mp hp;refine ⟨_,rfl,z,wk,ot,u,r,q,X,n,o.take k,sT M D o k,sU M D o k,rs,ls,vf,g,fun j'=>if j'=tt then v1 else v0,fun i=>if i=tt then aM M (cO o k) else 0,fun _=>aM M (cO o k),dU M o k tt,fun _=>aM M (cO o k),mS M o g k tt,fun p _=>D p*aM M (cO o (o.idxOf p))*aM M (cO o k),rfl,⟨dz,rF _ _ hz⟩,hq,dH,hW.mono rF,fun i j hi hj=>(hF i j hi hj).mono rF,fun i j _ _=>bd k i j (by lia),⟨rF _ _ la.1,fun p hp=>rF _ _ (la.2 p hp)⟩,eu,(yJ k o).nodup (i9 ho),fun p hp=>⟨(lt hp).1,fun j hj=>⟨(c_ p (lt hp).1).1.lt j hj,fun zz=>by have:=(c_ p (lt hp).1).1.la j hj;rw [zz] at this;lia⟩⟩,fun k' p om j hj zz=>?_,s6 _ _ MW,fun i hi=>?_,X1,fU,Ua hq ho ht it gd hD zero c_ b1 b2,fun r' lv H7 s7 WK WL F7=>kk r' lv H7 (rF.trans s7) (none_of rF WK) WL F7⟩
 ·have pm:=gv om
  have EM:=(bV.mp om).1;have e1:o[k']?=some p:=by
   rw [jc] at EM;rw [List.getElem?_take,aq (by lia)] at om
   exact om
  have ip:o.idxOf p=k':=by
   have:=nH (i9 ho) (bV.mp e1).1
   rwa [(bV.mp e1).2] at this
  have WM:=(c_ p (lt pm).1).1.la j hj;have jt:j∈o.take (k'+1):=by rw [List.take_take] at zz;exact (List.take_prefix_take_left (Nat.min_le_left _ _)).subset zz
  have:=((tR ho).mp jt).2;lia
 ·dsimp only
  by_cases e:i=tt
  ·rw [aq e,aq e]
   exact w1.mono s6
  ·rw [ak e,ak e]
   exact w0.mono s6
def WN(N:Addr):Sp:=fun vs H Q E=>∃(n:Nat) (a:Addr) (xs:List V),vs=[.int (n:Int),.ref a]∧H a=some (.lst xs)∧(xs.length≠n→E (.ref N) none H)∧(xs.length=n→Q .aF H)
theorem WO:ba ["n","aim"] ["n","aim"] (aH Ae):=bF
theorem WQ(T:Txt K mg t):aV P w K mg base (cL P w) 1 t.p8 t.t6 ["n","aim"] (WN t.bf):=by
 have S:=WO;refine T.vh.dP S (fun _ _ _ _ H _ _ _ hr h L=>?_);obtain ⟨n,a,xs,rfl,ea,kE,k⟩:=h;refine ⟨_,(ar (bT (bN fz (bR fQ rfl T.fc fj (aa (pv 1) af)) (pv 0)) (ar (m9 L rfl lQ T.we rfl T.x8 (aa cz af))) bZ)),?_⟩;refine ⟨_,rfl,a,xs,rfl,.inl (.of ea),_,rfl,rfl,_,rfl,b7 (fun eS=>?_) (fun eS=>?_)⟩
 ·have eS:xs.length≠n:=fun z=>by
   have:(xs.length:Int)=(n:Int):=by lia
   rw [i5,dc this] at eS;cases eS
  exact ⟨by show 1≤sizeLine;decide,kE eS⟩
 ·have heq:xs.length=n:=by
   by_cases z:(xs.length:Int)=(n:Int);·lia
   ·exact absurd (by rw [i5,da z];rfl) eS
  exact k heq
theorem WR:ba ["world","row","turns","i","told"] ["world","row","turns","i"] (aH Ay):=bF
theorem WS(T:Txt K mg t):aV P w K mg base bK 5 t.qu t.uz ["world","row","turns","i"] (UU t.aX):=by
 have S:=WR;have j_:=x_ (P:=P) (w:=w) (base:=base) T;obtain ⟨dv,ke,kg⟩:=T.v_;refine T.vC.bS S (fun _ _ _ _ H vs _ _ hr h=>?_);obtain ⟨z,w',tn,q,X,n,i,o,wv,Tw,U,rfl,hw,hq,dH,hi,ho,ew,et,X1,bd,rH,EN,EO,kk⟩:=h;have nv:=xB hq;obtain ⟨dz,hz⟩:=id hw
 refine ⟨_,(aj (U_ (i0:=4) (N:=["j","number","turns","i","world"]) (ρ:=(fun σ=>[σ[2]?.join,σ[3]?.join,σ[0]?.join])) (zJ [2,3,0] rfl) rfl S.nd rfl (Or.inl rfl) (tK rfl T.rB (aa (pv 1) af)) (fun _ _ _=>.nil) (fun _ _ _=>(GZ (bN oY (aB (lq (K:=K)) (pv 2) (pv 0)) (aB (lq (K:=K)) (pv 2) (pv 3))) (pv 1) (g6 (pv 4) T.dh T.oh j_ (hr.mono (by decide)) kg ke k9 (aa ag af)))))
  (aj (@gC _ _ _ _ _ _ (g6 (pv 0) T.dh T.oh j_ (hr.mono (by decide)) kg ke k9 (aa ag af)) (iA (pv 4) (pv 3) set_list) (by rfl) (by rfl) (by rfl))
  (ar (aT (pv 4))))),?_⟩
 refine aC fun _ hR=>aY (zK (Z:=fun zs _=>zs=(((List.range ((List.range n).map wv).length).zip ((List.range n).map wv)).map fun p=>(V.int (p.1:Int),p.2))) (fun R h=>⟨_,rfl,w',rfl,⟨_,.of ew⟩,h _ _ _ (ae.refl _) (z5 (.of ew)) (by rw [nR];exact fB (by lia)) rfl⟩) (fun _ j y Hx=>j≠i→aQ X Hx q y (Tw j) (U j)) (fun D j y Ha Hb ys h e f ne=>(h ne).bG e f) ?_ ?_)
 ·rintro zs H1 rfl s1 D j x y rJ Hc R sc _ kc
  obtain ⟨hj,rfl,rfl⟩:=Aa rJ;have s2:=s1.trans sc;have ym:=s2 _ _ et;have lL:=s2 _ _ hz;refine ⟨_,rfl,_,rfl,tn,_,_,_,rfl,rfl,.of ym,ck hj,_,rfl,_,rfl,tn,_,_,_,rfl,rfl,.of ym,ck hi,_,_,rfl,rfl,_,rfl,b7 (fun hb=>?_) (fun hb=>?_)⟩
  ·have hb:=fh hb
   exact ⟨_,rfl,kc _ Hc (ae.refl _) fun _=>(rH j hj (by lia)).mono s2⟩
  ·refine ⟨_,rfl,z,dz,_,rfl,lL,hJ (by decide +kernel),z,q,0,1,rfl,⟨dz,lL⟩,hq,dC.of_lt (by decide) (by decide),fun h=>absurd h nv,fun _ v0 H5 s5 rK=>kc v0 H5 s5 fun ne=>?_⟩
   have h0:=pP (B:=1000) (by decide) rK hq (.inl rfl)
   have lt:o.idxOf i<o.idxOf j:=by have h1:¬((o.idxOf j:Nat):Int)<((o.idxOf i:Nat):Int):=fun z=>hb (dc z);have h2:=pS ho hj hi ne;lia
   rw [EN j hj lt];exact tS h0 (by rw [eW,eW];exact oP q) (bd j hj).2.2 (b_ _) (bd j hj).2.1
 ·rintro zs H1 rfl s1 D vs Hc nD sc jz mC eD
  rw [nR] at jz;have s2:=s1.trans sc;refine hR _ _ ?_;have ev:vs=(List.range n).map fun j=>vs.getD j .aF:=by
   refine eX (by simp [jz]) fun j h1 h2=>?_
   rw [fY,gX,getD_at h1]
  have hv:∀j,j<n→j≠i→aQ X Hc q (vs.getD j .aF) (Tw j) (U j):=fun j hj ne=>by
   have eB:j<vs.length:=by lia
   rw [getD_at eB];exact mC j _ (cN eB) ne
  obtain ⟨lv,WT,hv⟩:∃lv:Nat→V,vs=(List.range n).map lv∧∀j,j<n→j≠i→aQ X Hc q (lv j) (Tw j) (U j):=⟨fun j=>vs.getD j .aF,ev,hv⟩;rw [WT] at eD;have lL:=s2 _ _ hz;refine aC fun _ hR=>aY ⟨_,rfl,z,dz,_,rfl,lL,hJ (by decide +kernel),z,q,1,1,rfl,⟨dz,lL⟩,hq,dC.of_lt (by decide) (by decide),fun h=>absurd h nv,fun _ v1 H4 s4 rK=>?_⟩
  have h1:=pP (B:=1000) (by decide) rK hq (.inr rfl)
  have ER:=s4 _ _ eD;refine ⟨_,rfl,_,rfl,D,_,_,i,rfl,rfl,ER,by rw [bg,dj];exact i8 hi,hR _ _ ?_⟩
  rw [map_set];refine ⟨_,rfl,kk D _ _ (iE (s2.trans s4) nD) nD au fun j hj=>?_⟩
  split
  ·rename_i e
   subst e;rw [EO];refine aQ.put ?_ ER;exact tS h1 (by rw [oM,gu,mQ];exact oP q) (bd j hj).2.2 (bd j hj).2.1 (bd j hj).2.1
  ·rename_i ne
   exact ((hv j hj ne).mono s4).put ER
theorem WU:ba ["world","row","turns","i"] ["world","row","turns","i"] (aH Az):=bF
theorem WV(T:Txt K mg t):aV P w K mg base bK 5 t.qv t.uA ["world","row","turns","i"] (UW t.aX):=by
 have S:=WU;have j_:=x_ (P:=P) (w:=w) (base:=base) T;obtain ⟨dv,ke,kg⟩:=T.v_;refine T.vD.bS S (fun _ _ _ _ H vs _ _ hr h=>?_);obtain ⟨z,w',tn,q,X,n,i,o,wv,Tw,U,rfl,hw,hq,dH,hi,ho,ew,et,X1,bd,ES,rH,kk⟩:=h;have nv:=xB hq;obtain ⟨dz,hz⟩:=id hw;refine ⟨_,(ar (aT (Dg (N:=["j","number","turns","i","world"]) (ρ:=(fun σ=>[σ[2]?.join,σ[3]?.join,σ[0]?.join])) (zJ [2,3,0] rfl) rfl (tK rfl T.rB (aa (pv 1) af)) (fun _ _ _=>.nil) (fun _ _ _=>(GZ (bN oY (aB (lq (K:=K)) (pv 2) (pv 0)) (aB (lq (K:=K)) (pv 2) (pv 3))) (g6 (pv 4) T.dh T.oh j_ (hr.mono (by decide)) kg ke k9 (aa ag af)) (pv 1)))))),?_⟩
 refine gi (zK (Z:=fun zs _=>zs=(((List.range ((List.range n).map wv).length).zip ((List.range n).map wv)).map fun p=>(V.int (p.1:Int),p.2))) (fun R h=>⟨_,rfl,w',rfl,⟨_,.of ew⟩,h _ _ _ (ae.refl _) (z5 (.of ew)) (by rw [nR];exact fB (by lia)) rfl⟩) (fun _ j y Hx=>aQ X Hx q y (Tw j) (U j)) (fun D j y Ha Hb ys h e f=>h.bG e f) ?_ ?_)
 ·rintro zs H1 rfl s1 D j x y rJ Hc R sc _ kc
  obtain ⟨hj,rfl,rfl⟩:=Aa rJ;have s2:=s1.trans sc;have ym:=s2 _ _ et;have lL:=s2 _ _ hz;refine ⟨_,rfl,_,rfl,tn,_,_,_,rfl,rfl,.of ym,ck hj,_,rfl,_,rfl,tn,_,_,_,rfl,rfl,.of ym,ck hi,_,_,rfl,rfl,_,rfl,b7 (fun hb=>?_) (fun hb=>?_)⟩
  ·have hb:=fh hb
   refine ⟨_,rfl,z,dz,_,rfl,lL,hJ (by decide +kernel),z,q,0,1,rfl,⟨dz,lL⟩,hq,dC.of_lt (by decide) (by decide),fun h=>absurd h nv,fun _ v0 H5 s5 rK=>kc v0 H5 s5 ?_⟩
   have h0:=pP (B:=1000) (by decide) rK hq (.inl rfl)
   rw [rH j hj (by lia)]
   exact tS h0 (by rw [eW,eW];exact oP q) (bd j hj).2.2 (b_ _) (bd j hj).2.1
  ·have h1:¬((o.idxOf j:Nat):Int)<((o.idxOf i:Nat):Int):=fun z=>hb (dc z)
   exact ⟨_,rfl,kc _ Hc (ae.refl _) ((ES j hj (by lia)).mono s2)⟩
 ·rintro zs H1 rfl s1 D vs Hc nD sc jz mC eD
  rw [nR] at jz;have ev:vs=(List.range n).map fun j=>vs.getD j .aF:=by
   refine eX (by simp [jz]) fun j h1 h2=>?_
   rw [fY,gX,getD_at h1]
  refine kk D (fun j=>vs.getD j .aF) Hc (s1.trans sc) nD (by unfold cE;rw [←ev];exact eD) fun j hj=>?_
  have eB:j<vs.length:=by lia
  rw [getD_at eB];exact mC j _ (cN eB)
theorem WW:ba ["world","table","turns"] ["world","table","turns"] (aH AA):=bF
theorem WX(T:Txt K mg t):aV P w K mg base bK 6 t.qw t.uB ["world","table","turns"] (UX t.aX):=by
 have S:=WW;refine T.vE.bS S (fun _ _ _ _ H vs _ _ hr h=>?_);obtain ⟨z,a,tn,q,X,n,o,ra,vf,Tw,U,rfl,hw,hq,dH,ho,hT,et,X1,bd,rH,EN,EO,kk⟩:=h;refine ⟨_,(ar (aT (Dg (N:=["i","row","world","turns"]) (ρ:=(fun σ=>[σ[0]?.join,σ[2]?.join])) (zJ [0,2] rfl) rfl (tK rfl T.rB (aa (pv 1) af)) (fun _ _ _=>.nil) (fun _ _ _=>(aW (WS T) hr T.KD T.vC.kp T.KC aI (aa (pv 2) (aa (pv 1) (aa (pv 3) (aa (pv 0) af))))))))),?_⟩;refine gi (zK (Z:=fun zs _=>zs=(((List.range ((List.range n).map fun i=>V.ref (ra i)).length).zip ((List.range n).map fun i=>V.ref (ra i))).map fun p=>(V.int (p.1:Int),p.2))) (fun R h=>⟨_,rfl,a,rfl,⟨_,.of hT.lst⟩,h _ _ _ (ae.refl _) (z5 (.of hT.lst)) (by rw [nR];exact fB (by lia)) rfl⟩) (fun D i y Hx=>∃(r:Addr) (lv:Nat→V),y=.ref r∧r≠D∧H r=none∧cE Hx r n lv∧∀j,j<n→aQ X Hx q (lv j) (Tw i j) (U i j)) (fun D j y Ha Hb ys ⟨r,lv,e1,e2,e3,e4,e5⟩ e f=>⟨r,lv,e1,e2,e3,f r _ e2 e4,fun j hj=>(e5 j hj).bG e f⟩) ?_ ?_)
 ·rintro zs H1 rfl s1 D i x y rJ Hc R sc ⟨ys,ET⟩ kc
  obtain ⟨hi,rfl,rfl⟩:=Aa rJ;have s2:=s1.trans sc;refine ⟨_,rfl,_,rfl,_,rfl,_,rfl,z,ra i,tn,q,X,n,i,o,vf i,Tw i,U i,rfl,hw.mono s2,hq,dH,hi,ho,s2 _ _ (hT.at' i hi),s2 _ _ et,X1,fun j hj=>bd i j hi hj,fun j hj h=>(rH i j hi hj h).mono s2,fun j hj h=>EN i j hi hj h,EO i hi,fun r lv H3 s3 nr er ew=>kc (.ref r) H3 s3 ⟨r,lv,rfl,(fun zz=>by rw [zz,ET] at nr;cases nr),none_of s2 nr,er,ew⟩⟩
 ·rintro zs H1 rfl s1 D vs Hc nD sc jz mC eD
  rw [nR] at jz;have row:∀i,i<n→∃(r:Addr) (lv:Nat→V),vs.getD i .aF=.ref r∧H r=none∧cE Hc r n lv∧∀j,j<n→aQ X Hc q (lv j) (Tw i j) (U i j):=fun i hi=>by
   have dS:i<vs.length:=by lia
   obtain ⟨r,lv,e1,e2,e3,e4,e5⟩:=mC i _ (cN dS);exact ⟨r,lv,by rw [getD_at dS,e1],e3,e4,e5⟩
  refine kk D (fun i=>if h:i<n then (row i h).choose else 0) (fun i=>if h:i<n then (row i h).choose_spec.choose else fun _=>.aF) Hc (s1.trans sc) nD (fun i hi=>?_) ⟨?_,fun i hi=>?_⟩ fun i j hi hj=>?_
  ·rw [eY hi]
   exact (row i hi).choose_spec.choose_spec.2.1
  ·rw [eD]
   congr 2
   refine eX (by simp [jz]) fun i h1 h2=>?_
   have hi:i<n:=by lia
   rw [fY,gX,eY hi,←(row i hi).choose_spec.choose_spec.1,getD_at h1]
  ·rw [eY hi,eY hi]
   exact (row i hi).choose_spec.choose_spec.2.2.1
  ·dsimp only
   rw [eY hi];exact (row i hi).choose_spec.choose_spec.2.2.2 j hj
theorem WY:ba ["world","table","turns"] ["world","table","turns"] (aH AB):=bF
theorem WZ(T:Txt K mg t):aV P w K mg base bK 6 t.qx t.uC ["world","table","turns"] (UY t.aX):=by
 have S:=WY;refine T.vF.bS S (fun _ _ _ _ H vs _ _ hr h=>?_);obtain ⟨z,a,tn,q,X,n,o,ra,vf,Tw,U,rfl,hw,hq,dH,ho,hT,et,X1,bd,ES,rH,kk⟩:=h;refine ⟨_,(ar (aT (Dg (N:=["i","row","world","turns"]) (ρ:=(fun σ=>[σ[0]?.join,σ[2]?.join])) (zJ [0,2] rfl) rfl (tK rfl T.rB (aa (pv 1) af)) (fun _ _ _=>.nil) (fun _ _ _=>(aW (WV T) hr T.KH T.vD.kp T.KG aI (aa (pv 2) (aa (pv 1) (aa (pv 3) (aa (pv 0) af))))))))),?_⟩;refine gi (zK (Z:=fun zs _=>zs=(((List.range ((List.range n).map fun i=>V.ref (ra i)).length).zip ((List.range n).map fun i=>V.ref (ra i))).map fun p=>(V.int (p.1:Int),p.2))) (fun R h=>⟨_,rfl,a,rfl,⟨_,.of hT.lst⟩,h _ _ _ (ae.refl _) (z5 (.of hT.lst)) (by rw [nR];exact fB (by lia)) rfl⟩) (fun D i y Hx=>∃(r:Addr) (lv:Nat→V),y=.ref r∧r≠D∧H r=none∧cE Hx r n lv∧∀j,j<n→aQ X Hx q (lv j) (Tw i j) (U i j)) (fun D j y Ha Hb ys ⟨r,lv,e1,e2,e3,e4,e5⟩ e f=>⟨r,lv,e1,e2,e3,f r _ e2 e4,fun j hj=>(e5 j hj).bG e f⟩) ?_ ?_)
 ·rintro zs H1 rfl s1 D i x y rJ Hc R sc ⟨ys,ET⟩ kc
  obtain ⟨hi,rfl,rfl⟩:=Aa rJ;have s2:=s1.trans sc;refine ⟨_,rfl,_,rfl,_,rfl,_,rfl,z,ra i,tn,q,X,n,i,o,vf i,Tw i,U i,rfl,hw.mono s2,hq,dH,hi,ho,s2 _ _ (hT.at' i hi),s2 _ _ et,X1,fun j hj=>bd i j hi hj,fun j hj h=>(ES i j hi hj h).mono s2,fun j hj h=>rH i j hi hj h,fun r lv H3 s3 nr er ew=>kc (.ref r) H3 s3 ⟨r,lv,rfl,(fun zz=>by rw [zz,ET] at nr;cases nr),none_of s2 nr,er,ew⟩⟩
 ·rintro zs H1 rfl s1 D vs Hc nD sc jz mC eD
  rw [nR] at jz;have row:∀i,i<n→∃(r:Addr) (lv:Nat→V),vs.getD i .aF=.ref r∧H r=none∧cE Hc r n lv∧∀j,j<n→aQ X Hc q (lv j) (Tw i j) (U i j):=fun i hi=>by
   have dS:i<vs.length:=by lia
   obtain ⟨r,lv,e1,e2,e3,e4,e5⟩:=mC i _ (cN dS);exact ⟨r,lv,by rw [getD_at dS,e1],e3,e4,e5⟩
  refine kk D (fun i=>if h:i<n then (row i h).choose else 0) (fun i=>if h:i<n then (row i h).choose_spec.choose else fun _=>.aF) Hc (s1.trans sc) nD (fun i hi=>?_) ⟨?_,fun i hi=>?_⟩ fun i j hi hj=>?_
  ·rw [eY hi]
   exact (row i hi).choose_spec.choose_spec.2.1
  ·rw [eD]
   congr 2
   refine eX (by simp [jz]) fun i h1 h2=>?_
   have hi:i<n:=by lia
   rw [fY,gX,eY hi,←(row i hi).choose_spec.choose_spec.1,getD_at h1]
  ·rw [eY hi,eY hi]
   exact (row i hi).choose_spec.choose_spec.2.2.1
  ·dsimp only
   rw [eY hi];exact (row i hi).choose_spec.choose_spec.2.2.2 j hj
theorem W0:ba ["one","other"] ["one","other"] (aH AR):=bF
theorem W5(T:Txt K mg t):aV P w K mg base bK 1 t.qL t.uS ["one","other"] Um:=by
 have S:=W0;refine T.vR.bS S (fun _ _ _ _ H _ _ _ hr h=>?_);obtain ⟨a,b,rfl,k⟩:=h
 refine ⟨_,(aj (xb dB (bN fz (pv 1) ag) (ar (y8 (i:=0) (j:=1) rfl S.nd rfl rfl (by decide) rfl rfl (aa (pv 1) (aa (ax OP (pv 0) (pv 1)) af)) rfl)))
  (ar (aT (bR Cv rfl T.Bm boot_abs (aa (pv 0) af))))),?_⟩
 refine nF ⟨fun m σ H'=>H'=H∧∃(x y:Int),σ=[some (.int x),some (.int y)]∧m=y.natAbs∧Int.gcd x y=Int.gcd a b,⟨b.natAbs,rfl,a,b,rfl,rfl,rfl⟩,?_⟩;rintro m σ H' ⟨rfl,x,y,rfl,em,hg⟩;refine ⟨_,rfl,rfl,_,rfl,b7 (fun hy=>?_) (fun hy=>?_)⟩
 ·have hy:y≠0:=fun z=>by subst z;revert hy;decide
  refine ⟨fun σ' H2=>H2=H'∧σ'=[some (.int y),some (.int (x.fmod y))],?_,?_⟩
  ·rintro σ' H2 ⟨rfl,rfl⟩
   exact ⟨(x.fmod y).natAbs,by rw [em];exact Ul hy,rfl,y,x.fmod y,rfl,rfl,by rw [JP];exact hg⟩
  ·exact ⟨_,rfl,_,rfl,_,rfl,_,_,rfl,rfl,hy,_,_,rfl,rfl,rfl⟩
 ·have y0:y=0:=by
   by_cases z:y=0;·exact z
   ·refine absurd ?_ hy
    rw [i5,da z];rfl
  subst y0;rw [Int.gcd_zero_right] at hg;refine ⟨_,rfl,x,rfl,?_⟩;rw [C8,hg];exact k
theorem W8:ba ["number","p","one","other","left","right","part"] ["number","p"] (aH AS):=bF
theorem W9(T:Txt K mg t):aV P w K mg base bK 1 t.qM t.uT ["number","p"] Uo:=by
 have S:=W8;refine T.vS.bS S (fun _ _ _ _ H _ _ _ hr h=>?_);obtain ⟨c,p,rfl,p2,MX,hp,nc,k⟩:=h;have pp:0<p:=by lia
 have m0:=gw c (show p≠0 by lia)
 have m1:=gW c pp;have md:p∣c-c % p:=⟨c / p,by have:=yS c p;lia⟩
 have mz:1≤c % p:=by have:c % p≠0:=fun z=>nc (BZ z);lia
 have g0:Int.gcd (c % p) p=1:=by rw [Int.gcd_comm];exact C_ p2 MX hp mz m1
 refine ⟨_,(aj (y8 (i:=2) (j:=3) rfl S.nd rfl rfl (by decide) rfl rfl (aa (ax gf (pv 0) (pv 1)) (aa (pv 1) af)) rfl)
  (aj (@gC _ _ _ _ _ _ (eZ (aa ag (aa ag af))) (mX rfl (fM (cj (i:=4) S.nd rfl (Or.inl rfl)) (fM (cj (i:=5) S.nd rfl (Or.inl rfl)) mW))) (by rfl) (by rfl) (by rfl))
  (aj (xb dB (bN fz (pv 3) ag) (aj (putL 6 S.nd (ax zc (pv 2) (pv 3)))
  (aj (y8 (i:=2) (j:=3) rfl S.nd rfl rfl (by decide) rfl rfl (aa (pv 3) (aa (ax k6 (pv 2) (ax fO (pv 6) (pv 3))) af)) rfl)
  (ar (y8 (i:=4) (j:=5) rfl S.nd rfl rfl (by decide) rfl rfl (aa (pv 5) (aa (ax k6 (pv 4) (ax fO (pv 6) (pv 5))) af)) rfl)))))
  (ar (aT (ax gf (pv 4) (pv 1))))))),?_⟩
 refine aC fun _ hR=>⟨_,rfl,_,rfl,_,_,rfl,rfl,pp,_,rfl,_,_,rfl,hR _ _ ?_⟩;refine aC fun _ hR=>aY ⟨by show 2≤sizeLine;decide,fun tq BA=>⟨tq,_,rfl,.of au,rfl,_,_,rfl,_,_,rfl,rfl,hR _ _ ?_⟩⟩
 have s1:ae H (upd H tq (.tup [.int 1,.int 0])):=aA BA;generalize upd H tq (.tup [.int 1,.int 0])=H1 at s1 ⊢;refine aC fun _ hR=>⟨fun m σ H'=>H'=H1∧∃(x y l r:Int) (v6:Option V),σ=[some (.int c),some (.int p),some (.int x),some (.int y),some (.int l),some (.int r),v6]∧m=y.natAbs∧0≤x∧x≤997∧0≤y∧y≤997∧p∣l*c-x∧p∣r*c-y∧Int.gcd x y=1,⟨_,rfl,c % p,p,1,0,_,rfl,rfl,m0,by lia,by lia,MX,by rw [oM];exact md,by rw [eW,Int.zero_sub];exact Int.dvd_neg.mpr (iQ p),g0⟩,?_⟩
 rintro m σ H' ⟨rfl,x,y,l,r,v6,rfl,em,x0,x1,y0,y1,hl,wg,hg⟩;refine ⟨_,rfl,rfl,_,rfl,b7 (fun hy=>?_) (fun hy=>?_)⟩
 ·have hy:y≠0:=fun z=>by subst z;revert hy;decide
  have yp:0<y:=by lia
  have dm:=yS x y;have e0:=gw x hy;have e1:=gW x yp;have d0:0≤x / y:=yX x0 y0;have d1:x / y≤997:=Int.le_trans (Int.ediv_le_self _ x0) x1;have ex:x-x / y*y=x % y:=by rw [dM];lia
  refine ⟨fun σ' H2=>H2=H'∧σ'=[some (.int c),some (.int p),some (.int y),some (.int (x-x / y*y)),some (.int r),some (.int (l-x / y*r)),some (.int (x / y))],?_,?_⟩
  ·rintro σ' H2 ⟨rfl,rfl⟩
   refine ⟨(x % y).natAbs,by lia,rfl,y,x-x / y*y,r,l-x / y*r,_,rfl,by rw [ex],y0,y1,by lia,by lia,wg,?_,?_⟩
   ·obtain ⟨a1,b1⟩:=hl
    obtain ⟨a2,b2⟩:=wg;exact ⟨a1-x / y*a2,by grind⟩
   ·rw [ex]
    have:=JP x y;rw [Int.fmod_eq_emod,aq (.inl y0),Int.add_zero] at this;rw [this];exact hg
  ·refine aC fun _ hR=>aY ⟨_,rfl,_,rfl,_,_,rfl,rfl,⟨yp,by lia⟩,hR _ _ ?_⟩
   refine aC fun _ hR=>⟨_,rfl,_,rfl,_,rfl,_,rfl,_,_,rfl,rfl,.inl ⟨by lia,by lia⟩,_,_,rfl,rfl,_,_,rfl,hR _ _ ?_⟩
   exact ⟨_,rfl,_,rfl,_,rfl,_,rfl,_,_,rfl,rfl,.inl ⟨by lia,by lia⟩,_,_,rfl,rfl,_,_,rfl,rfl,rfl⟩
 ·have y0:y=0:=by
   by_cases z:y=0;·exact z
   ·refine absurd ?_ hy
    rw [i5,da z];rfl
  subst y0;rw [Int.gcd_zero_right] at hg;have x1:x=1:=by lia
  subst x1;refine hR _ _ ?_;refine ⟨_,rfl,_,rfl,_,_,rfl,rfl,pp,k _ _ s1 (gw _ (by lia)) (gW _ pp) ?_⟩
  have:=yS l p;obtain ⟨a1,b1⟩:=hl;exact ⟨a1-l / p*c,by grind⟩
theorem W_:ba ["told","top","bottom","sign","shared"] ["told","top","bottom"] (aH AU):=bF
theorem EU(T:Txt K mg t):aV P w K mg base bK 2 t.qN t.uU ["told","top","bottom"] Up:=by
 have S:=W_;refine T.nZ.bS S (fun _ _ _ _ H _ _ _ hr h=>?_);obtain ⟨td,q,a,b,Y,rfl,tw,hq,nb,bA,bB,bY,k⟩:=h
 refine ⟨_,(aj (bT (bN fP (aB bH (pv 0) ag) cz) (ar (aT (ax gf (ax fO (pv 1) (aW (W9 T) hr T.Li T.vS.kp T.Lh aI (aa (pv 2) (aa (aB bH (pv 0) ag) af)))) (aB bH (pv 0) ag)))) bZ)
  (aj (putL 3 S.nd (ax k6 ag (ax fO ag (m7 Hr rfl T.Bn boot_int (aa (sN oY (pv 2) ag) af)))))
  (aj (putL 4 S.nd (aW (W5 T) hr T.Lg T.vR.kp T.Lf aI (aa (pv 1) (aa (pv 2) af))))
  (ar (aT (eZ (aa (ax zw (ax fO (pv 3) (pv 1)) (pv 4)) (aa (ax zw (ax fO (pv 3) (pv 2)) (pv 4)) af)))))))),?_⟩
 rcases tw with ⟨rfl,tw⟩ | ⟨qn,tw⟩
 ·have b0:b≠0:=fun z=>nb (by rw [z];exact iQ 0)
  refine aC fun _ hR=>⟨_,rfl,td,_,_,_,rfl,rfl,.of tw,rfl,rfl,false,by decide +kernel,cK (hR _ _ ?_)⟩
  have gp:0<Int.gcd a b:=Int.gcd_pos_of_ne_zero_right a b0;have Xa:Int.gcd a b≤b.natAbs:=Nat.le_of_dvd (by lia) (Int.ofNat_dvd.mp (by rw [Int.dvd_natAbs];exact jD a b))
  have cd:C2 0 (Int.gcd a b:Int):=⟨by lia,by show (Int.gcd a b:Int).natAbs<2 ^ 2048;rw [wL];exact kD (a8 Xa (a8 bB bY)) (by decide +kernel)⟩
  obtain ⟨sg,EV⟩:∃sg:Int,sg=if b<0 then -1 else 1:=⟨_,rfl⟩
  have sg1:sg=1∨sg=-1:=by rw [EV];split <;> simp
  refine aC fun _ hR=>aY ⟨_,rfl,_,_,rfl,rfl,.inr ⟨decide (b<0),rfl,_,_,rfl,rfl,.inl ⟨by decide,by decide⟩,_,_,rfl,rfl,hR _ _ ?_⟩⟩
  rw [show (fun i j=>V.int (i-j)) 1 (2*if decide (b<0)=true then 1 else 0)=V.int sg by
   show V.int _=_;rw [EV];by_cases h:b<0;·rw [aq (dc h),aq h];rfl
   ·rw [ak (by simpa using h),ak h];rfl]
  refine aC fun _ hR=>aY ⟨_,rfl,_,rfl,a,b,rfl,hR _ _ ?_⟩;obtain ⟨lw,le⟩:=Uq (a:=a) b0 sg EV;refine gi ⟨_,rfl,_,rfl,_,_,rfl,rfl,.inl ⟨by lia,by lia⟩,_,rfl,_,_,rfl,rfl,cd,_,rfl,_,rfl,_,_,rfl,rfl,.inl ⟨by lia,by lia⟩,_,rfl,_,_,rfl,rfl,cd,by show 2≤sizeLine;decide,fun tp fe=>k _ _ (aA fe) ?_⟩
  have W:aQ (((sg*a).fdiv (Int.gcd a b:Int)).natAbs+((sg*b).fdiv (Int.gcd a b:Int)).natAbs) (upd H tp (.tup [.int ((sg*a).fdiv (Int.gcd a b:Int)),.int ((sg*b).fdiv (Int.gcd a b:Int))])) 0 (.ref tp) a b:=⟨_,_,.b6 au lw (by lia) (by lia),by rw [le,mQ];exact iQ 0,nb⟩
  exact W.bd bA bB
 ·have eR:2≤q∧q≤997∧gK q=true:=by rcases hq with h | h;exact absurd h qn;exact h
  have qp:0<q:=by lia
  refine aC fun _ hR=>⟨_,rfl,td,_,_,_,rfl,rfl,.of tw,rfl,rfl,true,by decide +kernel,gg ?_⟩
  refine ⟨_,rfl,_,rfl,_,rfl,td,_,_,_,rfl,rfl,.of tw,rfl,b,q,rfl,eR.1,eR.2.1,eR.2.2,nb,fun r H1 s1 r0 r1 rd=>?_⟩;refine ⟨_,_,rfl,rfl,.inr ⟨by lia,by lia⟩,_,rfl,td,_,_,_,rfl,rfl,.of (s1 _ _ tw),rfl,_,_,rfl,rfl,qp,k _ _ s1 ⟨_,1,.rem (gw _ (by lia)) (gW _ qp) eR.2.1,?_,nb⟩⟩
  have c:Cg q (a*r % q*b) (a*r*b):=(Dj q _).mulR b;have c2:Cg q (a*r*b) (a*1):=(Cg.of_eq (show a*r*b=a*(r*b) by grind)).trans (Cg.mulL a rd)
  exact c.trans c2
theorem Xb:ba ["told"] ["told"] (aH AX):=bF
theorem EW(T:Txt K mg t):aV P w K mg base bK 3 t.qQ t.uX ["told"] Ur:=by have S:=Xb;refine T.n8.bS S (fun _ _ _ s H _ _ _ hr h=>?_);obtain ⟨td,q,rfl,tw,hq,k⟩:=h;refine ⟨_,(ar (aT (aW (EU T) hr T.Bf T.nZ.kp T.Be aI (aa (pv 0) (aa ag (aa ag af)))))),?_⟩;exact ⟨_,rfl,td,q,0,1,1000,rfl,tw,hq,zN hq,by decide,by decide,by decide +kernel,fun v H' s w=>k v H' s (Us hq w (by decide))⟩
theorem Xc:ba ["script","k"] ["script","k"] (aH AN):=bF
theorem Xd(T:Txt K mg t):aV P w K mg base bK 1 t.qI t.uP ["script","k"] (Tx K):=by
 have S:=Xc;refine T.vO.bS S (fun _ _ _ _ H _ _ _ hr h=>?_);obtain ⟨a,ns,k,rfl,hS,kk⟩:=h
 refine ⟨_,(aj (bT (bN oY (pv 1) (bR fQ rfl T.fc fj (aa (pv 0) af))) (ar (aT (aB bJ (pv 0) (pv 1)))) bZ)
  (ar (aT ag))),?_⟩
 refine aC fun _ hR=>⟨_,rfl,_,rfl,a,_,rfl,.inl hS,_,_,rfl,rfl,_,rfl,b7 (fun hb=>?_) (fun hb=>hR _ _ (kk 0))⟩;have hb:=fh hb;rw [bg] at hb;have hk:k<ns.length:=by lia
 exact ⟨_,rfl,_,rfl,a,_,_,_,rfl,rfl,hS,jQ (by rw [cw,cN hk];rfl),kk _⟩
theorem Xe:ba ["tape","many","found"] ["tape","many"] (aH AQ):=bF
theorem iO(T:Txt K mg t):aV P w K mg base bK 1 t.qK t.uR ["tape","many"] TB:=by
 have S:=Xe;refine T.dZ.bS S (fun _ _ _ _ H _ _ _ hr h=>?_);obtain ⟨Tp,m,rfl,⟨x,e⟩,m1,m2,kk⟩:=h
 refine ⟨_,(aj (putL 2 S.nd (ax gf (aB bJ (pv 0) ag) (pv 1)))
  (aj (@gC _ _ _ _ _ _ (ax zc (aB bJ (pv 0) ag) (pv 1)) (iA (pv 0) ag set_list) (by rfl) (by rfl) (by rfl))
  (ar (aT (pv 2))))),?_⟩
 have p0:(0:Int)<(m:Int):=by lia
 refine aC fun _ hR=>aY ⟨_,rfl,Tp,_,_,_,rfl,rfl,.of e,rfl,_,rfl,_,_,rfl,rfl,p0,hR _ _ ?_⟩;refine aC fun _ hR=>⟨_,rfl,Tp,_,_,_,rfl,rfl,.of e,rfl,_,rfl,_,_,rfl,rfl,⟨p0,by lia⟩,_,rfl,Tp,_,0,0,rfl,rfl,e,rfl,hR _ _ ?_⟩
 have d0:=gw x (show (m:Int)≠0 by lia)
 have d1:=gW x p0;obtain ⟨d,ed⟩:=wV d0;refine ⟨_,rfl,?_⟩;dsimp only;rw [ed];exact kk d _ (by lia) aG.upd ⟨_,au⟩
theorem Xf:ba ["script","k","cell","p","number","last","turn"] ["script","k"] (aH AO):=bF
theorem yo(T:Txt K mg t):aV P w K mg base bK 2 t.qJ t.uQ ["script","k"] (Tz K):=by
 have S:=Xf;refine T.lK.bS S (fun _ _ _ _ H _ _ _ hr h=>?_);obtain ⟨a,ns,k,rfl,hS,k1,kk⟩:=h
 refine ⟨_,(aj (putL 2 S.nd (aW (Xd T) hr T.Le T.vO.kp T.Ld aI (aa (pv 0) (aa (pv 1) af))))
  (aj (bT (bN fP (ax gf (pv 2) ag) ag) (ar (aT (cC (aa (ax zc (pv 2) ag) af)))) bZ)
  (aj (putL 3 S.nd ag)
  (aj (putL 4 S.nd ag)
  (aj (putL 5 S.nd (ax gf (ax eQ (ax eQ (ax fO (ax gf (pv 2) (pv 3)) ag) (ax fO ag (pv 1))) ag) (pv 3)))
  (aj (eO dB rfl (kX rfl T.iL (aa ag af)) (cj (i:=6) S.nd rfl (Or.inl rfl))
   (aj (putL 4 S.nd (ax eQ (ax fO (pv 4) (pv 3)) (pv 5)))
  (ar (putL 5 S.nd (ax gf (ax eQ (ax eQ (ax fO (pv 5) (pv 5)) (ax fO ag (pv 1))) (pv 6)) (pv 3))))))
  (ar (aT (cC (aa (pv 4) af)))))))))),?_⟩
 have p2:(0:Int)<2:=by decide
 have pp:(0:Int)<2305843009213693951:=by decide
 refine aC fun _ hR=>aY ⟨_,rfl,_,rfl,a,ns,k,rfl,hS,fun z=>hR _ _ ?_⟩;refine aC fun _ hR=>⟨_,rfl,_,_,rfl,rfl,p2,rfl,_,rfl,b7 (fun hb=>?_) (fun hb=>hR _ _ ?_)⟩
 ·refine ⟨_,rfl,_,_,rfl,rfl,⟨p2,by decide⟩,by show 1≤sizeLine;decide,fun Tp yq=>?_⟩
  exact kk Tp _ (aA yq) yq ⟨_,au⟩
 ·refine aC fun _ hR=>aY (hR _ _ ?_)
  refine aC fun _ hR=>aY (hR _ _ ?_);refine aC fun _ hR=>aY ⟨_,rfl,_,rfl,_,_,rfl,rfl,pp,_,_,rfl,rfl,.inr ⟨by decide,by decide⟩,_,rfl,_,_,rfl,rfl,.inl ⟨by decide,by decide⟩,_,_,rfl,rfl,_,_,rfl,rfl,_,rfl,_,_,rfl,rfl,pp,hR _ _ ?_⟩
  have l0:=gw (z % 2305843009213693951*48271+69621*(k:Int)+11) (show (2305843009213693951:Int)≠0 by decide)
  have l1:=gW (z % 2305843009213693951*48271+69621*(k:Int)+11) pp;dsimp only;generalize (z % 2305843009213693951*48271+69621*(k:Int)+11) % 2305843009213693951=la at l0 l1 ⊢;refine aC fun _ hR=>⟨7,rfl,by decide,by decide,?_⟩
  refine sJ (fun i σ Hc=>Hc=H∧∃(nu la:Int) (v6:Option V),σ=[some (.ref a),some (.int (k:Int)),some (.int z),some (.int 2305843009213693951),some (.int nu),some (.int la),v6]∧0≤la∧la<2305843009213693951) ⟨rfl,_,_,_,rfl,l0,l1⟩ ?_ ?_
  ·rintro i σ Hc hi ⟨rfl,nu,la,v6,rfl,l0,l1⟩
   dsimp only [cg];refine aC fun _ hR=>aY ⟨_,rfl,_,rfl,_,_,rfl,rfl,.inr ⟨by decide,by decide⟩,_,rfl,_,_,rfl,rfl,hR _ _ ?_⟩
   refine ⟨_,rfl,_,rfl,_,_,rfl,rfl,.inl ⟨by lia,by lia⟩,_,rfl,_,_,rfl,rfl,.inl ⟨by decide,by decide⟩,_,_,rfl,rfl,_,rfl,_,_,rfl,rfl,_,rfl,_,_,rfl,rfl,pp,?_⟩
   refine ⟨rfl,_,_,_,rfl,?_,?_⟩;·exact gw _ (by decide)
   ·exact gW _ pp
  ·rintro σ Hc ⟨rfl,nu,la,v6,rfl,_,_⟩
   refine hR _ _ ?_;refine ⟨_,rfl,by show 1≤sizeLine;decide,fun Tp yq=>?_⟩
   exact kk Tp _ (aA yq) yq ⟨_,au⟩
theorem Xg:ba ["told","tape","top"] ["told","tape"] (aH AW):=bF
theorem BB(T:Txt K mg t):aV P w K mg base bK 3 t.qP t.uW ["told","tape"] Ut:=by
 have S:=Xg;refine T.mw.bS S (fun _ _ _ _ H _ _ _ hr h=>?_);obtain ⟨td,Tp,q,rfl,tw,hq,tc,k⟩:=h
 refine ⟨_,(aj (bT (PW.pt (pw_and (bN fP (aB bH (pv 0) ag) cz) (pw_and1 (bN fP (aW (iO T) hr T.fI T.dZ.kp T.fH aI (aa (pv 1) (aa ag af))) ag)))) (ar (aT (aW (iO T) hr T.fI T.dZ.kp T.fH aI (aa (pv 1) (aa (aB bH (pv 0) ag) af))))) bZ)
  (aj (putL 2 S.nd (ax k6 (aW (iO T) hr T.fI T.dZ.kp T.fH aI (aa (pv 1) (aa ag af))) ag))
  (aj (bT (bN fP (aB bH (pv 0) ag) cz) (ar (aT (ax gf (pv 2) (aB bH (pv 0) ag)))) bZ)
  (ar (aT (aW (EU T) hr T.Bf T.nZ.kp T.Be aI (aa (pv 0) (aa (pv 2) (aa (aB bJ (cC (aa ag (aa ag (aa ag (aa ag (aa ag af)))))) (aW (iO T) hr T.fI T.dZ.kp T.fH aI (aa (pv 1) (aa ag af)))) af))))))))),?_⟩
 rcases id tw with ⟨q0,e0⟩ | ⟨qn,e0⟩
 ·refine aC fun _ hR=>⟨_,rfl,td,_,_,_,rfl,rfl,.of e0,rfl,rfl,false,by decide +kernel,cK (cK (hR _ _ ?_))⟩
  refine aC fun _ hR=>aY ⟨_,rfl,Tp,7,rfl,tc,by decide,by decide,fun d H1 d7 o1 t1=>⟨_,_,rfl,rfl,hR _ _ ?_⟩⟩
  have tw1:=tw.off o1 tc;obtain ⟨_,e1⟩ | ⟨qn,_⟩:=id tw1
  ·refine aC fun _ hR=>⟨_,rfl,td,_,_,_,rfl,rfl,.of e1,rfl,rfl,false,by decide +kernel,cK (hR _ _ ?_)⟩
   refine ⟨_,rfl,_,rfl,by show 5≤sizeLine;decide,fun l nl=>?_⟩
   have sl:ae H1 (upd H1 l (.lst [.int 1,.int 1,.int 1,.int 2,.int 3])):=aA nl;have el:upd H1 l (.lst [.int 1,.int 1,.int 1,.int 2,.int 3]) l=some (.lst [.int 1,.int 1,.int 1,.int 2,.int 3]):=au;have lT:l≠Tp:=t1.ne nl;generalize upd H1 l (.lst [.int 1,.int 1,.int 1,.int 2,.int 3])=H2 at sl el ⊢;have t2:=t1.mono sl;refine ⟨_,rfl,Tp,5,rfl,t2,by decide,by decide,fun j H3 j5 o3 t3=>?_⟩
   obtain ⟨b,eb,hb⟩:∃b:Int,gI [V.int 1,.int 1,.int 1,.int 2,.int 3] (j:Int)=some (.int b)∧(b=1∨b=2∨b=3):=by
    match j,j5 with
    | 0,_=>exact ⟨1,rfl,.inl rfl⟩
    | 1,_=>exact ⟨1,rfl,.inl rfl⟩
    | 2,_=>exact ⟨1,rfl,.inl rfl⟩
    | 3,_=>exact ⟨2,rfl,.inr (.inl rfl)⟩
    | 4,_=>exact ⟨3,rfl,.inr (.inr rfl)⟩
   have tw3:=(tw1.mono sl).off o3 t2;refine ⟨l,_,_,_,rfl,rfl,.of (o3 _ _ lT el),eb,td,q,(d:Int)-3,b,1000,rfl,tw3,hq,?_,by lia,by lia,by decide +kernel,fun v H4 s4 w4=>?_⟩
   ·rw [q0]
    intro z;have:=jf.mp z;lia
   ·obtain ⟨x,m,g1,g2,g3⟩:=JQ w4 (by lia) (by lia) q0
    exact k v x m H4 (o1.trans ((aG.of sl).trans (o3.trans (aG.of s4)))) (t3.mono s4) g1 fun _=>⟨by lia,jE g3 (by rcases hb with rfl | rfl | rfl <;> decide)⟩
  ·exact absurd q0 qn
 ·have eR:2≤q∧q≤997∧gK q=true:=by rcases hq with h | h;exact absurd h qn;exact h
  have qp:0<q:=by lia
  refine aC fun _ hR=>⟨_,rfl,td,_,_,_,rfl,rfl,.of e0,rfl,rfl,true,by decide +kernel,gg ?_⟩
  refine ⟨_,rfl,Tp,4,rfl,tc,by decide,by decide,fun d H1 d4 o1 t1=>?_⟩
  have tw1:=tw.off o1 tc;obtain ⟨z,_⟩ | ⟨_,e1⟩:=id tw1;·exact absurd z qn
  refine ⟨rfl,_,rfl,b7 (fun hb=>?_) (fun hb=>hR _ _ ?_)⟩
  ·refine ⟨_,rfl,_,rfl,td,_,_,_,rfl,rfl,.of e1,rfl,Tp,q.toNat,by show [V.ref Tp,V.int q]=_;rw [Int.toNat_of_nonneg (by lia)],t1,by lia,by lia,fun d2 H2 d2l o2 t2=>?_⟩
   exact k _ (d2:Int) 1 H2 (o1.trans o2) t2 (.rem (by lia) (by lia) eR.2.1) fun z=>absurd z qn
  ·refine aC fun _ hR=>aY ⟨_,rfl,Tp,7,rfl,t1,by decide,by decide,fun d2 H2 d7 o2 t2=>⟨_,_,rfl,rfl,hR _ _ ?_⟩⟩
   have tw2:=tw1.off o2 t1;obtain ⟨z,_⟩ | ⟨_,e2⟩:=id tw2;·exact absurd z qn
   refine aC fun _ hR=>⟨_,rfl,td,_,_,_,rfl,rfl,.of e2,rfl,rfl,true,by decide +kernel,gg ?_⟩
   refine ⟨_,rfl,_,rfl,td,_,_,_,rfl,rfl,.of e2,rfl,_,_,rfl,rfl,qp,k _ _ 1 H2 (o1.trans o2) t2 (.rem (gw _ (by lia)) (gW _ qp) eR.2.1) fun z=>absurd z qn⟩
theorem Xh:ba ["tape","way","wheels"] ["tape"] (aH AV):=bF
theorem Xi(T:Txt K mg t):aV P w K mg base bK 2 t.qO t.uV ["tape"] Uu:=by
 have S:=Xh;have ki:=iO (P:=P) (w:=w) (base:=base) T;refine T.vT.bS S (fun _ _ _ _ H _ _ _ hr h=>?_);obtain ⟨Tp,rfl,tc,k⟩:=h
 refine ⟨_,(@aj _ _ _ _ _ (@gL _ _ 1 _ _ _ _ (by rfl) (by first | exact .inl rfl | exact .inr rfl | assumption) S.nd rfl (Or.inl rfl) (d9 ki (hr.mono (by decide)) rfl T.fI T.dZ.kp T.fH .nil aI (@aw _ _ _ _ _ (by rfl) (pv 0) (@aw _ _ _ _ _ (by rfl) ag af))))
   (@aj _ _ _ _ _ (@gL _ _ 2 _ _ _ _ (by rfl) (by first | exact .inl rfl | exact .inr rfl | assumption) S.nd rfl (Or.inl rfl) (@cC _ _ _ _ (@aw _ _ _ _ _ (by rfl) ag (@aw _ _ _ _ _ (by rfl) ag (@aw _ _ _ _ _ (by rfl) ag (@aw _ _ _ _ _ (by rfl) ag (@aw _ _ _ _ _ (by rfl) ag (@aw _ _ _ _ _ (by rfl) ag (@aw _ _ _ _ _ (by rfl) ag (@aw _ _ _ _ _ (by rfl) (@jR _ _ _ _ _ _ _ bJ (@cC _ _ _ _ (@aw _ _ _ _ _ (by rfl) ag (@aw _ _ _ _ _ (by rfl) ag (@aw _ _ _ _ _ (by rfl) ag af)))) (d9 ki (hr.mono (by decide)) rfl T.fI T.dZ.kp T.fH .nil aI (@aw _ _ _ _ _ (by rfl) (pv 0) (@aw _ _ _ _ _ (by rfl) ag af))) (fun _ _=>rfl)) af))))))))))
   (@ar _ _ _ (@aT _ _ _ _ (@jR _ _ _ _ _ _ _ bJ (@cC _ _ _ _ (@aw _ _ _ _ _ (by rfl) (@eZ _ _ _ _ _ (@aw _ _ _ _ _ (by rfl) cz (@aw _ _ _ _ _ (by rfl) (@jR _ _ _ _ _ _ _ bJ (pv 2) (pv 1) (fun _ _=>rfl)) af))) (@aw _ _ _ _ _ (by rfl) (@eZ _ _ _ _ _ (@aw _ _ _ _ _ (by rfl) cz af)) af))) (m7 Hr rfl T.Bn boot_int (@aw _ _ _ _ _ (by rfl) (@Ho _ _ _ _ _ _ _ _ fP (@jR _ _ _ _ _ _ _ bJ (pv 2) (pv 1) (fun _ _=>rfl)) ag (iV _)) af)) (fun _ _=>rfl)))))),?_⟩
 refine aC fun _ hR=>aY ⟨_,rfl,Tp,8,rfl,tc,by decide,by decide,fun wy H1 w8 o1 t1=>hR _ _ ?_⟩
 refine aC fun _ hR=>aY ⟨by show 3≤sizeLine;decide,fun l1 n1=>?_⟩
 have s1:ae H1 (upd H1 l1 (.lst [.int 97,.int 13,.int 11])):=aA n1;have e1:upd H1 l1 (.lst [.int 97,.int 13,.int 11]) l1=some (.lst [.int 97,.int 13,.int 11]):=au;have lT:l1≠Tp:=t1.ne n1;generalize upd H1 l1 (.lst [.int 97,.int 13,.int 11])=H2 at s1 e1 ⊢;have t2:=t1.mono s1;refine ⟨_,rfl,Tp,3,rfl,t2,by decide,by decide,fun j H3 j3 o3 t3=>?_⟩
 obtain ⟨w3,ew,hw⟩:∃w3:Int,gI [V.int 97,.int 13,.int 11] (j:Int)=some (.int w3)∧(w3=97∨w3=13∨w3=11):=by
  match j,j3 with
  | 0,_=>exact ⟨97,rfl,.inl rfl⟩
  | 1,_=>exact ⟨13,rfl,.inr (.inl rfl)⟩
  | 2,_=>exact ⟨11,rfl,.inr (.inr rfl)⟩
 refine ⟨l1,_,_,_,rfl,rfl,.of (o3 _ _ lT e1),ew,by show 8≤sizeLine;decide,fun l2 n2=>hR _ _ ?_⟩
 have s3:ae H3 (upd H3 l2 (.lst [.int 0,.int 2,.int 3,.int 5,.int 7,.int 0,.int 997,.int w3])):=aA n2;have e3:upd H3 l2 (.lst [.int 0,.int 2,.int 3,.int 5,.int 7,.int 0,.int 997,.int w3]) l2=some (.lst [.int 0,.int 2,.int 3,.int 5,.int 7,.int 0,.int 997,.int w3]):=au;generalize upd H3 l2 (.lst [.int 0,.int 2,.int 3,.int 5,.int 7,.int 0,.int 997,.int w3])=H4 at s3 e3 ⊢;have t4:=t3.mono s3;have o4:aG Tp H H4:=o1.trans ((aG.of s1).trans (o3.trans (aG.of s3)));obtain ⟨q,MY,hq⟩:∃q:Int,gI [V.int 0,.int 2,.int 3,.int 5,.int 7,.int 0,.int 997,.int w3] (wy:Int)=some (.int q)∧DQ q=true:=by
  match wy,w8 with
  | 0,_=>exact ⟨0,rfl,by decide⟩
  | 1,_=>exact ⟨2,rfl,by decide⟩
  | 2,_=>exact ⟨3,rfl,by decide⟩
  | 3,_=>exact ⟨5,rfl,by decide⟩
  | 4,_=>exact ⟨7,rfl,by decide⟩
  | 5,_=>exact ⟨0,rfl,by decide⟩
  | 6,_=>exact ⟨997,rfl,by decide⟩
  | 7,_=>exact ⟨w3,rfl,by rcases hw with rfl | rfl | rfl <;> decide⟩
 have hq:=Uv hq;refine ⟨_,rfl,_,rfl,l2,_,_,_,rfl,rfl,.of e3,MY,by show 2≤sizeLine;decide,fun a1 m1=>?_⟩
 have s5:ae H4 (upd H4 a1 (.tup [.str (Str.ofString "wheel"),.int q])):=aA m1;have e5:upd H4 a1 (.tup [.str (Str.ofString "wheel"),.int q]) a1=some (.tup [sV "wheel",.int q]):=au;generalize upd H4 a1 (.tup [.str (Str.ofString "wheel"),.int q])=H5 at s5 e5 ⊢;refine ⟨by show 1≤sizeLine;decide,fun a2 m2=>?_⟩
 have s6:ae H5 (upd H5 a2 (.tup [.str (Str.ofString "fractions")])):=aA m2;have e6:upd H5 a2 (.tup [.str (Str.ofString "fractions")]) a2=some (.tup [sV "fractions"]):=au;generalize upd H5 a2 (.tup [.str (Str.ofString "fractions")])=H6 at s6 e6 ⊢;refine ⟨by show 2≤sizeLine;decide,fun l3 n3=>?_⟩
 have s7:ae H6 (upd H6 l3 (.lst [.ref a1,.ref a2])):=aA n3;have e7:upd H6 l3 (.lst [.ref a1,.ref a2]) l3=some (.lst [.ref a1,.ref a2]):=au;generalize upd H6 l3 (.lst [.ref a1,.ref a2])=H7 at s7 e7 ⊢;have EX:=s5.trans (s6.trans s7);have o7:aG Tp H H7:=o4.trans (aG.of EX);have t7:=t4.mono EX;refine ⟨_,rfl,_,rfl,l2,_,_,_,rfl,rfl,.of (EX _ _ e3),MY,rfl,.inr ⟨decide (V.int q=V.int 0),rfl,?_⟩⟩;by_cases z:q=0
 ·rw [aq (by rw [z];decide)]
  exact ⟨l3,_,_,_,rfl,rfl,.of e7,rfl,k a2 q H7 o7 t7 (.inl ⟨z,s7 _ _ e6⟩) hq⟩
 ·rw [ak (by rw [i5,da z];exact cW)]
  exact ⟨l3,_,_,_,rfl,rfl,.of e7,rfl,k a1 q H7 o7 t7 (.inr ⟨z,s7 _ _ (s6 _ _ e5)⟩) hq⟩
theorem Xj:ba ["told","tape","size"] ["told","tape","size"] (aH A1):=bF
theorem MZ(T:Txt K mg t):aV P w K mg base bK 4 t.qU t.u3 ["told","tape","size"] Ux:=by
 have S:=Xj;refine T.rA.bS S (fun _ _ _ _ H _ _ _ hr h=>?_);obtain ⟨td,Tp,q,n,rfl,tw,hq,tc,Br,k⟩:=h;refine ⟨_,(ar (aT (l_ (N:=["j","told","tape"]) (ρ:=(fun σ=>[σ[0]?.join,σ[1]?.join])) (jT [0,1] rfl) rfl (kX rfl T.iL (aa (pv 2) af)) (fun _ _ _=>.nil) (fun _ _ _=>(aW (BB T) hr T.xV T.mw.kp T.xU aI (aa (pv 1) (aa (pv 2) af))))))),?_⟩;refine gi (Uw (n:=n) (fB (by lia)) tc (fun R h=>⟨_,rfl,(n:Int),rfl,by lia,by lia,by rw [fg];exact h⟩) (fun _ i y Hx=>∃x m,bh 1000 Hx q y x m∧lG q x m) (fun D i y Ha Hb ys ⟨x,m,h1,h2⟩ t e f=>⟨x,m,h1.off t e f,h2⟩) (fun D i hi Hc R oc dW _ _ _ kR=>⟨_,rfl,_,rfl,td,Tp,q,rfl,tw.off oc tc,hq,dW,fun v x m H' o' t' nu sm=>kR v H' o' t' ⟨x,m,nu,sm⟩⟩) fun D ys Hc DT nD oc dW ly hP eD=>?_)
 have ex:∃ps:List (Int×Int),ps.length=n∧∀i,i<n→bh 1000 Hc q (ys.getD i .aF) (ps.getD i (0,1)).1 (ps.getD i (0,1)).2∧lG q (ps.getD i (0,1)).1 (ps.getD i (0,1)).2:=by
  have one:∀i,i<n→∃p:Int×Int,bh 1000 Hc q (ys.getD i .aF) p.1 p.2∧lG q p.1 p.2:=fun i hi=>by
   have hy:i<ys.length:=by lia
   obtain ⟨x,m,h1,h2⟩:=hP i ys[i] (cN hy);exact ⟨(x,m),by rw [getD_at hy];exact h1,h2⟩
  refine ⟨(List.range n).map fun i=>if h:i<n then (one i h).choose else (0,1),by simp,fun i hi=>?_⟩
  have e:((List.range n).map fun i=>if h:i<n then (one i h).choose else (0,1)).getD i (0,1)=(one i hi).choose:=by rw [ir,cw,je hi];simp [hi]
  rw [e];exact (one i hi).choose_spec
 obtain ⟨ps,lp,hp⟩:=ex;refine k D ps Hc oc dW nD ⟨ys,eD,by lia,fun i v p h1 h2=>?_⟩ lp fun p Xk=>?_
 ·have i1:=(bV.mp h1).1
  have i2:=(bV.mp h2).1;have:=(hp i (by lia)).1
  rwa [getD_at i1,getD_at i2,(bV.mp h1).2,(bV.mp h2).2] at this
 ·obtain ⟨i,hi,e⟩:=List.getElem_of_mem Xk
  have:=(hp i (by lia)).2
  rwa [getD_at hi,e] at this
theorem Xl:ba ["tape","size","links","often","j","i"] ["tape","size"] (aH AZ):=bF
theorem Xm(T:Txt K mg t):aV P w K mg base bK 2 t.qS t.uZ ["tape","size"] Uy:=by
 have S:=Xl;refine T.vV.bS S (fun _ _ _ _ H _ _ _ hr h=>?_);obtain ⟨Tp,n,rfl,tc,n20,k⟩:=h
 refine ⟨_,(aj (putL 2 S.nd (cC af))
  (aj (putL 3 S.nd (ax eQ ag (aW (iO T) hr T.fI T.dZ.kp T.fH aI (aa (pv 0) (aa ag af)))))
  (aj (eO dB rfl (kX rfl T.iL (aa (pv 1) af)) (cj (i:=4) S.nd rfl (Or.inl rfl))
   (ar (eO dB rfl (kX rfl T.iL (aa (pv 4) af)) (cj (i:=5) S.nd rfl (Or.inl rfl))
   (ar (bT (bN oY (aW (iO T) hr T.fI T.dZ.kp T.fH aI (aa (pv 0) (aa ag af))) (pv 3)) (ar (oU (xk wU PySem.F.slot_list_append PySem.F.type_list_append xl (pv 2) (aa (eZ (aa (pv 5) (aa (pv 4) af))) af)))) bZ)))))
  (ar (aT (pv 2)))))),?_⟩
 refine aC fun _ hR=>aY ⟨b_ _,fun D nD=>hR _ _ ?_⟩;have DT:D≠Tp:=tc.ne nD;have o1:aG Tp H (upd H D (.lst [])):=aG.of (aA nD);have t1:a7 (upd H D (.lst [])) Tp:=tc.mono (aA nD);have e1:upd H D (.lst []) D=some (.lst []):=au;generalize upd H D (.lst [])=H1 at o1 t1 e1 ⊢;refine aC fun _ hR=>aY ⟨_,rfl,Tp,4,rfl,t1,by decide,by decide,fun of H2 of4 o2 t2=>⟨_,_,rfl,rfl,hR _ _ ?_⟩⟩
 have e2:=o2 _ _ DT e1;refine aC fun _ hR=>⟨_,rfl,(n:Int),rfl,by lia,by lia,?_⟩
 rw [fg];refine sJ (fun j σ Hc=>∃(us:List V) (L:cx) (v4 v5:Option V),σ=[some (.ref Tp),some (.int (n:Int)),some (.ref D),some (.int (1+(of:Int))),v4,v5]∧aG Tp H Hc∧a7 Hc Tp∧Hc D=some (.lst us)∧dD Hc us L∧(∀z∈L,0≤z.1∧z.1<z.2∧z.2<(n:Int))∧L.length≤20*j) ⟨[],[],_,_,rfl,o1.trans o2,t2,e2,dD.nil _,(fun z hz=>nomatch hz),b_ _⟩ ?_ ?_
 ·rintro j σ Hc hj ⟨us,L,v4,v5,rfl,oc,dW,ec,hL,lt,ll⟩
  dsimp only [cg];refine ⟨_,rfl,0+(j:Int),rfl,by lia,by lia,?_⟩
  rw [show (0+(j:Int)).toNat=j by lia]
  refine sJ (fun i σ Hd=>∃(us:List V) (L:cx) (v5:Option V),σ=[some (.ref Tp),some (.int (n:Int)),some (.ref D),some (.int (1+(of:Int))),some (.int (0+(j:Int))),v5]∧aG Tp H Hd∧a7 Hd Tp∧Hd D=some (.lst us)∧dD Hd us L∧(∀z∈L,0≤z.1∧z.1<z.2∧z.2<(n:Int))∧L.length≤20*j+i) ⟨us,L,_,rfl,oc,dW,ec,hL,lt,ll⟩ ?_ ?_
  ·clear hL ec lt ll oc dW
   rintro i σ Hd hi ⟨us,L,v5,rfl,od,BC,ed,hL,lt,ll⟩;dsimp only [cg];refine ⟨_,rfl,Tp,4,rfl,BC,by decide,by decide,fun d H3 d4 o3 t3=>?_⟩
   have BD:=o3 _ _ DT ed;have M0:=hL.fV BC o3;have M1:=od.trans o3;refine ⟨_,rfl,_,_,rfl,rfl,_,rfl,b7 (fun hb=>?_) (fun hb=>⟨us,L,_,rfl,M1,t3,BD,M0,lt,by lia⟩)⟩
   have lu:=hL.1;refine ⟨_,rfl,.inl ⟨rfl,_,.of BD⟩,_,rfl,_,rfl,by show 2≤sizeLine;decide,fun tq BA=>⟨D,us,_,rfl,rfl,(aA BA) _ _ BD,fB (by lia),?_⟩⟩
   have st:ae H3 (upd H3 tq (.tup [.int (0+(i:Int)),.int (0+(j:Int))])):=aA BA;have M3:upd H3 tq (.tup [.int (0+(i:Int)),.int (0+(j:Int))]) tq=some (.tup [.int (i:Int),.int (j:Int)]):=by rw [au,oN,oN]
   generalize upd H3 tq (.tup [.int (0+(i:Int)),.int (0+(j:Int))])=He at st M3 ⊢;refine ⟨us++[.ref tq],L++[((i:Int),(j:Int))],_,rfl,fun b u ne e=>by rw [aO (fun zz=>by rw [zz,nD] at e;cases e)];exact st _ _ (M1 b u ne e),?_,au,?_,fun z hz=>?_,by rw [cR,BV];lia⟩
   ·obtain ⟨x,ex⟩:=t3.mono st
    exact ⟨x,(aO (Ne.symm DT)).trans ex⟩
   ·exact ((M0.mono st).cat (show dD He [.ref tq] [((i:Int),(j:Int))] from ⟨rfl,fun k v p h1 h2=>by
     match k,h1,h2 with
     | 0,h1,h2=>cases h1;cases h2;exact ⟨tq,rfl,M3⟩
     | k+1,h1,h2=>simp at h1⟩)).bG (st _ _ BD) fun b o nb e=>by rw [aO nb];exact e
   ·rcases jB.mp hz with hz | hz
    ·exact lt z hz
    ·rw [iu.mp hz]
     dsimp only;lia
  ·rintro σ Hd ⟨us,L,v5,rfl,od,BC,ed,hL,lt,ll⟩
   exact ⟨us,L,_,_,rfl,od,BC,ed,hL,lt,by lia⟩
 ·rintro σ Hc ⟨us,L,v4,v5,rfl,oc,dW,ec,hL,lt,ll⟩
  exact hR _ _ ⟨_,rfl,k D us L Hc oc dW nD ec hL lt (by lia)⟩
theorem Xn:ba ["tape","size","order","k"] ["tape","size"] (aH A0):=bF
theorem Xo(T:Txt K mg t):aV P w K mg base bK 2 t.qT t.u0 ["tape","size"] TH:=by
 have S:=Xn;refine T.vW.bS S (fun _ _ _ _ H _ _ _ hr h=>?_);obtain ⟨Tp,n,rfl,tc,Br,kk⟩:=h
 refine ⟨_,(aj (putL 2 S.nd (cC af))
  (aj (eO dB rfl (kX rfl T.iL (aa (pv 1) af)) (cj (i:=3) S.nd rfl (Or.inl rfl))
   (ar (oU (xk wU PySem.F.slot_list_insert PySem.F.type_list_insert TF (pv 2) (aa (aW (iO T) hr T.fI T.dZ.kp T.fH aI (aa (pv 0) (aa (ax eQ (pv 3) ag) af))) (aa (pv 3) af))))))
  (ar (aT (pv 2))))),?_⟩
 refine aC fun _ hR=>aY ⟨b_ _,fun D nD=>hR _ _ ?_⟩;have DT:D≠Tp:=tc.ne nD;have o1:aG Tp H (upd H D (.lst [])):=aG.of (aA nD);have t1:a7 (upd H D (.lst [])) Tp:=tc.mono (aA nD);have e1:upd H D (.lst []) D=some (.lst (nI [])):=au;generalize upd H D (.lst [])=H1 at o1 t1 e1 ⊢;refine aC fun _ hR=>⟨_,rfl,(n:Int),rfl,by lia,by lia,?_⟩
 rw [fg];refine sJ (fun k σ Hc=>∃(o:List Nat) (v3:Option V),σ=[some (.ref Tp),some (.int (n:Int)),some (.ref D),v3]∧aG Tp H Hc∧a7 Hc Tp∧Hc D=some (.lst (nI o))∧o.Perm (List.range k)) ⟨[],_,rfl,o1,t1,e1,List.Perm.refl _⟩ ?_ ?_
 ·rintro k σ Hc hk ⟨o,v3,rfl,oc,dW,eD,pm⟩
  dsimp only [cg];refine ⟨_,rfl,.inl ⟨rfl,_,.of eD⟩,_,rfl,_,rfl,_,_,rfl,rfl,Tp,k+1,by show [V.ref Tp,V.int ((0+(k:Int))+1)]=_;rw [show (0+(k:Int))+1=((k+1:Nat):Int) by lia],dW,by lia,by lia,fun d H2 hd od td=>?_⟩
  have Bz:=od _ _ DT eD;have lo:(nI o).length=k:=by unfold nI;rw [bg,pm.length_eq,dj]
  refine ⟨_,rfl,D,nI o,d,_,_,rfl,rfl,rfl,Bz,by lia,by lia,?_⟩
  have pk:(o.take d++k::o.drop d).Perm (List.range (k+1)):=by rw [oO];refine List.perm_middle.trans ?_;rw [List.take_append_drop];exact ((List.Perm.cons k pm).trans (List.perm_append_comm (l₁:=[k])))
  refine ⟨o.take d++k::o.drop d,_,rfl,fun b u ne e=>?_,?_,?_,pk⟩
  ·rw [aO (fun z=>by rw [z,nD] at e;cases e)]
   exact (oc.trans od) b u ne e
  ·obtain ⟨x,ex⟩:=td
   exact ⟨x,(aO (Ne.symm DT)).trans ex⟩
  ·rw [au]
   unfold nI;rw [kI,cQ,List.map_take,List.map_drop,oN]
 ·rintro σ Hc ⟨o,v3,rfl,oc,dW,eD,pm⟩
  exact hR _ _ ⟨_,rfl,kk D o _ oc dW nD eD pm⟩
theorem Xp:ba ["told","tape","size","links","table","i","j","way"] ["told","tape","size","links"] (aH AY):=bF
theorem Xq(T:Txt K mg t):aV P w K mg base bK 6 t.qR t.uY ["told","tape","size","links"] UA:=by
 have S:=Xp;refine T.vU.bS S (fun _ _ _ _ H _ _ _ hr h=>?_);obtain ⟨td,Tp,lk,q,n,us,L,rfl,tw,hq,tc,Br,lT,wq,hL,bP,kk⟩:=h;have hu:=hr.sP
 refine ⟨_,(aj (zH (i0:=4) (N:=["i","size","told"]) (ρ:=(fun σ=>[σ[2]?.join,σ[0]?.join])) (jT [2,0] rfl) rfl S.nd rfl (Or.inl rfl) (kX rfl T.iL (aa (pv 2) af)) (fun _ _ _=>.nil) (fun _ _ _=>(l_ (N:=["j","told"]) (ρ:=(fun σ=>[σ[2]?.join])) (jT [2] rfl) rfl (kX rfl T.iL (aa (pv 1) af)) (fun _ _ _=>.nil) (fun _ _ _=>(aW (EW T) hr T.Bh T.n8.kp T.Bg aI (aa (pv 1) af))))))
  (aj (eO dB rfl (kX rfl T.iL (aa (pv 2) af)) (cj (i:=5) S.nd rfl (Or.inl rfl))
   (aj (@gC _ _ _ _ _ _ (aW (BB T) hr T.xV T.mw.kp T.xU aI (aa (pv 0) (aa (pv 1) af))) (iA (aB bJ (pv 4) (pv 5)) (pv 5) set_list) (by rfl) (by rfl) (by rfl))
  (ar (bT (PW.pt (pw_and (bN (IA hu) (aB bJ (aB bJ (pv 4) (pv 5)) (pv 5)) (aW (EW T) hr T.Bh T.n8.kp T.Bg aI (aa (pv 0) af))) (pw_and1 (bN sM (aW (iO T) hr T.fI T.dZ.kp T.fH aI (aa (pv 1) (aa ag af))) ag)))) (ar (@gC _ _ _ _ _ _ (aW (EU T) hr T.Bf T.nZ.kp T.Be aI (aa (pv 0) (aa ag (aa ag af)))) (iA (aB bJ (pv 4) (pv 5)) (pv 5) set_list) (by rfl) (by rfl) (by rfl))) bZ))))
  (aj (eO dB rfl (gc (pv 3)) (mX rfl (fM (cj (i:=5) S.nd rfl (Or.inl rfl)) (fM (cj (i:=6) S.nd rfl (Or.inl rfl)) mW)))
   (aj (putL 7 S.nd (aW (iO T) hr T.fI T.dZ.kp T.fH aI (aa (pv 1) (aa ag af))))
  (aj (bT (bN fz (pv 7) ag) (ar (@gC _ _ _ _ _ _ (aW (BB T) hr T.xV T.mw.kp T.xU aI (aa (pv 0) (aa (pv 1) af))) (iA (aB bJ (pv 4) (pv 5)) (pv 6) set_list) (by rfl) (by rfl) (by rfl))) bZ)
  (ar (bT (bN fz (pv 7) ag) (ar (@gC _ _ _ _ _ _ (aW (BB T) hr T.xV T.mw.kp T.xU aI (aa (pv 0) (aa (pv 1) af))) (iA (aB bJ (pv 4) (pv 6)) (pv 5) set_list) (by rfl) (by rfl) (by rfl))) bZ)))))
  (ar (aT (pv 4)))))),?_⟩
 have gQ:((List.range n).map fun i:Nat=>V.int (0+(i:Int))).length=n:=by rw [bg,dj]
 refine aC fun _ hR=>aY (pQ (xs:=(List.range n).map fun i:Nat=>V.int (0+(i:Int))) (n:=n) gQ (fun R h=>⟨_,rfl,(n:Int),rfl,by lia,by lia,by rw [fg];exact h _ _ (ae.refl _) zG⟩) (fB (by lia)) (fun _ i y Hx=>(∃ys,Hx y=some (.lst ys)∧ys.length=n∧∀(j:Nat) (v:V),ys[j]?=some v→bh 1000 Hx q v 0 1)∧H y=none) ?_ ?_ ?_)
 ·intro D i y Ha Hb ys ⟨⟨zs,h1,h3,h4⟩,h2⟩ hy e f
  exact ⟨⟨zs,f y _ hy h1,h3,fun j v hv=>(h4 j v hv).bG e f⟩,h2⟩
 ·intro D i x hx Hc R sc _ kc
  refine IH (xs:=(List.range n).map fun i:Nat=>V.int (0+(i:Int))) (fun R h=>⟨_,rfl,(n:Int),rfl,by lia,by lia,by rw [fg];exact h _ _ (ae.refl _) zG⟩) (by rw [gQ];exact fB (by lia)) (fun _ j y Hx=>bh 1000 Hx q y 0 1) (fun D' i' y' Ha Hb ys' h e f=>h.bG e f) ?_ ?_
  ·intro D1 j x' G4 Hd R' sd _ kd
   exact ⟨_,rfl,td,q,rfl,tw.mono (sc.trans sd),hq,fun v0 H2 s2 h0=>kd v0 H2 s2 h0⟩
  ·intro D1 ys Hd EF sd mB wm eD
   rw [gQ] at mB;exact kc D1 Hd sd EF ⟨_,eD⟩ ⟨⟨ys,eD,mB,wm⟩,none_of sc EF⟩
 ·intro D rs H1 nD s1 inj hA eD
  refine hR _ _ ?_;have kj:∀i,i<n→H (rs i)=none:=fun i hi=>(hA i hi).1.2;have row:∀i,i<n→∃f:Nat→V,H1 (rs i)=some (.lst ((List.range n).map f))∧∀j,j<n→bh 1000 H1 q (f j) 0 1:=fun i hi=>by
   obtain ⟨ys,h1,h2,h3⟩:=(hA i hi).1.1;refine ⟨fun j=>ys.getD j .aF,?_,fun j hj=>?_⟩
   ·rw [h1]
    congr 2
    refine eX (by simp [h2]) fun j g1 g2=>?_
    rw [fY,gX,getD_at g1]
   ·have eB:j<ys.length:=by lia
    dsimp only;rw [getD_at eB];exact h3 j _ (cN eB)
  obtain ⟨vf,hv⟩:∃vf:Nat→Nat→V,∀i,i<n→H1 (rs i)=some (.lst ((List.range n).map (vf i)))∧∀j,j<n→bh 1000 H1 q (vf i j) 0 1:=⟨fun i=>if h:i<n then (row i h).choose else fun _=>.aF,fun i hi=>by dsimp only;rw [eY hi];exact (row i hi).choose_spec⟩
  have W1:WTab H1 D n rs vf:=⟨eD,inj,fun i hi=>(hA i hi).2,fun i hi=>(hv i hi).1⟩;have F1:j4 H1 q n vf:=fun i j hi hj=>⟨0,1,(hv i hi).2 j hj,fun _=>⟨by decide,by decide⟩⟩
  clear hA row hv eD inj;have DT:=tc.ne nD;have rT:∀i,i<n→rs i≠Tp:=fun i hi=>tc.ne (kj i hi);have o1:aG Tp H H1:=aG.of s1;have t1:=tc.mono s1;have step:∀{Ha Hb:Hp} {vf:Nat→Nat→V} {i j:Nat} {v:V} {x d:Int},i<n→j<n→aG Tp H Ha→WTab Ha D n rs vf→j4 Ha q n vf→a7 Ha Tp→aG Tp Ha Hb→a7 Hb Tp→bh 1000 Hb q v x d→lG q x d→aG Tp H (upd Hb (rs i) (.lst (((List.range n).map (vf i)).set j v)))∧a7 (upd Hb (rs i) (.lst (((List.range n).map (vf i)).set j v))) Tp∧WTab (upd Hb (rs i) (.lst (((List.range n).map (vf i)).set j v))) D n rs (lE vf i j v)∧j4 (upd Hb (rs i) (.lst (((List.range n).map (vf i)).set j v))) q n (lE vf i j v):=fun{Ha Hb vf i j v x d} hi hj oa Wa Fa ta ob tb nu sm=>by
   have Wb:WTab Hb D n rs vf:=Wa.bG fun b o hb e=>ob b o (by rcases hb with rfl | ⟨k,hk,rfl⟩;exact DT;exact rT k hk) e
   refine ⟨fun b o ne e=>?_,?_,Wb.put v hi,fun i' j' dS eB=>?_⟩
   ·rw [aO (fun z=>by rw [z,kj i hi] at e;cases e)]
    exact ob b o ne (oa b o ne e)
   ·obtain ⟨x,ex⟩:=tb
    exact ⟨x,by rw [aO (Ne.symm (rT i hi))];exact ex⟩
   ·have up:∀{v:V} {x d:Int},bh 1000 Hb q v x d→bh 1000 (upd Hb (rs i) (.lst (((List.range n).map (vf i)).set j v))) q v x d:=fun{v x d} h=>h.bG (Wb.at' i hi) fun b o ne e=>by rw [aO ne];exact e
    unfold lE
    split
    ·exact ⟨x,d,nu.bG (Wb.at' i hi) fun b o ne e=>by rw [aO ne];exact e,sm⟩
    ·obtain ⟨x',d',h1,h2⟩:=Fa i' j' dS eB
     exact ⟨x',d',(h1.fV ta ob).bG (Wb.at' i hi) fun b o ne e=>by rw [aO ne];exact e,h2⟩
  have bG:∀{Ha Hb:Hp} {vf:Nat→Nat→V},WTab Ha D n rs vf→j4 Ha q n vf→a7 Ha Tp→aG Tp Ha Hb→WTab Hb D n rs vf∧j4 Hb q n vf:=fun{Ha Hb vf} Wa Fa ta ob=>⟨Wa.bG fun b o hb e=>ob b o (by rcases hb with rfl | ⟨k,hk,rfl⟩;exact DT;exact rT k hk) e,fun i j hi hj=>by obtain ⟨x',d',h1,h2⟩:=Fa i j hi hj;exact ⟨x',d',h1.fV ta ob,h2⟩⟩
  refine aC fun _ hR=>⟨_,rfl,(n:Int),rfl,by lia,by lia,?_⟩
  rw [fg];refine sJ (fun k σ Hc=>∃(vf:Nat→Nat→V) (v5 v6 v7:Option V),σ=[some (.ref td),some (.ref Tp),some (.int (n:Int)),some (.ref lk),some (.ref D),v5,v6,v7]∧aG Tp H Hc∧a7 Hc Tp∧WTab Hc D n rs vf∧j4 Hc q n vf) ⟨vf,_,_,_,rfl,o1,t1,W1,F1⟩ ?_ ?_
  ·clear W1 F1 o1 t1
   rintro k σ Hc hk ⟨vf,v5,v6,v7,rfl,oc,dW,Wc,Fc⟩;dsimp only [cg];rw [oN];refine aC fun _ hR=>aY ⟨_,rfl,_,rfl,td,Tp,q,rfl,tw.off oc tc,hq,dW,fun v x d H2 o2 t2 nu sm=>?_⟩;obtain ⟨W2,F2⟩:=bG Wc Fc dW o2;obtain ⟨o3,t3,W3,F3⟩:=step hk hk oc Wc Fc dW o2 t2 nu sm;refine ⟨_,rfl,_,rfl,D,_,_,_,rfl,rfl,.of W2.lst,ck hk,_,rfl,rs k,_,_,k,rfl,rfl,W2.at' k hk,by rw [bg,dj];exact i8 hk,hR _ _ ?_⟩
   generalize upd H2 (rs k) (.lst (((List.range n).map (vf k)).set k v))=H3 at o3 t3 W3 F3 ⊢;generalize lE vf k k v=vf3 at W3 F3;clear W2 F2 o2 t2 nu;obtain ⟨x3,d3,h3,_⟩:=F3 k k hk hk;refine ⟨_,rfl,_,rfl,D,_,_,_,rfl,rfl,.of W3.lst,ck hk,_,rfl,rs k,_,_,_,rfl,rfl,.of (W3.at' k hk),ck hk,_,rfl,td,q,rfl,tw.off o3 tc,hq,fun v0 H4 s4 h0=>IK (h3.mono s4) h0 ⟨_,rfl,b7 (fun hb=>?_) (fun hb=>?_)⟩⟩
   ·refine ⟨_,rfl,Tp,3,rfl,t3.mono s4,by decide,by decide,fun g H5 g3 o5 t5=>⟨_,_,rfl,rfl,_,rfl,b7 (fun hb=>?_) (fun hb=>?_)⟩⟩
    ·have yr:=(aG.of s4:aG Tp H3 H4).trans o5
     refine aY ⟨_,rfl,td,q,1,1,1000,rfl,tw.off (o3.trans yr) tc,hq,zN hq,by decide,by decide,by decide +kernel,fun v' H6 s6 w6=>?_⟩
     obtain ⟨x6,d6,n6,Xr⟩:=Uz hq w6;have M4:=yr.trans (aG.of s6);obtain ⟨W6,F6⟩:=bG W3 F3 t3 M4;obtain ⟨o7,t7,W7,F7⟩:=step hk hk o3 W3 F3 t3 M4 (t5.mono s6) n6 Xr;exact ⟨_,rfl,_,rfl,D,_,_,_,rfl,rfl,.of W6.lst,ck hk,_,rfl,rs k,_,_,k,rfl,rfl,W6.at' k hk,by rw [bg,dj];exact i8 hk,⟨_,_,_,_,rfl,o7,t7,W7,F7⟩⟩
    ·have yr:=(aG.of s4:aG Tp H3 H4).trans o5
     obtain ⟨W6,F6⟩:=bG W3 F3 t3 yr;exact ⟨_,_,_,_,rfl,o3.trans yr,t5,W6,F6⟩
   ·obtain ⟨W6,F6⟩:=bG W3 F3 t3 (aG.of s4)
    exact ⟨_,_,_,_,rfl,o3.trans (aG.of s4),t3.mono s4,W6,F6⟩
  ·rintro σ Hc ⟨vf,v5,v6,v7,rfl,oc,dW,Wc,Fc⟩
   refine hR _ _ ?_;refine aC fun _ hR=>⟨_,rfl,lk,rfl,⟨_,.of (oc _ _ lT wq)⟩,?_⟩;refine k4 (K:=K) (a:=lk) (xs:=us) (fun k σ Hc=>∃(vf:Nat→Nat→V) (v5 v6 v7:Option V),σ=[some (.ref td),some (.ref Tp),some (.int (n:Int)),some (.ref lk),some (.ref D),v5,v6,v7]∧aG Tp H Hc∧a7 Hc Tp∧WTab Hc D n rs vf∧j4 Hc q n vf) ⟨vf,_,_,_,rfl,oc,dW,Wc,Fc⟩ (fun k σ Hc _ ⟨_,_,_,_,_,oc,_⟩=>.of (oc _ _ lT wq)) ?_ ?_
   ·clear Wc Fc oc dW
    rintro k x σ Hc hx ⟨vf,v5,v6,v7,rfl,oc,dW,Wc,Fc⟩;have hk:k<L.length:=by rw [←hL.1];exact (bV.mp hx).1
    obtain ⟨b,rfl,eb⟩:=(hL.fV tc oc).2 k x L[k] hx (cN hk);obtain ⟨z1,z2,z3⟩:=bP L[k] (gY hk);obtain ⟨i,ei⟩:=wV z1;obtain ⟨j,ej⟩:=wV (show 0≤(L[k]).2 by lia)
    rw [ei,ej] at eb;have hi:i<n:=by lia
    have hj:j<n:=by lia
    dsimp only [cg];refine ⟨b,_,rfl,.of eb,rfl,_,_,rfl,_,_,rfl,rfl,?_⟩;refine aC fun _ hR=>aY ⟨_,rfl,Tp,5,rfl,dW,by decide,by decide,fun wy H1 _ o1 t1=>hR _ _ ?_⟩
    obtain ⟨W1,F1⟩:=bG Wc Fc dW o1;have EY:=oc.trans o1;clear Wc Fc;refine aC fun R hR=>?_;have next:∀(vf:Nat→Nat→V) (Hd:Hp),aG Tp H Hd→a7 Hd Tp→WTab Hd D n rs vf→j4 Hd q n vf→R [some (.ref td),some (.ref Tp),some (.int (n:Int)),some (.ref lk),some (.ref D),some (.int (i:Int)),some (.int (j:Int)),some (.int (wy:Int))] Hd:=fun vf Hd od BE Wd Fd=>hR _ _ (by refine ⟨_,rfl,rfl,_,rfl,b7 (fun hb=>?_) (fun hb=>⟨_,_,_,_,rfl,od,BE,Wd,Fd⟩)⟩;refine aY ⟨_,rfl,_,rfl,td,Tp,q,rfl,tw.off od tc,hq,BE,fun v x d H2 o2 t2 nu sm=>?_⟩;obtain ⟨W2,F2⟩:=bG Wd Fd BE o2;obtain ⟨o3,t3,W3,F3⟩:=step hj hi od Wd Fd BE o2 t2 nu sm;exact ⟨_,rfl,_,rfl,D,_,_,_,rfl,rfl,.of W2.lst,ck hj,_,rfl,rs j,_,_,i,rfl,rfl,W2.at' j hj,by rw [bg,dj];exact i8 hi,⟨_,_,_,_,rfl,o3,t3,W3,F3⟩⟩)
    refine ⟨_,rfl,rfl,_,rfl,b7 (fun hb=>?_) (fun hb=>next vf H1 EY t1 W1 F1)⟩
    refine aY ⟨_,rfl,_,rfl,td,Tp,q,rfl,tw.off EY tc,hq,t1,fun v x d H2 o2 t2 nu sm=>?_⟩;obtain ⟨W2,F2⟩:=bG W1 F1 t1 o2;obtain ⟨o3,t3,W3,F3⟩:=step hi hj EY W1 F1 t1 o2 t2 nu sm;exact ⟨_,rfl,_,rfl,D,_,_,_,rfl,rfl,.of W2.lst,ck hi,_,rfl,rs i,_,_,j,rfl,rfl,W2.at' i hi,by rw [bg,dj];exact i8 hj,next _ _ o3 t3 W3 F3⟩
   ·rintro σ Hc ⟨vf,v5,v6,v7,rfl,oc,dW,Wc,Fc⟩
    exact hR _ _ ⟨_,rfl,kk D rs vf Hc oc dW nD kj Wc Fc⟩
theorem Xs:ba ["script","start","tape","told","size","order","links","table"] ["script","start"] (aH A2):=bF
theorem Xt(T:Txt K mg t):aV P w K mg base bK 7 t.qV t.u4 ["script","start"] (UL K):=by
 have S:=Xs;refine T.vX.bS S (fun _ _ _ s H vs _ _ hr h=>?_);obtain ⟨sc,ns,k,rfl,hS,aeC,kk⟩:=h
 refine ⟨_,(aj (putL 2 S.nd (aW (yo T) hr T.vQ T.lK.kp T.vP aI (aa (pv 0) (aa (pv 1) af))))
  (aj (putL 3 S.nd (aW (Xi T) hr T.Ll T.vT.kp T.Lj aI (aa (pv 2) af)))
  (aj (putL 4 S.nd (ax eQ ag (aW (iO T) hr T.fI T.dZ.kp T.fH aI (aa (pv 2) (aa ag af)))))
  (aj (putL 5 S.nd (aW (Xo T) hr T.Lr T.vW.kp T.Lq aI (aa (pv 2) (aa (pv 4) af))))
  (aj (putL 6 S.nd (aW (Xm T) hr T.Lp T.vV.kp T.Lo aI (aa (aW (yo T) hr T.vQ T.lK.kp T.vP aI (aa (pv 0) (aa (ax eQ (pv 1) ag) af))) (aa (pv 4) af))))
  (aj (putL 7 S.nd (aW (Xq T) hr T.Ln T.vU.kp T.Lm aI (aa (pv 3) (aa (aW (yo T) hr T.vQ T.lK.kp T.vP aI (aa (pv 0) (aa (ax eQ (pv 1) ag) af))) (aa (pv 4) (aa (pv 6) af))))))
  (ar (aT (eZ (aa (pv 3) (aa (pv 7) (aa (pv 5) (aa (aW (MZ T) hr T.Eg T.rA.kp T.Ef aI (aa (pv 3) (aa (aW (yo T) hr T.vQ T.lK.kp T.vP aI (aa (pv 0) (aa (ax eQ (pv 1) ag) af))) (aa (pv 4) af)))) af))))))))))))),?_⟩
 have join:∀{Ha Hb Hc:Hp} {T:Addr},ae Ha Hb→Ha T=none→aG T Hb Hc→ae Ha Hc:=fun{Ha Hb Hc T} s nT o b u e=>o b u (fun z=>by rw [z,nT] at e;cases e) (s _ _ e)
 refine aC fun _ hR=>aY ⟨_,rfl,_,rfl,sc,ns,k,rfl,hS,by lia,fun T1 H1 s1 M5 rM=>hR _ _ ?_⟩
 refine aC fun _ hR=>aY ⟨_,rfl,T1,rfl,rM,fun td q H2 o2 rN tw hq=>hR _ _ ?_⟩;refine aC fun _ hR=>aY ⟨_,rfl,T1,6,rfl,rN,by decide,by decide,fun d H3 d6 o3 mD=>⟨_,_,rfl,rfl,hR _ _ ?_⟩⟩
 obtain ⟨n,en⟩:∃n,n=1+d:=⟨_,rfl⟩;have eI:(1:Int)+(d:Int)=(n:Int):=by lia
 dsimp only [L2.start,wW,wX];rw [eI];refine aC fun _ hR=>aY ⟨_,rfl,_,rfl,T1,n,rfl,mD,by lia,fun od o H4 o4 M6 Xu rO ho=>hR _ _ ?_⟩
 have S4:ae H H4:=join s1 M5 (o2.trans (o3.trans o4));have tw4:gq H4 td q:=tw.off (o3.trans o4) rN;have Xv:H od=none:=none_of (join s1 M5 (o2.trans o3)) Xu;refine aC fun _ hR=>aY ⟨_,rfl,_,rfl,_,_,rfl,rfl,sc,ns,k+1,rfl,S4.seq hS,by lia,fun T2 H5 s5 Xw rP=>⟨_,rfl,T2,n,rfl,rP,by lia,fun lk us L H6 o6 Xx nlk wq hL bP hlen=>hR _ _ ?_⟩⟩
 have yt:ae H4 H6:=join s5 Xw o6;have S6:=S4.trans yt;refine aC fun _ hR=>aY ⟨_,rfl,_,rfl,_,rfl,_,_,rfl,rfl,sc,ns,k+2,rfl,S6.seq hS,by lia,fun T3 H7 s7 M7 Xy=>?_⟩
 refine ⟨_,rfl,_,rfl,td,T3,lk,q,n,us,L,rfl,(tw4.mono yt).mono s7,hq,Xy,by lia,(fun z=>by rw [z,M7] at wq;cases wq),s7 _ _ wq,hL.mono s7,bP,fun tab rs vf H8 o8 tc8 Xz kj Wt Ft=>hR _ _ ?_⟩
 have BF:ae H6 H8:=join s7 M7 o8;have S8:=S6.trans BF;refine gi ⟨_,rfl,_,rfl,_,rfl,_,rfl,_,rfl,_,rfl,_,_,rfl,rfl,sc,ns,k+3,rfl,S8.seq hS,by lia,fun T4 H9 s9 XA XB=>?_⟩
 refine ⟨_,rfl,td,T4,q,n,rfl,((tw4.mono yt).mono BF).mono s9,hq,XB,by lia,fun am ps rQ XC aeF XD rg yl EZ=>?_⟩
 have M8:ae H8 rQ:=join s9 XA XC;have XE:=S8.trans M8;refine ⟨by show 4≤sizeLine;decide,fun tp fe=>?_⟩
 have lM:ae rQ (upd rQ tp (.tup [.ref td,.ref tab,.ref od,.ref am])):=aA fe;have dI:upd rQ tp (.tup [.ref td,.ref tab,.ref od,.ref am]) tp=some (.tup [.ref td,.ref tab,.ref od,.ref am]):=au;generalize upd rQ tp (.tup [.ref td,.ref tab,.ref od,.ref am])=wx at lM dI ⊢;obtain ⟨vs,XF,jz,mC⟩:=id rg;have BG:=M8.trans lM;have ra:cE wx am n (fun i=>vs.getD i .aF):=by
  unfold cE;rw [lM _ _ XF]
  congr 2
  refine eX (by simp;lia) fun j g1 g2=>?_
  rw [fY,gX,getD_at g1]
 have na:∀i,i<n→∃x m,bh 1000 wx q ((fun i=>vs.getD i V.aF) i) x m∧lG q x m:=fun i hi=>by
  have g1:i<vs.length:=by lia
  have g2:i<ps.length:=by lia
  refine ⟨ps[i].1,ps[i].2,?_,EZ _ (gY g2)⟩;dsimp only;rw [getD_at g1];exact (mC i _ _ (cN g1) (cN g2)).mono lM
 have XG:j4 wx q n vf:=fun i j hi hj=>by obtain ⟨x,m,h1,h2⟩:=Ft i j hi hj;exact ⟨x,m,h1.mono BG,h2⟩
 obtain ⟨f,f1,f2,f3⟩:=UM XG na;exact kk tp td tab od am q n o rs vf _ f wx (XE.trans lM) dI (((tw4.mono yt).mono BF).mono BG) hq (by lia) (by lia) ⟨Wt.mono BG,BG _ _ (BF _ _ (yt _ _ rO)),ho,ra,f1,f2,f3⟩ (none_of (S6.trans s7) Xz) Xv (none_of (S8.trans s9) XD) fun i hi=>none_of (S6.trans s7) (kj i hi)
theorem XH:ba ["world","table","order","others","work","turn","place"] ["world","table","order"] (aH As):=bF
theorem M9(T:Txt K mg t):aV P w K mg base (cL P w) 8 t.ql t.uu ["world","table","order"] (Va t.aX t.bf t.bq):=by
 have S:=XH;have j_:=x_ (P:=P) (w:=w) (base:=base) T;obtain ⟨dv,ke,kg⟩:=T.v_;refine T.rn.sX S (fun vs H Q E h=>?_) (fun aZ A outer s H vs Q E hr h L=>?_);·rcases h with ⟨z,a,d,q,B,X,n,ai,o,M,D,rfl,_⟩ | ⟨z,a,d,q,B,m,ai,zs,rfl,_⟩ <;> rfl
 ·have yg:=hr.units
  have hu:=hr.sP
  refine ⟨_,(aj (putL 3 S.nd (aW (Wq T) hr T.Kq T.vw.kp T.Kp (i3 L) (aa (aW (V3 T) hr T.Kb T.vn.kp T.Ka (i3 L) (aa (pv 0) (aa (pv 1) af))) (aa (pv 2) af))))
   (aj (zH (i0:=4) (N:=["row"]) (ρ:=(fun σ=>[])) (jT [] rfl) rfl S.nd rfl (Or.inl rfl) (gc (pv 1)) (fun _ _ _=>.nil) (fun _ _ _=>(m7 (RJ (K:=K)) rfl T.wc boot_list (aa (pv 0) af))))
   (aj (eO (Tg L) rfl (tK rfl T.rB (aa (pv 2) af)) (mX rfl (fM (cj (i:=5) S.nd rfl (Or.inl rfl)) (fM (cj (i:=6) S.nd rfl (Or.inl rfl)) mW)))
    (aj (bT (bN (IA hu) (aB bJ (aB bJ (pv 4) (pv 6)) (pv 6)) (g6 (pv 0) T.dh T.oh j_ (hr.mono (by decide)) kg ke k9 (aa ag af))) (ar (aT (eZ (aa (pv 4) (aa (pv 3) (aa (ax eQ (pv 5) ag) af)))))) bZ)
   (ar (oU (aW (VR T) hr T.Ku T.vy.kp T.Kt aI (aa (pv 0) (aa (pv 4) (aa (pv 6) (aa (aB bJ (pv 3) (pv 6)) af)))))))))
   (ar (aT (eZ (aa (pv 4) (aa (pv 3) (aa jK af))))))))),?_⟩
  rcases h with h | h
  ·obtain ⟨z,a,d,q,B,X,n,ai,o,M,D,rfl,hw,hq,hT,BH,ln,n1,dH,wd,ed,ho,cF,kS,kF⟩:=h
   have lo:=eh ho;have JG:=i9 ho;have lt:∀zz∈dA n (cA ai) n,0≤zz.1∧zz.1<zz.2∧zz.2<(n:Int):=JH;have XI:Dw n (dA n (cA ai) n):=fun zz hz=>by have:=lt zz hz;exact ⟨this.1,by lia,by lia,this.2.2⟩
   have ns:Dx (dA n (cA ai) n):=fun zz hz=>by have:=lt zz hz;lia
   refine aC fun _ hR=>aY ⟨_,rfl,_,rfl,z,a,q,B,ai,n,rfl,hw,hq,hT,by lia,by lia,wd,fun ne=>absurd ln.symm ne,fun _ tp H1 s1 fe sh=>⟨_,rfl,tp,d,n,dA n (cA ai) n,o.map iN,rfl,sh,XI,ns,by lia,by rw [s1 _ _ ed,iR];rfl,by rw [bg];lia,fun no=>absurd (ho.map iN) no,fun o' ez kM H2 ot ls g s2 not M_ la c_=>hR _ _ ?_⟩⟩
   have eo:o'=o:=by
    have inj:∀{a b:List Nat},a.map iN=b.map iN→a=b:=fun{a b} e=>by
     have:=gU (List.map Int.toNat) e;rw [iR,iR] at this;have XJ:(Int.toNat ∘ iN)=id:=by funext x;exact fg x
     rwa [XJ,List.map_id,List.map_id] at this
    exact (inj ez).symm
   subst eo;have di:=s1.trans s2;obtain ⟨ra,vf,ea,er,num⟩:=TR (hT.mono di) ln wd;have gQ:((List.range n).map fun i=>V.ref (ra i)).length=n:=by rw [bg,dj]
   refine aC fun _ hR=>aY (pQ (xs:=(List.range n).map fun i=>V.ref (ra i)) (n:=n) gQ (fun R h=>⟨_,rfl,a,rfl,⟨_,.of ea⟩,h _ _ (ae.refl _) (nE (.of ea))⟩) (fB (by lia)) (fun _ i y Hx=>Hx y=some (.lst ((List.range n).map (vf i)))∧H2 y=none) ?_ ?_ ?_)
   ·intro D i y Ha Hb ys ⟨h1,h2⟩ hy e f
    exact ⟨f y _ hy h1,h2⟩
   ·intro D i x hx Hc R sc _ kc
    have hi:i<n:=by
     have:=(bV.mp hx).1
     rwa [gQ] at this
    have ex:x=.ref (ra i):=by rw [cw,je hi] at hx;exact (Option.some.inj hx).symm
    subst ex;exact ⟨_,rfl,ra i,_,rfl,.inl (.of (sc _ _ (er i hi))),fun l nl=>kc l _ (aA nl) nl ⟨_,au⟩ ⟨au,none_of sc nl⟩⟩
   ·intro wk rs H3 XM s3 inj hA XN
    refine hR _ _ ?_;have W3:WTab H3 wk n rs vf:=⟨XN,inj,fun i hi=>(hA i hi).2,fun i hi=>(hA i hi).1.1⟩;have kj:∀i,i<n→H2 (rs i)=none:=fun i hi=>(hA i hi).1.2;have iM:=di.trans s3;have F3:dr X H3 q n vf (sT M D o' 0) (sU M D o' 0):=fun i j hi hj=>by
     have e1:sT M D o' 0 i j=M i j:=by unfold sT;rw [aq ⟨b_ _,b_ _⟩];exact Dy
     have e2:sU M D o' 0 i j=D i:=by unfold sU;rw [aq ⟨b_ _,b_ _⟩];exact gu _
     have b:=cF.bd 0 i j (b_ _);rw [e1,e2] at b ⊢;exact tS ((num i j hi hj).mono s3) (cF.mm i j hi hj) (cF.dn i) b.1 b.2
    have nv:=xB hq;obtain ⟨dz,hz⟩:=id hw;have BI:∀{Hc:Hp},fb n rs H3 Hc→ae H2 Hc:=fun{Hc} oc b u e=>oc b u (fun i hi zz=>by rw [zz,kj i hi] at e;cases e) (s3 _ _ e)
    have sH:∀{Hc:Hp},fb n rs H3 Hc→ae H Hc:=fun{Hc} oc=>di.trans (BI oc);have XO:∀i,i<n→ot≠rs i:=fun i hi zz=>by have h:=la.1;rw [zz,kj i hi] at h;cases h
    have Na:∀i,i<n→∀j,j<n→ls j≠rs i:=fun i hi j hj zz=>by have h:=la.2 j hj;rw [zz,kj i hi] at h;cases h
    have XQ:∀i,i<n→z≠rs i:=fun i hi zz=>by have h:=hz;rw [zz,none_of di (kj i hi)] at h;cases h
    have pack:∀{Hc:Hp} {vf:Nat→Nat→V} {k:Nat},fb n rs H3 Hc→WTab Hc wk n rs vf→dr X Hc q n vf (sT M D o' k) (sU M D o' k)→DH H Hc q n X (dA n (cA ai) n) o' M D k wk ot rs vf ls g:=fun{Hc vf k} oc Wc Fc=>⟨Wc,⟨none_of di XM,fun i hi=>none_of di (kj i hi)⟩,Fc,⟨BI oc _ _ la.1,fun p hp=>BI oc _ _ (la.2 p hp)⟩,c_,fun i hi=>⟨XO i hi,Na i hi⟩⟩;refine aC fun _ hR=>⟨_,rfl,d,rfl,⟨_,.of (iM _ _ ed)⟩,?_⟩;refine IP (K:=K) (l:=d) (xs:=bU o') (fun k σ Hc=>∃(vf:Nat→Nat→V) (v5 v6:Option V),σ=[some (.ref z),some (.ref a),some (.ref d),some (.ref ot),some (.ref wk),v5,v6]∧fb n rs H3 Hc∧WTab Hc wk n rs vf∧dr X Hc q n vf (sT M D o' k) (sU M D o' k)∧de q M (cO o' k)) ⟨vf,_,_,rfl,fb.refl _ _ _,W3,F3,trivial⟩ (fun k σ Hc ⟨_,_,_,_,oc,_⟩=>.of (sH oc _ _ ed)) ?_ ?_
    ·rintro k x σ Hc Tt hx ⟨vf,v5,v6,rfl,oc,Wc,Fc,gd⟩ nT
     obtain ⟨p,hk,rfl⟩:=int_at hx;have kl:k<o'.length:=(bV.mp hk).1;have pk:o'[k]=p:=(bV.mp hk).2;have hp:p<n:=(cB ho).mp (gv hk);have ip:o'.idxOf p=k:=by rw [←pk];exact nH JG kl
     have BJ:ae Hc (upd Hc Tt (.tup [.int (k:Int),.int (p:Int)])):=aA nT;have eT:upd Hc Tt (.tup [.int (k:Int),.int (p:Int)]) Tt=some (.tup [.int (k:Int),.int (p:Int)]):=au;generalize upd Hc Tt (.tup [.int (k:Int),.int (p:Int)])=H4 at BJ eT ⊢;have E1:=oc.same BJ;have W4:=Wc.mono BJ;have F4:dr X H4 q n vf (sT M D o' k) (sU M D o' k):=fun i j hi hj=>(Fc i j hi hj).mono BJ;refine ⟨Tt,_,rfl,.of eT,rfl,_,_,rfl,_,_,rfl,rfl,?_⟩;have Nb:sT M D o' k p p=aJ M (cO o' k) (M p) p:=by unfold sT;rw [aq ⟨by lia,by lia⟩]
     obtain ⟨x,m,h1,h2,h3⟩:=F4 p p hp hp;have E2:=sH E1 _ _ hz;refine aC fun _ hR=>⟨_,rfl,_,rfl,wk,_,_,_,rfl,rfl,.of W4.lst,ck hp,_,rfl,rs p,_,_,_,rfl,rfl,.of (W4.at' p hp),ck hp,_,rfl,z,dz,_,rfl,E2,hJ (by decide +kernel),z,q,0,1,rfl,⟨dz,E2⟩,hq,dC.of_lt (by decide) (by decide),fun h=>absurd h nv,fun _ v0 H5 s5 rK=>?_⟩
     refine IK (h1.mono s5) (pP (B:=1000) (by decide) rK hq (.inl rfl)) ⟨_,rfl,b7 (fun hb=>?_) (fun hb=>?_)⟩
     ·have x0:x=0:=fh hb
      have BK:q∣aJ M (cO o' k) (M p) p:=by rw [←Nb];exact (zX hq ⟨x,m,h1,h2,h3⟩).mpr ⟨x,m,h1,x0⟩
      have yu:=E1.same s5;refine gi ⟨_,rfl,_,rfl,_,rfl,_,_,rfl,rfl,by show 3≤sizeLine;decide,fun tp fe=>kS k kl gd (by rw [pk];exact BK) tp wk ot _ rs ls vf g ((sH yu).trans (aA fe)) au (pack (yu.same (aA fe)) ((W4.mono s5).mono (aA fe)) fun i j hi hj=>((F4 i j hi hj).mono s5).mono (aA fe))⟩
     ·have x0:¬x=0:=fun zz=>hb (dc zz)
      have mi:¬q∣aJ M (cO o' k) (M p) p:=fun BK=>by rw [←Nb] at BK;obtain ⟨x',m',g1,g2⟩:=(zX hq ⟨x,m,h1,h2,h3⟩).mp BK;exact x0 ((JJ h1 g1).1.trans g2)
      refine hR _ _ ?_;have yu:=E1.same s5;have S5:=BI yu;have fJ:=TJ (L:=dA n (cA ai) n) (ms:=g p) (X:=X) hq ho hp ip gd mi cF.dn (fun a' b' ha hb ab na=>cF.zero a' b' ha hb (JI ha hb ab na)) (c_ p hp).2 cF.bd;have lk:=(c_ p hp).1;refine ⟨_,rfl,_,rfl,_,rfl,_,rfl,_,rfl,ot,_,_,_,rfl,rfl,.of (S5 _ _ la.1),ck hp,z,wk,ls p,q,n,X,p,rs,vf,g p,sT M D o' k,sU M D o' k,sT M D o' (k+1),sU M D o' (k+1),rfl,⟨dz,s5 _ _ E2⟩,hq,W4.mono s5,S5 _ _ (la.2 p hp),fun i hi=>⟨Na i hi p hp,XQ i hi⟩,hp,fun m' e8=>⟨lk.lt m' e8,fun zz=>by have:=lk.la m' e8;rw [zz] at this;lia⟩,lk.up.imp (fun h=>cV h),by lia,cF.X1,cF.fU,fun i j hi hj=>(F4 i j hi hj).mono s5,fun i j _ _=>cF.bd k i j (by lia),fJ,fun H6 XR off W6 F6=>?_⟩
      exact ⟨XR,_,_,rfl,fun b u nb e=>off b u nb (yu b u nb e),W6,F6,by rw [pW kl,pk];exact ⟨gd,mi⟩⟩
    ·rintro σ Hc ⟨vf,v5,v6,rfl,oc,Wc,Fc,gd⟩
     refine hR _ _ ?_;have ll:(bU o').length=n:=by unfold bU;rw [bg,lo]
     rw [ll] at Fc gd;refine gi ⟨_,rfl,_,rfl,by show 3≤sizeLine;decide,fun tp fe=>kF gd tp wk ot _ rs ls vf g ((sH oc).trans (aA fe)) au (pack (oc.same (aA fe)) (Wc.mono (aA fe)) fun i j hi hj=>(Fc i j hi hj).mono (aA fe))⟩
  ·obtain ⟨z,a,d,q,B,m,ai,zs,rfl,hw,hq,hT,l1,Nc,wd,bad⟩:=h
   rcases bad with ⟨ne,kE⟩ | ⟨em,ed,XS,no,kE⟩;·exact ⟨_,rfl,_,rfl,z,a,q,B,ai,m,rfl,hw,hq,hT,l1,Nc,wd,fun _ H1 s1=>kE H1 s1,fun e=>absurd e ne⟩
   ·have lt:∀zz∈dA m (cA ai) m,0≤zz.1∧zz.1<zz.2∧zz.2<(m:Int):=JH
    refine ⟨_,rfl,_,rfl,z,a,q,B,ai,m,rfl,hw,hq,hT,l1,Nc,wd,fun ne=>absurd em ne,fun _ tp H1 s1 fe sh=>⟨_,rfl,tp,d,m,dA m (cA ai) m,zs,rfl,sh,fun zz hz=>?_,fun zz hz=>?_,by lia,s1 _ _ ed,XS,fun _ H2 s2=>kE H2 (s1.trans s2),fun o ez ho=>absurd (by rw [ez];exact ho.map iN) no⟩⟩
    ·have:=lt zz hz
     exact ⟨this.1,by lia,by lia,this.2.2⟩
    ·have:=lt zz hz
     lia
theorem XT:ba ["world","table","order","aim","told","work","others","answer"] ["world","table","order","aim"] (aH Ax):=bF
theorem XU(T:Txt K mg t):aV P w K mg base (cL P w) 9 t.qt t.uy ["world","table","order","aim"] (xN t.aX t.bf t.bq):=by
 have S:=XT;refine T.vB.sX S (fun vs H Q E h=>?_) (fun aZ A outer s H vs Q E hr h L=>?_);·rcases h with ⟨z,a,d,e,q,B,X,n,ai,o,M,D,av,rfl,_⟩ | ⟨z,a,d,e,us,jw,rfl,_⟩ <;> rfl
 ·have yg:=hr.units
  have hu:=hr.sP
  refine ⟨_,(aj (oU (aW (WQ T) hr T.J6 T.vh.kp T.J5 (i3 L) (aa (bR fQ rfl T.fc fj (aa (pv 1) af)) (aa (pv 3) af))))
   (aj (putL 4 S.nd (aW (M9 T) hr T.Ea T.rn.kp T.D_ (i3 L) (aa (pv 0) (aa (pv 1) (aa (pv 2) af)))))
   (aj (putL 5 S.nd (aB bH (pv 4) ag))
   (aj (putL 6 S.nd (aB bH (pv 4) ag))
   (aj (bT (bN Hn (aB bH (pv 4) ag) jK) (ar (aT (eZ (aa cz (aa (aB bH (pv 4) ag) (aa (aW (WE T) hr T.Ky T.vA.kp T.Kx aI (aa (pv 0) (aa (pv 5) (aa (pv 6) (aa (pv 2) (aa (aB bH (pv 4) ag) af)))))) af)))))) bZ)
   (aj (putL 7 S.nd (aW (MT T) hr T.Ec T.rq.kp T.Eb aI (aa (pv 0) (aa (pv 5) (aa (pv 6) (aa (pv 2) (aa (aW (Wz T) hr T.Kw T.vz.kp T.Kv aI (aa (pv 0) (aa (pv 5) (aa (pv 6) (aa (pv 2) (aa (pv 3) af)))))) af)))))))
   (ar (aT (eZ (aa cz (aa (pv 7) (aa (bR (RF (K:=K) rfl) rfl T.LV boot_sum (aa (l_ (N:=["each"]) (ρ:=(fun σ=>[])) (jT [] rfl) rfl (gc (pv 6)) (fun _ _ _=>.nil) (fun _ _ _=>(aW (Wf T) hr T.Ks T.vx.kp T.Kr aI (aa (bR (II (K:=K)) rfl T.fc fj (aa (pv 0) af)) af)))) af)) af)))))))))))),?_⟩
  rcases h with h | h
  ·obtain ⟨z,a,d,e,q,B,X,n,ai,o,M,D,av,rfl,hw,hq,hT,BH,ln,n1,dH,wd,ed,ho,cF,am,kS,kO⟩:=h
   have lo:=eh ho;obtain ⟨jw,ea,lvT,_⟩:=id hT;have zero:∀a' b',a'<n→b'<n→a'≠b'→¬aL n (dA n (cA ai) n) a' b'→M a' b'=0:=fun a' b' ha hb ab na=>cF.zero a' b' ha hb (JI ha hb ab na);have gl:∀{g:Nat→List Nat},(∀p,p<n→iG n o p (g p)∧hV n (dA n (cA ai) n) o p (g p))→∀p,p<n→(g p).length≤n:=fun{g} c_ p hp=>a8 (Tf ho (c_ p hp).1) (by lia)
   refine aC fun _ hR=>⟨_,rfl,a,jw,rfl,.inl (.of ea),_,rfl,jw.length,e,_,rfl,am.row,fun ne=>absurd (by rw [bg,dj];lia) ne,fun _=>hR _ _ ?_⟩
   refine aC fun _ hR=>aY ⟨_,rfl,_,rfl,_,rfl,.inl ⟨z,a,d,q,B,X,n,ai,o,M,D,rfl,hw,hq,hT,BH,ln,n1,dH,wd,ed,ho,cF,fun k hk gd dv tp wk ot H1 rs ls vf g s1 dI pk=>hR _ _ ?_,fun gd tp wk ot H1 rs ls vf g s1 dI pk=>hR _ _ ?_⟩⟩
   ·clear hR
    have ht:o[k]<n:=(cB ho).mp (gY hk);have it:o.idxOf o[k]=k:=nH (i9 ho) hk;obtain ⟨dz,hz⟩:=id hw;refine aC fun _ hR=>aY ⟨_,rfl,tp,_,_,_,rfl,rfl,.of dI,rfl,hR _ _ ?_⟩;refine aC fun _ hR=>aY ⟨_,rfl,tp,_,_,_,rfl,rfl,.of dI,rfl,hR _ _ ?_⟩;refine aC fun _ hR=>⟨_,rfl,tp,_,_,_,rfl,rfl,.of dI,rfl,rfl,true,by simp,gg (gi ⟨_,rfl,tp,_,_,_,rfl,rfl,.of dI,rfl,_,rfl,_,rfl,_,rfl,_,rfl,_,rfl,tp,_,_,_,rfl,rfl,.of dI,rfl,z,wk,ot,d,q,X,n,k,o[k],dA n (cA ai) n,o,M,D,rs,ls,vf,g,rfl,⟨dz,s1 _ _ hz⟩,hq,dH,pk.tab,pk.mm,pk.gk,pk.ok,s1 _ _ ed,ho,ht,it,gd,cF.dn,zero,cF.X1,cF.fU,cF.bd,fun p l hp hl=>am.bt g (gl pk.ok) k o[k] p l (by lia) hp hl,fun p=>am.bm k o[k] p (by lia),fun r lv H2 s2 nr er F2=>⟨by show 3≤sizeLine;decide,fun E3 mE=>?_⟩⟩)⟩
    have di:=s1.trans s2;exact kS k hk gd dv E3 r lv _ (di.trans (aA mE)) (none_of s1 nr) (none_of di mE) au ((aA mE) _ _ er) fun i hi=>(F2 i hi).mono (aA mE)
   ·clear hR
    obtain ⟨dz,hz⟩:=id hw;refine aC fun _ hR=>aY ⟨_,rfl,tp,_,_,_,rfl,rfl,.of dI,rfl,hR _ _ ?_⟩;refine aC fun _ hR=>aY ⟨_,rfl,tp,_,_,_,rfl,rfl,.of dI,rfl,hR _ _ ?_⟩;refine aC fun _ hR=>⟨_,rfl,tp,_,_,_,rfl,rfl,.of dI,rfl,rfl,false,by simp,cK (hR _ _ ?_)⟩
    refine aC fun _ hR=>aY ⟨_,rfl,_,rfl,_,rfl,_,rfl,_,rfl,_,rfl,_,rfl,_,rfl,_,rfl,z,wk,ot,d,e,q,X,n,dA n (cA ai) n,o,M,D,rs,ls,vf,g,av,rfl,⟨dz,s1 _ _ hz⟩,hq,n1,dH,pk.tab,pk.mm,pk.gk,pk.ok,s1 _ _ ed,ho,s1 _ _ am.row,fun i hi=>(am.mm i hi).mono s1,gd,cF.dn,zero,cF.X1,cF.fU,cF.bd,am.bl,fun r1 XW H2 s2 nr1 XY F1=>?_⟩;refine ⟨z,wk,ot,d,r1,q,X,n,o,sT M D o n,sU M D o n,rs,ls,vf,g,XW,sL M o n n,sW M D o n,eA M (cO o n) n,fun _=>aM M (cO o n),rS M o g (cO o n) n fun _=>aM M (cO o n),fun p _=>D p*aM M (cO o (o.idxOf p))*aM M (cO o n),rfl,⟨dz,s2 _ _ (s1 _ _ hz)⟩,hq,dH,pk.tab.mono s2,fun i j hi hj=>(pk.mm i j hi hj).mono s2,fun i j _ _=>cF.bd n i j (aN _),⟨s2 _ _ pk.gk.1,fun p hp=>s2 _ _ (pk.gk.2 p hp)⟩,s2 _ _ (s1 _ _ ed),i9 ho,fun p hp=>⟨(cB ho).mp hp,fun j hj=>⟨(pk.ok p ((cB ho).mp hp)).1.lt j hj,fun zz=>by have:=(pk.ok p ((cB ho).mp hp)).1.la j hj;rw [zz] at this;lia⟩⟩,fun k' p om j hj zz=>?_,XY,F1,cF.X1,cF.fU,T7 hq ho gd cF.dn zero pk.ok (fun p l hp hl=>am.bo g (gl pk.ok) p l hp hl) am.bc,fun r lv H3 s3 nr er F3=>hR _ _ ?_⟩
    ·have EM:=(bV.mp om).1
     have ip:o.idxOf p=k':=by
      have:=nH (i9 ho) EM
      rwa [(bV.mp om).2] at this
     have pn:p<n:=(cB ho).mp (gv om);have WM:=(pk.ok p pn).1.la j hj;have:=((tR ho).mp zz).2;lia
    ·have iM:=s1.trans (s2.trans s3)
     have E4:tP H3 ot n ls g:=⟨s3 _ _ (s2 _ _ pk.gk.1),fun p hp=>s3 _ _ (s2 _ _ (pk.gk.2 p hp))⟩;have gQ:((List.range n).map fun p=>V.ref (ls p)).length=n:=by rw [bg,dj]
     refine gi ⟨_,rfl,?_⟩;dsimp only;refine Ud (IH (xs:=(List.range n).map fun p=>V.ref (ls p)) (fun R h=>⟨_,rfl,ot,rfl,⟨_,.of E4.1⟩,h _ _ (ae.refl _) (nE (.of E4.1))⟩) (by rw [gQ];exact fB (by lia)) (fun _ i y _=>y=.int (((g i).length:Int)*(g i).length+3*(g i).length+1)) (fun _ _ _ _ _ _ h _ _=>h) ?_ ?_)
     ·intro D' k x hx Hc R sc _ kc
      have hk:k<n:=by
       have:=(bV.mp hx).1
       rwa [gQ] at this
      have ex:x=.ref (ls k):=by rw [cw,je hk] at hx;exact (Option.some.inj hx).symm
      subst ex;have lg:=gl pk.ok k hk;refine ⟨_,rfl,ls k,_,rfl,.inl (.of (sc _ _ (E4.2 k hk))),(g k).length,by rw [bg];rfl,by lia,kc _ Hc (ae.refl _) rfl⟩
     ·intro D' ys Hc nD' sc mB wm XZ
      rw [gQ] at mB;have ey:ys=((List.range n).map fun i=>((g i).length:Int)*(g i).length+3*(g i).length+1).map V.int:=by
       refine eX (by simp [mB]) fun i h1 h2=>?_
       rw [fY,fY,gX];exact wm i _ (cN h1)
      have es:((List.range n).map fun i=>((g i).length:Int)*(g i).length+3*(g i).length+1).sum=((DF n g:Nat):Int):=by
       unfold DF JF;generalize List.range n=l;clear ey wm mB
       induction l with
       | nil=>rfl
       | cons x l ih=>rw [cQ,du,cQ,du,ih];push_cast;rfl
      refine ⟨D',_,rfl,.of (by rw [XZ,ey]),?_⟩
      rw [es];refine ⟨by show 3≤sizeLine;decide,fun E3 mE=>?_⟩
      have oj:=iM.trans sc;exact kO gd E3 r lv g _ (oj.trans (aA mE)) (none_of (s1.trans s2) nr) (none_of oj mE) pk.ok au ((aA mE) _ _ (sc _ _ er)) fun i hi=>((F3 i hi).mono sc).mono (aA mE)
  ·obtain ⟨z,a,d,e,us,jw,rfl,ee,ea,bad⟩:=h
   rcases bad with ⟨ne,kE⟩ | ⟨eq,no⟩;·exact ⟨_,rfl,a,jw,rfl,.inl (.of ea),_,rfl,jw.length,e,us,rfl,ee,fun _=>kE H (ae.refl _),fun h=>absurd h ne⟩
   ·refine aC fun _ hR=>⟨_,rfl,a,jw,rfl,.inl (.of ea),_,rfl,jw.length,e,us,rfl,ee,fun ne=>absurd eq ne,fun _=>hR _ _ ?_⟩
    exact ⟨_,rfl,_,rfl,_,rfl,.inr no⟩
theorem X0:ba ["world","table","order","told","turns"] ["world","table","order"] (aH AD):=bF
theorem X2(T:Txt K mg t):aV P w K mg base (cL P w) 9 t.qy t.uD ["world","table","order"] (DW t.aX t.bf t.bq):=by
 have S:=X0;refine T.vG.sX S (fun vs H Q E h=>?_) (fun aZ A outer s H vs Q E hr h L=>?_);·rcases h with ⟨z,a,d,q,B,X,n,ai,o,M,D,rfl,_⟩ | ⟨z,a,d,q,B,m,ai,zs,rfl,_⟩ <;> rfl
 ·have yg:=hr.units
  have hu:=hr.sP
  refine ⟨_,(aj (putL 3 S.nd (aW (M9 T) hr T.Ea T.rn.kp T.D_ (i3 L) (aa (pv 0) (aa (pv 1) (aa (pv 2) af)))))
   (aj (bT (bN Hn (aB bH (pv 3) ag) jK) (ar (aT jK)) bZ)
   (aj (putL 4 S.nd (aW (MF T) hr T.D9 T.rj.kp T.D8 aI (aa (pv 2) af)))
   (ar (aT (eZ (aa (aW (WX T) hr T.KJ T.vE.kp T.KI aI (aa (pv 0) (aa (aB bH (pv 3) ag) (aa (pv 4) af)))) (aa (aW (WZ T) hr T.KO T.vF.kp T.KN aI (aa (pv 0) (aa (aB bH (pv 3) ag) (aa (pv 4) af)))) af)))))))),?_⟩
  rcases h with h | h
  ·obtain ⟨z,a,d,q,B,X,n,ai,o,M,D,rfl,hw,hq,hT,BH,ln,n1,dH,wd,ed,ho,cF,BL,kS,kF⟩:=h
   refine aC fun _ hR=>aY ⟨_,rfl,_,rfl,_,rfl,.inl ⟨z,a,d,q,B,X,n,ai,o,M,D,rfl,hw,hq,hT,BH,ln,n1,dH,wd,ed,ho,cF,fun k hk gd dv tp wk ot H1 rs ls vf g s1 dI pk=>hR _ _ ?_,fun gd tp wk ot H1 rs ls vf g s1 dI pk=>hR _ _ ?_⟩⟩
   ·refine aC fun _ hR=>⟨_,rfl,tp,_,_,_,rfl,rfl,.of dI,rfl,rfl,true,by simp,gg ?_⟩
    exact kS k hk gd dv H1 s1
   ·clear hR
    have idx:∀{k},k<n→o.idxOf k<n:=fun{k} hk=>by have:=(dE ((cB ho).mpr hk)).1;have:=eh ho;lia
    have dz:∀j,j≤n→¬q∣aM M (cO o j):=fun j hj=>mh hq (mj gd hj);refine aC fun _ hR=>⟨_,rfl,tp,_,_,_,rfl,rfl,.of dI,rfl,rfl,false,by simp,cK (hR _ _ ?_)⟩
    refine aC fun _ hR=>aY ⟨_,rfl,d,n,o,rfl,⟨s1 _ _ ed,ho⟩,by lia,fun tn H2 s2 ntn et=>hR _ _ ?_⟩
    have di:=s1.trans s2;have Nd:=s2 _ _ dI;have Ng:=pk.tab.r.mono s2;have F2:dr X H2 q n vf (sT M D o n) (sU M D o n):=fun i j hi hj=>(pk.mm i j hi hj).mono s2;refine gi ⟨_,rfl,_,rfl,tp,_,_,_,rfl,rfl,.of Nd,rfl,_,rfl,z,wk,tn,q,X,n,o,rs,vf,lH M D o,nQ M D o,rfl,hw.mono di,hq,dH,ho,Ng,et,cF.X1,fun i j hi hj=>⟨(BL i j hi hj).1,(BL i j hi hj).2.1,e_ hq (cF.dn i) (dz _ (by have:=idx hj;lia))⟩,fun i j hi hj h=>?_,fun i j hi hj h=>UR hq ho gd hi hj h,fun i hi=>UQ hq ho hi,fun lo rl lf H3 s3 X3 X4 low wl=>?_⟩
    ·have:=F2 i j hi hj
     rwa [(JW hq ho hi hj h).1,(JW hq ho hi hj h).2] at this
    ·refine ⟨_,rfl,_,rfl,tp,_,_,_,rfl,rfl,.of (s3 _ _ Nd),rfl,_,rfl,z,wk,tn,q,X,n,o,rs,vf,p4 M o,tU M D o,rfl,hw.mono (di.trans s3),hq,dH,ho,Ng.mono s3,s3 _ _ et,cF.X1,fun i j hi hj=>⟨(BL i j hi hj).2.2.1,(BL i j hi hj).2.2.2,e_ hq (cF.dn i) (dz _ (by have:=idx hi;lia))⟩,fun i j hi hj h=>?_,fun i j hi hj h=>US ho hj h,fun up ru uf H4 s4 X5 X6 JY wu=>?_⟩
     ·have:=(F2 i j hi hj).mono s3
      rwa [(JX ho hi h).1,(JX ho hi h).2] at this
     ·refine ⟨by show 2≤sizeLine;decide,fun fd yd=>?_⟩
      have s5:ae H4 (upd H4 fd (.tup [.ref lo,.ref up])):=aA yd;have oj:=di.trans (s3.trans s4);exact kF gd fd lo up rl ru lf uf _ (oj.trans s5) ⟨au,(low.mono s4).mono s5,JY.mono s5,fun i j hi hj=>((wl i j hi hj).mono s4).mono s5,fun i j hi hj=>(wu i j hi hj).mono s5,none_of oj yd,none_of di X3,none_of (di.trans s3) X5,fun i hi=>⟨none_of di (X4 i hi),none_of (di.trans s3) (X6 i hi)⟩⟩
  ·obtain ⟨z,a,d,q,B,m,ai,zs,rfl,_⟩:=id h
   exact ⟨_,rfl,_,rfl,_,rfl,.inr h⟩
theorem X7:ba ["tape","order","size","some","at","twice"] ["tape","order"] (aH A5):=bF
theorem X8(T:Txt K mg t):aV P w K mg base bK 2 t.qY t.u7 ["tape","order"] Ve:=by
 have S:=X7;have ki:=iO (P:=P) (w:=w) (base:=base) T;refine T.vZ.bS S (fun _ _ _ s H vs Q _ hr h=>?_);obtain ⟨Tp,od,n,o,rfl,tc,BM,rO,ho,n1,n9,kk⟩:=h
 refine ⟨_,(@aj _ _ _ _ _ (@gL _ _ 2 _ _ _ _ (by rfl) (by first | exact .inl rfl | exact .inr rfl | assumption) S.nd rfl (Or.inl rfl) (bR fQ rfl T.fc fj (@aw _ _ _ _ _ (by rfl) (pv 1) af)))
   (@aj _ _ _ _ _ (@gL _ _ 3 _ _ _ _ (by rfl) (by first | exact .inl rfl | exact .inr rfl | assumption) S.nd rfl (Or.inl rfl) (@cC _ _ _ _ (@aw _ _ _ _ _ (by rfl) (@gH _ _ _ _ _ _ _ _ _ _ gJ (pv 1) (gG ag) gF) (@aw _ _ _ _ _ (by rfl) (@ax _ _ _ _ _ _ _ _ fR (pv 1) (@gH _ _ _ _ _ _ _ _ _ _ gJ (pv 1) gF (gG ag))) (@aw _ _ _ _ _ (by rfl) (@ax _ _ _ _ _ _ _ _ fR (@gH _ _ _ _ _ _ _ _ _ _ gJ (pv 1) gF (gG (@m4 _ _ _ _ _ _ m6 ag))) (@cC _ _ _ _ (@aw _ _ _ _ _ (by rfl) (pv 2) af))) (@aw _ _ _ _ _ (by rfl) (@ax _ _ _ _ _ _ _ _ fR (@gH _ _ _ _ _ _ _ _ _ _ gJ (pv 1) gF (gG (@m4 _ _ _ _ _ _ m6 ag))) (@cC _ _ _ _ (@aw _ _ _ _ _ (by rfl) (@m4 _ _ _ _ _ _ m6 ag) af))) (@aw _ _ _ _ _ (by rfl) (@cC _ _ _ _ af) (@aw _ _ _ _ _ (by rfl) (@ax _ _ _ _ _ _ _ _ fR (pv 1) (@cC _ _ _ _ (@aw _ _ _ _ _ (by rfl) (pv 2) af))) af))))))))
   (@aj _ _ _ _ _ (@gL _ _ 3 _ _ _ _ (by rfl) (by first | exact .inl rfl | exact .inr rfl | assumption) S.nd rfl (Or.inl rfl) (@ax _ _ _ _ _ _ _ _ fR (pv 3) (@cC _ _ _ _ (@aw _ _ _ _ _ (by rfl) (@ax _ _ _ _ _ _ _ _ fR (@ax _ _ _ _ _ _ _ _ fR (@gH _ _ _ _ _ _ _ _ _ _ gJ (pv 1) gF (gG (@m4 _ _ _ _ _ _ m6 ag))) (@gH _ _ _ _ _ _ _ _ _ _ gJ (pv 1) gF (gG ag))) (@cC _ _ _ _ (@aw _ _ _ _ _ (by rfl) (@ax _ _ _ _ _ _ _ _ eQ (pv 2) ag) af))) (@aw _ _ _ _ _ (by rfl) (@ax _ _ _ _ _ _ _ _ fR (@cC _ _ _ _ (@aw _ _ _ _ _ (by rfl) (@ax _ _ _ _ _ _ _ _ OQ ag ag) af)) (@gH _ _ _ _ _ _ _ _ _ _ gJ (pv 1) (gG ag) gF)) af)))))
   (@aj _ _ _ _ _ (@gL _ _ 4 _ _ _ _ (by rfl) (by first | exact .inl rfl | exact .inr rfl | assumption) S.nd rfl (Or.inl rfl) (d9 ki (hr.mono (by decide)) rfl T.fI T.dZ.kp T.fH .nil aI (@aw _ _ _ _ _ (by rfl) (pv 0) (@aw _ _ _ _ _ (by rfl) (pv 2) af))))
   (@aj _ _ _ _ _ (@bT _ _ _ _ _ _ _ _ (@jL _ _ _ _ _ _ _ _ sM (pv 2) ag (iV _)) (@aj _ _ _ _ _ (@gL _ _ 5 _ _ _ _ (by rfl) (by first | exact .inl rfl | exact .inr rfl | assumption) S.nd rfl (Or.inl rfl) (@ax _ _ _ _ _ _ _ _ fR (@ax _ _ _ _ _ _ _ _ fR (@gH _ _ _ _ _ _ _ _ _ _ gJ (pv 1) gF (gG (pv 4))) (@cC _ _ _ _ (@aw _ _ _ _ _ (by rfl) (@jR _ _ _ _ _ _ _ bJ (pv 1) (@ax _ _ _ _ _ _ _ _ k6 (pv 4) ag) (fun _ _=>rfl)) af))) (@gH _ _ _ _ _ _ _ _ _ _ gJ (pv 1) (gG (@ax _ _ _ _ _ _ _ _ eQ (pv 4) ag)) gF)))
   (@ar _ _ _ (@gL _ _ 3 _ _ _ _ (by rfl) (by first | exact .inl rfl | exact .inr rfl | assumption) S.nd rfl (Or.inl rfl) (@ax _ _ _ _ _ _ _ _ fR (pv 3) (@cC _ _ _ _ (@aw _ _ _ _ _ (by rfl) (pv 5) (@aw _ _ _ _ _ (by rfl) (pv 5) (@aw _ _ _ _ _ (by rfl) (@ax _ _ _ _ _ _ _ _ fR (@ax _ _ _ _ _ _ _ _ fR (@gH _ _ _ _ _ _ _ _ _ _ gJ (pv 1) gF (gG (pv 4))) (@cC _ _ _ _ (@aw _ _ _ _ _ (by rfl) (pv 2) af))) (@gH _ _ _ _ _ _ _ _ _ _ gJ (pv 1) (gG (@ax _ _ _ _ _ _ _ _ eQ (pv 4) ag)) gF)) af)))))))) bZ)
   (@ar _ _ _ (@aT _ _ _ _ (@jR _ _ _ _ _ _ _ bJ (pv 3) (d9 ki (hr.mono (by decide)) rfl T.fI T.dZ.kp T.fH .nil aI (@aw _ _ _ _ _ (by rfl) (pv 0) (@aw _ _ _ _ _ (by rfl) (bR fQ rfl T.fc fj (@aw _ _ _ _ _ (by rfl) (pv 3) af)) af))) (fun _ _=>rfl))))))))),?_⟩
 have lo:=eh ho;have ez:bU o=(o.map iN).map V.int:=by unfold bU;rw [iR];rfl
 obtain ⟨zo,E5⟩:∃zo,zo=o.map iN:=⟨_,rfl⟩;have lz:zo.length=n:=by rw [E5,bg,lo]
 have bz:∀z∈zo,0≤z∧z<(n:Int):=fun z hz=>by rw [E5] at hz;obtain ⟨k,hk,e⟩:=jG.mp hz;have:=(cB ho).mp hk;rw [←e];show 0≤(k:Int)∧(k:Int)<n;lia
 rw [ez,←E5] at rO;have mF:Ab fun Hx:Hp=>Hx od=some (.lst (zo.map V.int))∧a7 Hx Tp:=fun s e=>⟨s _ _ e.1,e.2.mono s⟩;have hF:∀Hx:Hp,(fun Hx:Hp=>Hx od=some (.lst (zo.map V.int))∧a7 Hx Tp) Hx→Hx od=some (.lst (zo.map V.int)):=fun _ e=>e.1;have tF:∀Hx:Hp,(fun Hx:Hp=>Hx od=some (.lst (zo.map V.int))∧a7 Hx Tp) Hx→a7 Hx Tp:=fun _ e=>e.2;refine aC fun _ hR=>aY ⟨_,rfl,od,_,rfl,.inl (.of rO),hR _ _ ?_⟩;rw [bg,lz];have dl:(zo.map V.int).dropLast=zo.dropLast.map V.int:=List.map_dropLast.symm;have Nh:∀{σ:St} {i:Nat} {te:TO},σ[i]?=some (some (.ref od))→(∀(R:Option Int→Hp→Prop) (H:Hp),R (some 1) H→te σ H R)→LE Tp (fun Hx:Hp=>Hx od=some (.lst (zo.map V.int))∧a7 Hx Tp) σ (pb (m8 K) (jJ i) te sQ) (zo.drop 1):=fun hσ ht=>xO tF hσ hF ht (fun R H r=>r) (Jq zo 1 (by lia))
 have slt:∀{σ:St} {i:Nat} {te:TO},σ[i]?=some (some (.ref od))→(∀(R:Option Int→Hp→Prop) (H:Hp),R (some 1) H→te σ H R)→LE Tp (fun Hx:Hp=>Hx od=some (.lst (zo.map V.int))∧a7 Hx Tp) σ (pb (m8 K) (jJ i) sQ te) (zo.take 1):=fun hσ ht=>xO tF hσ hF (fun R H r=>r) ht (Jp zo 1);have E6:∀{σ:St} {i:Nat} {te:TO},σ[i]?=some (some (.ref od))→(∀(R:Option Int→Hp→Prop) (H:Hp),R (some (-1)) H→te σ H R)→LE Tp (fun Hx:Hp=>Hx od=some (.lst (zo.map V.int))∧a7 Hx Tp) σ (pb (m8 K) (jJ i) sQ te) zo.dropLast:=fun hσ ht=>xO tF hσ hF (fun R H r=>r) ht (by rw [RS,dl])
 have vr:∀{σ:St} {i:Nat},σ[i]?=some (some (.ref od))→LE Tp (fun Hx:Hp=>Hx od=some (.lst (zo.map V.int))∧a7 Hx Tp) σ (jJ i) zo:=fun hσ=>DX hσ hF BM;have bn:¬(0≤(n:Int)∧(n:Int)<(n:Int)):=by lia
 have Rj:(zo.take 1).length=1:=by rw [jc];lia
 have Ni:(zo.drop 1).length=n-1:=by rw [oF];lia
 have BN:zo.dropLast.length=n-1:=by rw [List.length_dropLast];lia
 refine aC fun _ hR=>aY (ll (T:=Tp) (F:=fun Hx:Hp=>Hx od=some (.lst (zo.map V.int))∧a7 Hx Tp) (n:=n) (m:=6) ?_ (by decide) ⟨rO,tc⟩ fun l1 X9 H1 nl1 s1 e1 X_ b1=>hR _ _ ?_)
 ·refine j8 mF ?_ (j8 mF ?_ (j8 mF ?_ (j8 mF ?_ (j8 mF ?_ (j8 mF ?_ DY)))))
  ·exact j7 (Nh rfl fun R H r=>⟨1,rfl,r⟩) (by lia) (DZ (by lia))
  ·exact j7 (j6 tF mF (vr rfl) (slt rfl fun R H r=>⟨1,rfl,r⟩) (by lia)) (by rw [cR];lia) (DZ (by rw [cR];lia))
  ·exact j7 (j6 tF mF (E6 rfl fun R H r=>⟨1,rfl,-1,rfl,r⟩) (p5 tF (z:=(n:Int)) fun R H f r=>⟨_,rfl,r⟩) (by rw [BN];simp;lia)) (by rw [cR,BN];simp;lia) (tX (z:=(n:Int)) (by simp) bn)
  ·exact j7 (j6 tF mF (E6 rfl fun R H r=>⟨1,rfl,-1,rfl,r⟩) (p5 tF (z:=-1) fun R H f r=>⟨1,rfl,r⟩) (by rw [BN];simp;lia)) (by rw [cR,BN];simp;lia) (tX (z:=-1) (by simp) (by lia))
  ·exact j7 (le_nil tF) (by decide) (DZ (by simp;lia))
  ·exact j7 (j6 tF mF (vr rfl) (p5 tF (z:=(n:Int)) fun R H f r=>⟨_,rfl,r⟩) (by simp;lia)) (by rw [cR];simp;lia) (tX (z:=(n:Int)) (by simp) bn)
 refine aC fun _ hR=>aY (JZ (T:=Tp) (F:=fun Hx:Hp=>Hx od=some (.lst (zo.map V.int))∧a7 Hx Tp) (n:=n) (m:=2) (m0:=6) (l0:=l1) (tW:=X9) ?_ (by decide) ⟨s1 _ _ rO,tc.mono s1⟩ e1 X_ (by decide) b1 rfl fun l2 E7 H2 Ya s2 e2 aeL b2=>hR _ _ ?_)
 ·refine j8 mF ?_ (j8 mF ?_ DY)
  ·exact j7 (j6 tF mF (j6 tF mF (E6 rfl fun R H r=>⟨1,rfl,-1,rfl,r⟩) (slt rfl fun R H r=>⟨1,rfl,r⟩) (by lia)) (p5 tF (z:=(n:Int)+3) fun R H f r=>⟨_,rfl,_,_,rfl,rfl,r⟩) (by rw [cR];simp;lia)) (by rw [cR,cR];simp;lia) (tX (z:=(n:Int)+3) (by simp) (by lia))
  ·exact j7 (j6 tF mF (p5 tF (z:=10 ^ Int.toNat 20) fun R H f r=>⟨_,_,rfl,rfl,⟨by decide,by decide,by decide⟩,r⟩) (Nh rfl fun R H r=>⟨1,rfl,r⟩) (by rw [Ni];simp;lia)) (by rw [cR,Ni];simp;lia) (tX (z:=10 ^ Int.toNat 20) (yB _ (iu.mpr rfl)) (fun h=>by
    have h2:=h.2;have e:(10:Int) ^ Int.toNat 20=100000000000000000000:=by decide
    rw [e] at h2;lia))
 have di:=s1.trans s2;refine aC fun _ hR=>aY ⟨_,rfl,_,rfl,Tp,n,rfl,tc.mono di,n1,by lia,fun at' H3 hat o3 mD=>hR _ _ ?_⟩
 have E8:aG Tp H H3:=(aG.of di).trans o3;have Nj:l2≠Tp:=(tc.mono s1).ne Ya;have b3:∀v∈E7,iK Tp n H3 v:=fun v hv=>(b2 v hv).off o3;have e3:=o3 _ _ Nj e2;have Nk:=E8 _ _ BM rO;refine aC fun R hR=>?_;have fin:∀(l:Addr) (vs:List V) (Hx:Hp) (v5:Option V),aG Tp H Hx→a7 Hx Tp→l≠Tp→Hx l=some (.lst vs)→1≤vs.length→vs.length≤20→(∀v∈vs,iK Tp n Hx v)→R [some (.ref Tp),some (.ref od),some (.int (n:Int)),some (.ref l),some (.int (at':Int)),v5] Hx:=fun l vs Hx v5 ox tx lT el h1 h20 bad=>hR _ _ (by
  refine gi ⟨_,rfl,_,rfl,_,rfl,l,vs,rfl,.inl (.of el),Tp,vs.length,rfl,tx,h1,by lia,fun d Hy hd oy ty=>?_⟩
  have ey:=oy _ _ lT el;have hb:=(bad vs[d] (gY hd)).off oy;exact ⟨l,vs,_,vs[d],rfl,rfl,.of ey,jQ (cN hd),kk _ Hy (ox.trans oy) ty hb⟩)
 simp only [wW,wX,L2.start];refine ⟨_,rfl,_,_,rfl,rfl,_,rfl,b7 (fun hb=>?_) (fun hb=>fin l2 E7 H3 _ E8 mD Nj e3 (by lia) (by lia) b3)⟩
 have n2:1<n:=by have:=fh hb;lia
 obtain ⟨z,Yb,lL⟩:∃z:Int,gI (zo.map V.int) ((at':Int)-1)=some (.int z)∧¬(zo.take at'++[z]++zo.drop (at'+1)).Nodup:=by
  by_cases z0:at'=0
  ·subst z0
   have hl:n-1<zo.length:=by lia
   refine ⟨zo[n-1],?_,fun nd=>?_⟩
   ·unfold gI k8
    rw [bg,lz,ak (by lia),aq (by lia),show (((0:Nat):Int)-1+(n:Int)).toNat=n-1 by lia]
    show (zo.map V.int)[n-1]?=_;rw [cw,cN hl];rfl
   ·rw [List.take_zero,List.nil_append,List.singleton_append,jC] at nd
    refine nd.1 (gv (i:=n-2) ?_);rw [List.getElem?_drop,bV];exact ⟨by lia,by congr 1;lia⟩
  ·have hl:at'-1<zo.length:=by lia
   refine ⟨zo[at'-1],?_,fun nd=>?_⟩
   ·rw [show (at':Int)-1=((at'-1:Nat):Int) by lia]
    exact jQ (by rw [cw,cN hl];rfl)
   ·rw [yU] at nd
    have nd:=nd.1;rw [yU] at nd;refine nd.2.2 zo[at'-1] (gv (i:=at'-1) ?_) zo[at'-1] (iu.mpr rfl) rfl;rw [List.getElem?_take,aq (by lia),cN hl]
 have f9:∀{σ:St} {i:Nat} {te:TO},σ[i]?=some (some (.ref od))→(∀(R:Option Int→Hp→Prop) (H:Hp),R (some (at':Int)) H→te σ H R)→LE Tp (fun Hx:Hp=>Hx od=some (.lst (zo.map V.int))∧a7 Hx Tp) σ (pb (m8 K) (jJ i) sQ te) (zo.take at'):=fun hσ ht=>xO tF hσ hF (fun R H r=>r) ht (Jp zo at');have Nl:∀{σ:St} {i:Nat} {te:TO},σ[i]?=some (some (.ref od))→(∀(R:Option Int→Hp→Prop) (H:Hp),R (some ((at':Int)+1)) H→te σ H R)→LE Tp (fun Hx:Hp=>Hx od=some (.lst (zo.map V.int))∧a7 Hx Tp) σ (pb (m8 K) (jJ i) te sQ) (zo.drop (at'+1)):=fun hσ ht=>xO tF hσ hF ht (fun R H r=>r) (by
  have:=Jq zo (at'+1) (by lia)
  rw [←this]
  push_cast
  rfl)
 have lta:(zo.take at').length=at':=by rw [jc];lia
 have lda:(zo.drop (at'+1)).length=n-(at'+1):=by rw [oF];lia
 refine aC fun _ yv=>aY ((j6 tF mF (j6 tF mF (f9 rfl fun R H r=>⟨_,rfl,_,rfl,r⟩) (p5 tF (z:=z) fun R H f r=>⟨_,rfl,_,rfl,_,_,rfl,rfl,od,_,_,_,rfl,rfl,.of f.1,Yb,r⟩) (by simp;lia)) (Nl rfl fun R H r=>⟨_,rfl,_,_,rfl,rfl,_,rfl,r⟩) (by rw [cR];simp;lia)) H3 _ ⟨Nk,mD⟩ fun tw H4 s4 Nm Nn=>yv _ _ ?_)
 have bad:¬gN (zo.take at'++[z]++zo.drop (at'+1)) n:=Vd lL;obtain ⟨tl,Np⟩:∃tl,tl=zo.take at'++[z]++zo.drop (at'+1):=⟨_,rfl⟩;have ltl:tl.length=n:=by rw [Np,cR,cR];simp;lia
 rw [←Np] at Nn bad;have E9:Ab fun Hx:Hp=>(Hx od=some (.lst (zo.map V.int))∧a7 Hx Tp)∧Hx tw=some (.lst (tl.map V.int)):=fun s e=>⟨⟨s _ _ e.1.1,e.1.2.mono s⟩,s _ _ e.2⟩;have tF2:∀Hx:Hp,(fun Hx:Hp=>(Hx od=some (.lst (zo.map V.int))∧a7 Hx Tp)∧Hx tw=some (.lst (tl.map V.int))) Hx→a7 Hx Tp:=fun _ e=>e.1.2;have wk:∀{σ:St} {te:TE} {zs:List Int},LE Tp (fun Hx:Hp=>Hx od=some (.lst (zo.map V.int))∧a7 Hx Tp) σ te zs→LE Tp (fun Hx:Hp=>(Hx od=some (.lst (zo.map V.int))∧a7 Hx Tp)∧Hx tw=some (.lst (tl.map V.int))) σ te zs:=fun h H Q f k=>h H Q f.1 k;refine aY (JZ (T:=Tp) (F:=fun Hx:Hp=>(Hx od=some (.lst (zo.map V.int))∧a7 Hx Tp)∧Hx tw=some (.lst (tl.map V.int))) (n:=n) (m:=3) (m0:=8) (l0:=l2) (tW:=E7) ?_ (by decide) ⟨⟨s4 _ _ Nk,mD.mono s4⟩,Nn⟩ (s4 _ _ e3) (by lia) (by decide) (fun v hv=>(b3 v hv).mono s4) rfl fun l5 Yc H5 Yd s5 e5 aeS b5=>?_)
 ·refine j8 E9 ?_ (j8 E9 ?_ (j8 E9 ?_ DY))
  ·exact j7 (DX rfl (fun Hx e=>e.2) Nm) (by lia) bad
  ·exact j7 (DX rfl (fun Hx e=>e.2) Nm) (by lia) bad
  ·exact j7 (wk (j6 tF mF (j6 tF mF (f9 rfl fun R H r=>⟨_,rfl,_,rfl,r⟩) (p5 tF (z:=(n:Int)) fun R H f r=>⟨_,rfl,r⟩) (by simp;lia)) (Nl rfl fun R H r=>⟨_,rfl,_,_,rfl,rfl,_,rfl,r⟩) (by rw [cR];simp;lia))) (by rw [cR,cR];simp;lia) (tX (z:=(n:Int)) (by simp) bn)
 ·have Nq:=s4.trans s5
  exact fin l5 Yc H5 _ (E8.trans (aG.of Nq)) (mD.mono Nq) ((mD.mono s4).ne Yd) e5 (by lia) (by lia) b5
theorem Ye:ba ["told","tape","table","row"] ["told","tape","table"] (aH A6):=bF
theorem Yf(T:Txt K mg t):aV P w K mg base bK 5 t.qZ t.u9 ["told","tape","table"] Vf:=by
 have S:=Ye;have ki:=iO (P:=P) (w:=w) (base:=base) T;have Yg:=EW (P:=P) (w:=w) (base:=base) T;have Yh:=MZ (P:=P) (w:=w) (base:=base) T;refine T.v8.bS S (fun _ _ _ _ H _ _ _ hr h=>?_);obtain ⟨td,Tp,tab,q,n,rt,vf,f,rfl,tw,hq,tc,hT,wz,km,num,n1,n9,kk⟩:=h
 refine ⟨_,(@aj _ _ _ _ _ (@gL _ _ 3 _ _ _ _ (by rfl) (by first | exact .inl rfl | exact .inr rfl | assumption) S.nd rfl (Or.inl rfl) (d9 Yh (hr.mono (by decide)) rfl T.Eg T.rA.kp T.Ef .nil aI (@aw _ _ _ _ _ (by rfl) (pv 0) (@aw _ _ _ _ _ (by rfl) (pv 1) (@aw _ _ _ _ _ (by rfl) (bR fQ rfl T.fc fj (@aw _ _ _ _ _ (by rfl) (@jR _ _ _ _ _ _ _ bJ (pv 2) ag (fun _ _=>rfl)) af)) af)))))
   (@aj _ _ _ _ _ (@bT _ _ _ _ _ _ _ _ (PW.pt (@pw_or _ _ _ _ _ _ _ (@jL _ _ _ _ _ _ _ _ fP (bR fQ rfl T.fc fj (@aw _ _ _ _ _ (by rfl) (pv 2) af)) ag (iV _)) (@pw_or1 _ _ _ _ (@jL _ _ _ _ _ _ _ _ fP (d9 ki (hr.mono (by decide)) rfl T.fI T.dZ.kp T.fH .nil aI (@aw _ _ _ _ _ (by rfl) (pv 1) (@aw _ _ _ _ _ (by rfl) ag af))) ag (iV _))))) (@ar _ _ _ (@aT _ _ _ _ (@jR _ _ _ _ _ _ _ bJ (@cC _ _ _ _ (@aw _ _ _ _ _ (by rfl) (@ax _ _ _ _ _ _ _ _ fR (pv 2) (@cC _ _ _ _ (@aw _ _ _ _ _ (by rfl) (pv 3) af))) (@aw _ _ _ _ _ (by rfl) (l_ (N:=["line","told"]) (ρ:=(fun σ=>[σ[0]?.join])) ⟨rfl,rfl,by decide +kernel,by decide +kernel,(List.forall_mem_cons.mpr ⟨rfl,(yK _)⟩),zt (by rfl),rfl,by decide +kernel,rfl,(fun σ j v h=>match j,h with | 0,h=>⟨0,_,rfl,rfl,join_some h,Or.inr (Or.inl rfl),.inl rfl,.inl rfl⟩ | j+1,h=>by cases h),(fun _ _=>rfl)⟩ rfl (gc (pv 2)) (fun _ _ _=>.nil) (fun _ _ _=>(@ax _ _ _ _ _ _ _ _ fR (pv 0) (@cC _ _ _ _ (@aw _ _ _ _ _ (by rfl) (d9 Yg (hr.mono (by decide)) rfl T.Bh T.n8.kp T.Bg .nil aI (@aw _ _ _ _ _ (by rfl) (pv 1) af)) af))))) af))) (d9 ki (hr.mono (by decide)) rfl T.fI T.dZ.kp T.fH .nil aI (@aw _ _ _ _ _ (by rfl) (pv 1) (@aw _ _ _ _ _ (by rfl) ag af))) (fun _ _=>rfl)))) bZ)
   (@ar _ _ _ (@aT _ _ _ _ (@jR _ _ _ _ _ _ _ bJ (@cC _ _ _ _ (@aw _ _ _ _ _ (by rfl) (@gH _ _ _ _ _ _ _ _ _ _ gJ (pv 2) (gG ag) gF) (@aw _ _ _ _ _ (by rfl) (l_ (N:=["line"]) (ρ:=(fun σ=>[])) ⟨rfl,rfl,by decide +kernel,by decide +kernel,(yK _),zt (by rfl),rfl,by decide +kernel,rfl,(fun σ j v h=>match j,h with | j,h=>by cases h),(fun _ _=>rfl)⟩ rfl (gc (pv 2)) (fun _ _ _=>.nil) (fun _ _ _=>(@gH _ _ _ _ _ _ _ _ _ _ (R5 (K:=K)) (pv 0) (gG ag) gF))) af))) (d9 ki (hr.mono (by decide)) rfl T.fI T.dZ.kp T.fH .nil aI (@aw _ _ _ _ _ (by rfl) (pv 1) (@aw _ _ _ _ _ (by rfl) ag af))) (fun _ _=>rfl)))))),?_⟩
 have gQ:∀{m:Nat} (g:Nat→V),((List.range m).map g).length=m:=fun g=>by rw [bg,dj]
 refine aC fun _ hR=>aY ⟨_,rfl,_,rfl,_,rfl,tab,_,_,_,rfl,rfl,.of hT.lst,ck n1,rt 0,_,rfl,.inl (.of (hT.at' 0 n1)),?_⟩;rw [gQ];refine ⟨td,Tp,q,n,rfl,tw,hq,tc,by lia,fun dw ps H1 o1 rM Yi rg yl EZ=>hR _ _ ?_⟩
 have BO:dw≠Tp:=tc.ne Yi;obtain ⟨us,Nr,Yj,s_⟩:=id rg;obtain ⟨rv,fr,er,nr⟩:∃(rv:Nat→V) (fr:Nat→Int×Int),cE H1 dw n rv∧∀j,j<n→bh 1000 H1 q (rv j) (fr j).1 (fr j).2:=by
  refine ⟨fun j=>us.getD j .aF,fun j=>ps.getD j (0,1),?_,fun j hj=>?_⟩
  ·unfold cE
   rw [Nr]
   congr 2
   refine eX (by simp;lia) fun j g1 g2=>?_
   rw [fY,gX,getD_at g1]
  ·have g1:j<us.length:=by lia
   have g2:j<ps.length:=by lia
   try dsimp only
   rw [getD_at g1,getD_at g2];exact s_ j _ _ (cN g1) (cN g2)
 clear rg s_ Nr Yj EZ yl;refine aC fun _ hR=>⟨_,rfl,tab,_,rfl,.inl (.of (o1 _ _ wz hT.lst)),rfl,_,rfl,b7 (fun hb=>gg ?_) (fun hb=>?_)⟩
 ·clear hR
  have Sx:=o1;have oo:gP H1 tab n n rt vf:=⟨Sx _ _ wz hT.lst,fun i hi=>Sx _ _ (km i hi) (hT.at' i hi)⟩;have Yk:∀i j,i<n→j<n→bh 1000 H1 q (vf i j) (f i j).1 (f i j).2:=fun i j hi hj=>(num i j hi hj).fV tc Sx;refine gi ⟨_,rfl,_,rfl,by show 1≤sizeLine;decide,fun la lN=>⟨tab,la,_,_,rfl,rfl,(aA lN) _ _ oo.lst,au,a8 (show _≤100 by simp;lia) (by decide),fun lb lO=>?_⟩⟩
  have eF:ae H1 (upd (upd H1 la (.lst [.ref dw])) lb (.lst (((List.range n).map fun i=>V.ref (rt i))++[.ref dw]))):=(aA lN).trans (aA lO);have jA:upd (upd H1 la (.lst [.ref dw])) lb (.lst (((List.range n).map fun i=>V.ref (rt i))++[.ref dw])) lb=some (.lst (((List.range n).map fun i=>V.ref (rt i))++[.ref dw])):=au;have oq:lb≠Tp:=(rM.mono (aA lN)).ne lO;generalize upd (upd H1 la (.lst [.ref dw])) lb (.lst (((List.range n).map fun i=>V.ref (rt i))++[.ref dw]))=Hb at eF jA ⊢;have kr:=oo.mono eF;have gR:=rM.mono eF;have E_:=(tw.off Sx tc).mono eF;refine D3 (pQ (xs:=(List.range n).map fun i=>V.ref (rt i)) (n:=n) (gQ _) (fun R h=>⟨_,rfl,tab,rfl,⟨_,.of kr.lst⟩,h _ _ (ae.refl _) (nE (.of kr.lst))⟩) (fB (by lia)) (fun _ i y Hx=>(∃v0,Hx y=some (.lst ((List.range n).map (vf i)++[v0]))∧bh 1000 Hx q v0 0 1)∧y≠Tp) ?_ ?_ ?_)
  ·intro D i y Ha Hd ys ⟨⟨v0,g1,g2⟩,g3⟩ hy e f'
   exact ⟨⟨v0,f' y _ hy g1,g2.bG e f'⟩,g3⟩
  ·intro D i x hx Hd R sd _ kc
   obtain ⟨hi,rfl⟩:=z9 hx;refine ⟨_,rfl,_,rfl,td,q,rfl,E_.mono sd,hq,fun v0 He se h0=>⟨by show 1≤sizeLine;decide,fun lc ou=>?_⟩⟩
   have sx:ae Hd (upd He lc (.lst [v0])):=se.trans (aA ou);refine ⟨rt i,lc,_,_,rfl,rfl,sx _ _ (sd _ _ (kr.at' i hi)),au,a8 (show _≤100 by simp;lia) (by decide),fun y ny=>?_⟩
   exact kc y _ (sx.trans (aA ny)) (none_of sx ny) ⟨_,au⟩ ⟨⟨v0,au,(h0.mono (aA ou)).mono (aA ny)⟩,((gR.mono sd).mono sx).ne ny⟩
  ·intro D rr Hd nD sd inj hA eD
   have DT:D≠Tp:=gR.ne nD;refine ⟨by show 2≤sizeLine;decide,fun ll ku=>?_⟩
   have sl:ae Hd (upd Hd ll (.lst [.ref lb,.ref D])):=aA ku;have ky:upd Hd ll (.lst [.ref lb,.ref D]) ll=some (.lst [.ref lb,.ref D]):=au;have rR:ll≠Tp:=(gR.mono sd).ne ku;generalize upd Hd ll (.lst [.ref lb,.ref D])=He at sl ky ⊢;have iq:=sd.trans sl;refine ⟨_,rfl,Tp,2,rfl,gR.mono iq,by decide,by decide,fun dg Hf rV of tf=>?_⟩
   have gs:aG Tp H Hf:=Sx.trans ((aG.of (eF.trans iq)).trans of);have yw:aG Tp H1 Hf:=(aG.refl Tp H1).trans ((aG.of (eF.trans iq)).trans of);have bA:ja Tp q Hf (.ref lb):=by
    refine ⟨lb,n+1,n,fun i=>if i<n then rt i else dw,fun i=>if i<n then vf i else rv,fun i=>if i<n then f i else fr,rfl,oq,fun i hi=>?_,⟨?_,fun i hi=>?_⟩,fun i j hi hj=>?_,by lia,by lia,by lia⟩
    ·try dsimp only
     split
     ·rename_i h;exact km i h
     ·exact BO
    ·rw [of _ _ oq (iq _ _ jA),oO,kI,sk]
     try dsimp only
     rw [ak (eV n)]
     congr 3
     refine jg fun i hi=>?_;rw [aq (gS.mp hi)]
    ·try dsimp only
     split
     ·rename_i h;exact gs _ _ (km i h) (hT.at' i h)
     ·exact yw _ _ BO er
    ·try dsimp only
     split
     ·rename_i h;exact (num i j h hj).fV tc gs
     ·exact (nr j hj).fV rM yw
   have bB:ja Tp q Hf (.ref D):=by
    have ch:∃v0:Nat→V,∀i,i<n→He (rr i)=some (.lst ((List.range n).map (vf i)++[v0 i]))∧bh 1000 He q (v0 i) 0 1:=⟨fun i=>if h:i<n then (hA i h).1.1.choose else .aF,fun i hi=>by
     try dsimp only
     rw [eY hi];exact ⟨sl _ _ (hA i hi).1.1.choose_spec.1,(hA i hi).1.1.choose_spec.2.mono sl⟩⟩
    obtain ⟨v0,yx⟩:=ch;refine ⟨D,n,n+1,rr,fun i j=>if j<n then vf i j else v0 i,fun i j=>if j<n then f i j else (0,1),rfl,DT,fun i hi=>(hA i hi).1.2,⟨of _ _ DT (sl _ _ eD),fun i hi=>?_⟩,fun i j hi hj=>?_,by lia,by lia,by lia⟩
    ·rw [of _ _ (hA i hi).1.2 (yx i hi).1,oO,kI,sk]
     try dsimp only
     rw [ak (eV n)]
     congr 3
     refine jg fun j hj=>?_;rw [aq (gS.mp hj)]
    ·try dsimp only
     split
     ·rename_i h;exact (num i j hi h).fV tc gs
     ·exact (yx i hi).2.fV (gR.mono iq) of
   have kz:=of _ _ rR ky
   match dg,rV with
   | 0,_=>exact ⟨ll,_,_,.ref lb,rfl,rfl,.of kz,rfl,kk _ Hf gs tf bA⟩
   | 1,_=>exact ⟨ll,_,_,.ref D,rfl,rfl,.of kz,rfl,kk _ Hf gs tf bB⟩
 ·have n2:1<n:=by rw [gQ,i5] at hb;have h1:¬(n:Int)=1:=fun e=>hb (dc e);lia
  refine ⟨_,rfl,Tp,2,rfl,rM,by decide,by decide,fun d2 H2 hd2 o2 rN=>⟨rfl,_,rfl,b7 (fun Yl=>?_) (fun Yl=>hR _ _ ?_)⟩⟩
  ·clear hR
   have Sy:=o1.trans o2;have oo:gP H2 tab n n rt vf:=⟨Sy _ _ wz hT.lst,fun i hi=>Sy _ _ (km i hi) (hT.at' i hi)⟩;have Yk:∀i j,i<n→j<n→bh 1000 H2 q (vf i j) (f i j).1 (f i j).2:=fun i j hi hj=>(num i j hi hj).fV tc Sy;refine gi ⟨_,rfl,_,rfl,by show 1≤sizeLine;decide,fun la lN=>⟨tab,la,_,_,rfl,rfl,(aA lN) _ _ oo.lst,au,a8 (show _≤100 by simp;lia) (by decide),fun lb lO=>?_⟩⟩
   have eF:ae H2 (upd (upd H2 la (.lst [.ref dw])) lb (.lst (((List.range n).map fun i=>V.ref (rt i))++[.ref dw]))):=(aA lN).trans (aA lO);have jA:upd (upd H2 la (.lst [.ref dw])) lb (.lst (((List.range n).map fun i=>V.ref (rt i))++[.ref dw])) lb=some (.lst (((List.range n).map fun i=>V.ref (rt i))++[.ref dw])):=au;have oq:lb≠Tp:=(rN.mono (aA lN)).ne lO;generalize upd (upd H2 la (.lst [.ref dw])) lb (.lst (((List.range n).map fun i=>V.ref (rt i))++[.ref dw]))=Hb at eF jA ⊢;have kr:=oo.mono eF;have gR:=rN.mono eF;have E_:=(tw.off Sy tc).mono eF;refine D3 (pQ (xs:=(List.range n).map fun i=>V.ref (rt i)) (n:=n) (gQ _) (fun R h=>⟨_,rfl,tab,rfl,⟨_,.of kr.lst⟩,h _ _ (ae.refl _) (nE (.of kr.lst))⟩) (fB (by lia)) (fun _ i y Hx=>(∃v0,Hx y=some (.lst ((List.range n).map (vf i)++[v0]))∧bh 1000 Hx q v0 0 1)∧y≠Tp) ?_ ?_ ?_)
   ·intro D i y Ha Hd ys ⟨⟨v0,g1,g2⟩,g3⟩ hy e f'
    exact ⟨⟨v0,f' y _ hy g1,g2.bG e f'⟩,g3⟩
   ·intro D i x hx Hd R sd _ kc
    obtain ⟨hi,rfl⟩:=z9 hx;refine ⟨_,rfl,_,rfl,td,q,rfl,E_.mono sd,hq,fun v0 He se h0=>⟨by show 1≤sizeLine;decide,fun lc ou=>?_⟩⟩
    have sx:ae Hd (upd He lc (.lst [v0])):=se.trans (aA ou);refine ⟨rt i,lc,_,_,rfl,rfl,sx _ _ (sd _ _ (kr.at' i hi)),au,a8 (show _≤100 by simp;lia) (by decide),fun y ny=>?_⟩
    exact kc y _ (sx.trans (aA ny)) (none_of sx ny) ⟨_,au⟩ ⟨⟨v0,au,(h0.mono (aA ou)).mono (aA ny)⟩,((gR.mono sd).mono sx).ne ny⟩
   ·intro D rr Hd nD sd inj hA eD
    have DT:D≠Tp:=gR.ne nD;refine ⟨by show 2≤sizeLine;decide,fun ll ku=>?_⟩
    have sl:ae Hd (upd Hd ll (.lst [.ref lb,.ref D])):=aA ku;have ky:upd Hd ll (.lst [.ref lb,.ref D]) ll=some (.lst [.ref lb,.ref D]):=au;have rR:ll≠Tp:=(gR.mono sd).ne ku;generalize upd Hd ll (.lst [.ref lb,.ref D])=He at sl ky ⊢;have iq:=sd.trans sl;refine ⟨_,rfl,Tp,2,rfl,gR.mono iq,by decide,by decide,fun dg Hf rV of tf=>?_⟩
    have gs:aG Tp H Hf:=Sy.trans ((aG.of (eF.trans iq)).trans of);have yw:aG Tp H1 Hf:=o2.trans ((aG.of (eF.trans iq)).trans of);have bA:ja Tp q Hf (.ref lb):=by
     refine ⟨lb,n+1,n,fun i=>if i<n then rt i else dw,fun i=>if i<n then vf i else rv,fun i=>if i<n then f i else fr,rfl,oq,fun i hi=>?_,⟨?_,fun i hi=>?_⟩,fun i j hi hj=>?_,by lia,by lia,by lia⟩
     ·try dsimp only
      split
      ·rename_i h;exact km i h
      ·exact BO
     ·rw [of _ _ oq (iq _ _ jA),oO,kI,sk]
      try dsimp only
      rw [ak (eV n)]
      congr 3
      refine jg fun i hi=>?_;rw [aq (gS.mp hi)]
     ·try dsimp only
      split
      ·rename_i h;exact gs _ _ (km i h) (hT.at' i h)
      ·exact yw _ _ BO er
     ·try dsimp only
      split
      ·rename_i h;exact (num i j h hj).fV tc gs
      ·exact (nr j hj).fV rM yw
    have bB:ja Tp q Hf (.ref D):=by
     have ch:∃v0:Nat→V,∀i,i<n→He (rr i)=some (.lst ((List.range n).map (vf i)++[v0 i]))∧bh 1000 He q (v0 i) 0 1:=⟨fun i=>if h:i<n then (hA i h).1.1.choose else .aF,fun i hi=>by
      try dsimp only
      rw [eY hi];exact ⟨sl _ _ (hA i hi).1.1.choose_spec.1,(hA i hi).1.1.choose_spec.2.mono sl⟩⟩
     obtain ⟨v0,yx⟩:=ch;refine ⟨D,n,n+1,rr,fun i j=>if j<n then vf i j else v0 i,fun i j=>if j<n then f i j else (0,1),rfl,DT,fun i hi=>(hA i hi).1.2,⟨of _ _ DT (sl _ _ eD),fun i hi=>?_⟩,fun i j hi hj=>?_,by lia,by lia,by lia⟩
     ·rw [of _ _ (hA i hi).1.2 (yx i hi).1,oO,kI,sk]
      try dsimp only
      rw [ak (eV n)]
      congr 3
      refine jg fun j hj=>?_;rw [aq (gS.mp hj)]
     ·try dsimp only
      split
      ·rename_i h;exact (num i j hi h).fV tc gs
      ·exact (yx i hi).2.fV (gR.mono iq) of
    have kz:=of _ _ rR ky
    match dg,rV with
    | 0,_=>exact ⟨ll,_,_,.ref lb,rfl,rfl,.of kz,rfl,kk _ Hf gs tf bA⟩
    | 1,_=>exact ⟨ll,_,_,.ref D,rfl,rfl,.of kz,rfl,kk _ Hf gs tf bB⟩
  ·clear hR
   have Sz:=o1.trans o2;have oo:gP H2 tab n n rt vf:=⟨Sz _ _ wz hT.lst,fun i hi=>Sz _ _ (km i hi) (hT.at' i hi)⟩;refine gi ⟨_,rfl,1,rfl,tab,_,rfl,.of oo.lst,fun lb lO=>?_⟩;have ec:cT ((List.range n).map fun i=>V.ref (rt i)) (some 1) none=(List.range (n-1)).map fun i=>V.ref (rt (i+1)):=by
    rw [show (1:Int)=((1:Nat):Int) from rfl,DE];refine eX (by simp) fun i h1 h2=>?_
    first | (simp;done) | (simp;congr 1;lia) | (simp;lia)
   rw [ec];have eF:ae H2 (upd H2 lb (.lst ((List.range (n-1)).map fun i=>V.ref (rt (i+1))))):=aA lO;have jA:upd H2 lb (.lst ((List.range (n-1)).map fun i=>V.ref (rt (i+1)))) lb=some (.lst ((List.range (n-1)).map fun i=>V.ref (rt (i+1)))):=au;have oq:lb≠Tp:=rN.ne lO;generalize upd H2 lb (.lst ((List.range (n-1)).map fun i=>V.ref (rt (i+1))))=Hb at eF jA ⊢;have kr:=oo.mono eF;have gR:=rN.mono eF;refine D3 (pQ (xs:=(List.range n).map fun i=>V.ref (rt i)) (n:=n) (gQ _) (fun R h=>⟨_,rfl,tab,rfl,⟨_,.of kr.lst⟩,h _ _ (ae.refl _) (nE (.of kr.lst))⟩) (fB (by lia)) (fun _ i y Hx=>Hx y=some (.lst ((List.range (n-1)).map fun j=>vf i (j+1)))∧y≠Tp) ?_ ?_ ?_)
   ·intro D i y Ha Hd ys ⟨g1,g3⟩ hy e f'
    exact ⟨f' y _ hy g1,g3⟩
   ·intro D i x hx Hd R sd _ kc
    obtain ⟨hi,rfl⟩:=z9 hx;refine ⟨_,rfl,1,rfl,rt i,_,rfl,.of (sd _ _ (kr.at' i hi)),fun y ny=>?_⟩;have ed:cT ((List.range n).map (vf i)) (some 1) none=(List.range (n-1)).map fun j=>vf i (j+1):=by
     rw [show (1:Int)=((1:Nat):Int) from rfl,DE];refine eX (by simp) fun j h1 h2=>?_
     first | (simp;done) | (simp;congr 1;lia) | (simp;lia)
    rw [ed];exact kc y _ (aA ny) ny ⟨_,au⟩ ⟨au,(gR.mono sd).ne ny⟩
   ·intro D rr Hd nD sd inj hA eD
    have DT:D≠Tp:=gR.ne nD;refine ⟨by show 2≤sizeLine;decide,fun ll ku=>?_⟩
    have sl:ae Hd (upd Hd ll (.lst [.ref lb,.ref D])):=aA ku;have ky:upd Hd ll (.lst [.ref lb,.ref D]) ll=some (.lst [.ref lb,.ref D]):=au;have rR:ll≠Tp:=(gR.mono sd).ne ku;generalize upd Hd ll (.lst [.ref lb,.ref D])=He at sl ky ⊢;have iq:=sd.trans sl;refine ⟨_,rfl,Tp,2,rfl,gR.mono iq,by decide,by decide,fun dg Hf rV of tf=>?_⟩
    have gs:aG Tp H Hf:=Sz.trans ((aG.of (eF.trans iq)).trans of);have bA:ja Tp q Hf (.ref lb):=⟨lb,n-1,n,fun i=>rt (i+1),fun i=>vf (i+1),fun i=>f (i+1),rfl,oq,fun i hi=>km (i+1) (by lia),⟨of _ _ oq (iq _ _ jA),fun i hi=>gs _ _ (km (i+1) (by lia)) (hT.at' (i+1) (by lia))⟩,fun i j hi hj=>(num (i+1) j (by lia) hj).fV tc gs,by lia,by lia,by lia⟩
    have bB:ja Tp q Hf (.ref D):=⟨D,n,n-1,rr,fun i j=>vf i (j+1),fun i j=>f i (j+1),rfl,DT,fun i hi=>(hA i hi).1.2,⟨of _ _ DT (sl _ _ eD),fun i hi=>of _ _ (hA i hi).1.2 (sl _ _ (hA i hi).1.1)⟩,fun i j hi hj=>(num i (j+1) hi (by lia)).fV tc gs,by lia,by lia,by lia⟩
    have kz:=of _ _ rR ky
    match dg,rV with
    | 0,_=>exact ⟨ll,_,_,.ref lb,rfl,rfl,.of kz,rfl,kk _ Hf gs tf bA⟩
    | 1,_=>exact ⟨ll,_,_,.ref D,rfl,rfl,.of kz,rfl,kk _ Hf gs tf bB⟩
theorem Txt.Ym(T:Txt K mg t):l9 K t.bf:=⟨T.Ma,T.Mb,T.Mc,T.Md,T.Me,T.Mf⟩
theorem Txt.Yn(T:Txt K mg t):l9 K t.bq:=⟨T.Mq,T.Mr,T.Ms,T.Mt,T.Mu,T.Mv⟩
def Yo(N O:Addr):Sp:=fun vs H Q _=>∃ea:Addr,vs=[.ref ea]∧((H ea=some (gh ea N)∧∀H',ae H H'→Q (sV "fit") H')∨(H ea=some (gh ea O)∧∀H',ae H H'→Q (sV "order") H'))
theorem Yp:ba ["caught","some"] ["caught"] (aH A3):=bF
theorem Yq(T:Txt K mg t):aV P w K mg base bK 1 t.qW t.u5 ["caught"] (Yo t.bf t.bq):=by
 have S:=Yp;refine T.vY.bS S (fun _ _ _ s H _ _ _ hr h=>?_);obtain ⟨ea,rfl,ca⟩:=h
 refine ⟨_,(aj (putL 1 S.nd (cC (aa (bR (iD (K:=K)) rfl T.ie boot_isinstance (aa (pv 0) (aa (kT (v:=.ref _) rfl T.x8 rfl) af))) (aa (bR (iD (K:=K)) rfl T.ie boot_isinstance (aa (pv 0) (aa (kT (v:=.ref _) rfl T.LL rfl) af))) (aa (bR (iD (K:=K)) rfl T.ie boot_isinstance (aa (pv 0) (aa (kT (v:=.ref _) rfl T.Ek rfl) af))) af)))))
  (aj (putL 1 S.nd (ax fR (pv 1) (cC (aa (bR (iD (K:=K)) rfl T.ie boot_isinstance (aa (pv 0) (aa (kT (v:=.ref _) rfl T.x5 rfl) af))) (aa (bR (iD (K:=K)) rfl T.ie boot_isinstance (aa (pv 0) (aa (kT (v:=.ref _) rfl T.LJ rfl) af))) (aa (bR (iD (K:=K)) rfl T.ie boot_isinstance (aa (pv 0) (aa (kT (v:=.ref _) rfl T.LK rfl) af))) af))))))
  (aj (putL 1 S.nd (ax fR (pv 1) (cC (aa (bR (iD (K:=K)) rfl T.ie boot_isinstance (aa (pv 0) (aa (kT (v:=.ref _) rfl T.Ej rfl) af))) (aa (bR (iD (K:=K)) rfl T.ie boot_isinstance (aa (pv 0) (aa (kT (v:=.ref _) rfl T.LM rfl) af))) af)))))
  (aj (bT (PW.pt (pw_or (bN fz (xk wU PySem.F.slot_list_count PySem.F.type_list_count U2 (pv 1) (aa iU af)) ag) (pw_or1 (w9 (mV (bR (iD (K:=K)) rfl T.ie boot_isinstance (aa (pv 0) (aa (sE (v:=.ty "ValueError") rfl T.LN QN rfl) af)))))))) (ar (aT cz)) bZ)
  (ar (aT (aB bJ (cC (aa cz (aa cz (aa cz (aa cz (aa cz (aa cz (aa cz (aa cz af))))))))) (xk wU PySem.F.slot_list_index PySem.F.type_list_index U4 (pv 1) (aa iU af))))))))),?_⟩
 rcases ca with ⟨Fb,kk⟩ | ⟨Fb,kk⟩
 ·have ty:∀{H':Hp},ae H H'→pz K H' (.ref ea) (.ref t.bf):=fun s=>.exc (s _ _ Fb) T.Ym
  have y0:=ty (ae.refl H);refine aC fun _ hR=>aY ⟨_,rfl,_,_,_,_,rfl,rfl,y0,T.L5,_,rfl,_,_,_,_,rfl,rfl,y0,T.L9,_,rfl,_,_,_,_,rfl,rfl,y0,T.L7,by show 3≤sizeLine;decide,fun l1 n1=>hR _ _ ?_⟩
  have s1:ae H (upd H l1 (.lst [.bl true,.bl false,.bl false])):=aA n1;have e1:upd H l1 (.lst [.bl true,.bl false,.bl false]) l1=some (.lst [.bl true,.bl false,.bl false]):=au;generalize upd H l1 (.lst [.bl true,.bl false,.bl false])=H1 at s1 e1 ⊢;have y1:=ty s1;refine aC fun _ hR=>aY ⟨_,rfl,_,rfl,_,_,_,_,rfl,rfl,y1,T.L4,_,rfl,_,_,_,_,rfl,rfl,y1,T.L6,_,rfl,_,_,_,_,rfl,rfl,y1,T.L8,by show 3≤sizeLine;decide,fun l2 n2=>?_⟩
  have s2:ae H1 (upd H1 l2 (.lst [.bl false,.bl false,.bl false])):=aA n2;have e2:upd H1 l2 (.lst [.bl false,.bl false,.bl false]) l2=some (.lst [.bl false,.bl false,.bl false]):=au;generalize upd H1 l2 (.lst [.bl false,.bl false,.bl false])=H2 at s2 e2 ⊢;refine ⟨l1,l2,_,_,rfl,rfl,s2 _ _ e1,e2,by show 6≤sizeLine;decide,fun l3 n3=>hR _ _ ?_⟩
  have s3:ae H2 (upd H2 l3 (.lst ([.bl true,.bl false,.bl false]++[.bl false,.bl false,.bl false]))):=aA n3;have e3:upd H2 l3 (.lst ([.bl true,.bl false,.bl false]++[.bl false,.bl false,.bl false])) l3=some (.lst ([.bl true,.bl false,.bl false]++[.bl false,.bl false,.bl false])):=au;generalize upd H2 l3 (.lst ([.bl true,.bl false,.bl false]++[.bl false,.bl false,.bl false]))=H3 at s3 e3 ⊢;have iM:=s1.trans (s2.trans s3);have y3:=ty iM;refine aC fun _ hR=>aY ⟨_,rfl,_,rfl,_,_,_,_,rfl,rfl,y3,T.L3,_,rfl,_,_,_,_,rfl,rfl,y3,T.L_,by show 2≤sizeLine;decide,fun l4 n4=>?_⟩
  have s4:ae H3 (upd H3 l4 (.lst [.bl false,.bl false])):=aA n4;have e4:upd H3 l4 (.lst [.bl false,.bl false]) l4=some (.lst [.bl false,.bl false]):=au;generalize upd H3 l4 (.lst [.bl false,.bl false])=H4 at s4 e4 ⊢;refine ⟨l3,l4,_,_,rfl,rfl,s4 _ _ e3,e4,by show 8≤sizeLine;decide,fun l5 n5=>hR _ _ ?_⟩
  have s5:ae H4 (upd H4 l5 (.lst (([.bl true,.bl false,.bl false]++[.bl false,.bl false,.bl false])++[.bl false,.bl false]))):=aA n5;have e5:upd H4 l5 (.lst (([.bl true,.bl false,.bl false]++[.bl false,.bl false,.bl false])++[.bl false,.bl false])) l5=some (.lst (([true,false,false,false,false,false,false,false]:List Bool).map V.bl)):=au;generalize upd H4 l5 (.lst (([.bl true,.bl false,.bl false]++[.bl false,.bl false,.bl false])++[.bl false,.bl false]))=H5 at s5 e5 ⊢;have yy:=iM.trans (s4.trans s5);have y5:=ty yy;refine aC fun _ hR=>⟨_,rfl,.inl ⟨rfl,_,.of e5⟩,l5,[true,false,false,false,false,false,false,false],rfl,rfl,e5,rfl,false,by decide +kernel,cK ⟨_,rfl,_,_,_,_,rfl,rfl,y5,T.L0,true,rfl,cK (hR _ _ ?_)⟩⟩
  refine ⟨by show 8≤sizeLine;decide,fun l6 n6=>?_⟩
  have s6:ae H5 (upd H5 l6 (.lst [.str (Str.ofString "fit"),.str (Str.ofString "link"),.str (Str.ofString "order"),.str (Str.ofString "over"),.str (Str.ofString "shape"),.str (Str.ofString "size"),.str (Str.ofString "world"),.str (Str.ofString "tied")])):=aA n6;have e6:upd H5 l6 (.lst [.str (Str.ofString "fit"),.str (Str.ofString "link"),.str (Str.ofString "order"),.str (Str.ofString "over"),.str (Str.ofString "shape"),.str (Str.ofString "size"),.str (Str.ofString "world"),.str (Str.ofString "tied")]) l6=some (.lst [sV "fit",sV "link",sV "order",sV "over",sV "shape",sV "size",sV "world",sV "tied"]):=au;generalize upd H5 l6 (.lst [.str (Str.ofString "fit"),.str (Str.ofString "link"),.str (Str.ofString "order"),.str (Str.ofString "over"),.str (Str.ofString "shape"),.str (Str.ofString "size"),.str (Str.ofString "world"),.str (Str.ofString "tied")])=H6 at s6 e6 ⊢;refine ⟨_,rfl,.inl ⟨rfl,_,.of (s6 _ _ e5)⟩,l5,[true,false,false,false,false,false,false,false],0,rfl,rfl,s6 _ _ e5,rfl,fun m hm=>?_,by decide,l6,_,_,sV "fit",rfl,rfl,.of e6,rfl,kk _ (yy.trans s6)⟩
  exact absurd hm (mJ _)
 ·have ty:∀{H':Hp},ae H H'→pz K H' (.ref ea) (.ref t.bq):=fun s=>.exc (s _ _ Fb) T.Yn
  have y0:=ty (ae.refl H);refine aC fun _ hR=>aY ⟨_,rfl,_,_,_,_,rfl,rfl,y0,T.Mj,_,rfl,_,_,_,_,rfl,rfl,y0,T.Mo,_,rfl,_,_,_,_,rfl,rfl,y0,T.Mm,by show 3≤sizeLine;decide,fun l1 n1=>hR _ _ ?_⟩
  have s1:ae H (upd H l1 (.lst [.bl false,.bl false,.bl true])):=aA n1;have e1:upd H l1 (.lst [.bl false,.bl false,.bl true]) l1=some (.lst [.bl false,.bl false,.bl true]):=au;generalize upd H l1 (.lst [.bl false,.bl false,.bl true])=H1 at s1 e1 ⊢;have y1:=ty s1;refine aC fun _ hR=>aY ⟨_,rfl,_,rfl,_,_,_,_,rfl,rfl,y1,T.Mi,_,rfl,_,_,_,_,rfl,rfl,y1,T.Ml,_,rfl,_,_,_,_,rfl,rfl,y1,T.Mn,by show 3≤sizeLine;decide,fun l2 n2=>?_⟩
  have s2:ae H1 (upd H1 l2 (.lst [.bl false,.bl false,.bl false])):=aA n2;have e2:upd H1 l2 (.lst [.bl false,.bl false,.bl false]) l2=some (.lst [.bl false,.bl false,.bl false]):=au;generalize upd H1 l2 (.lst [.bl false,.bl false,.bl false])=H2 at s2 e2 ⊢;refine ⟨l1,l2,_,_,rfl,rfl,s2 _ _ e1,e2,by show 6≤sizeLine;decide,fun l3 n3=>hR _ _ ?_⟩
  have s3:ae H2 (upd H2 l3 (.lst ([.bl false,.bl false,.bl true]++[.bl false,.bl false,.bl false]))):=aA n3;have e3:upd H2 l3 (.lst ([.bl false,.bl false,.bl true]++[.bl false,.bl false,.bl false])) l3=some (.lst ([.bl false,.bl false,.bl true]++[.bl false,.bl false,.bl false])):=au;generalize upd H2 l3 (.lst ([.bl false,.bl false,.bl true]++[.bl false,.bl false,.bl false]))=H3 at s3 e3 ⊢;have iM:=s1.trans (s2.trans s3);have y3:=ty iM;refine aC fun _ hR=>aY ⟨_,rfl,_,rfl,_,_,_,_,rfl,rfl,y3,T.Mh,_,rfl,_,_,_,_,rfl,rfl,y3,T.Mp,by show 2≤sizeLine;decide,fun l4 n4=>?_⟩
  have s4:ae H3 (upd H3 l4 (.lst [.bl false,.bl false])):=aA n4;have e4:upd H3 l4 (.lst [.bl false,.bl false]) l4=some (.lst [.bl false,.bl false]):=au;generalize upd H3 l4 (.lst [.bl false,.bl false])=H4 at s4 e4 ⊢;refine ⟨l3,l4,_,_,rfl,rfl,s4 _ _ e3,e4,by show 8≤sizeLine;decide,fun l5 n5=>hR _ _ ?_⟩
  have s5:ae H4 (upd H4 l5 (.lst (([.bl false,.bl false,.bl true]++[.bl false,.bl false,.bl false])++[.bl false,.bl false]))):=aA n5;have e5:upd H4 l5 (.lst (([.bl false,.bl false,.bl true]++[.bl false,.bl false,.bl false])++[.bl false,.bl false])) l5=some (.lst (([false,false,true,false,false,false,false,false]:List Bool).map V.bl)):=au;generalize upd H4 l5 (.lst (([.bl false,.bl false,.bl true]++[.bl false,.bl false,.bl false])++[.bl false,.bl false]))=H5 at s5 e5 ⊢;have yy:=iM.trans (s4.trans s5);have y5:=ty yy;refine aC fun _ hR=>⟨_,rfl,.inl ⟨rfl,_,.of e5⟩,l5,[false,false,true,false,false,false,false,false],rfl,rfl,e5,rfl,false,by decide +kernel,cK ⟨_,rfl,_,_,_,_,rfl,rfl,y5,T.Mg,true,rfl,cK (hR _ _ ?_)⟩⟩
  refine ⟨by show 8≤sizeLine;decide,fun l6 n6=>?_⟩
  have s6:ae H5 (upd H5 l6 (.lst [.str (Str.ofString "fit"),.str (Str.ofString "link"),.str (Str.ofString "order"),.str (Str.ofString "over"),.str (Str.ofString "shape"),.str (Str.ofString "size"),.str (Str.ofString "world"),.str (Str.ofString "tied")])):=aA n6;have e6:upd H5 l6 (.lst [.str (Str.ofString "fit"),.str (Str.ofString "link"),.str (Str.ofString "order"),.str (Str.ofString "over"),.str (Str.ofString "shape"),.str (Str.ofString "size"),.str (Str.ofString "world"),.str (Str.ofString "tied")]) l6=some (.lst [sV "fit",sV "link",sV "order",sV "over",sV "shape",sV "size",sV "world",sV "tied"]):=au;generalize upd H5 l6 (.lst [.str (Str.ofString "fit"),.str (Str.ofString "link"),.str (Str.ofString "order"),.str (Str.ofString "over"),.str (Str.ofString "shape"),.str (Str.ofString "size"),.str (Str.ofString "world"),.str (Str.ofString "tied")])=H6 at s6 e6 ⊢;refine ⟨_,rfl,.inl ⟨rfl,_,.of (s6 _ _ e5)⟩,l5,[false,false,true,false,false,false,false,false],2,rfl,rfl,s6 _ _ e5,rfl,fun m hm=>?_,by decide,l6,_,_,sV "order",rfl,rfl,.of e6,rfl,kk _ (yy.trans s6)⟩
  match m,hm with
  | 0,_=>rfl
  | 1,_=>rfl
theorem Yr:ba ["world","table","order","aim","way","caught","e"] ["world","table","order","aim","way"] (aH A4):=bF
theorem Ys(T:Txt K mg t):aV P w K mg base bK 10 t.qX t.u6 ["world","table","order","aim","way"] (Vg t.aX t.bf t.bq):=by
 have S:=Yr;have Yt:=XU (P:=P) (w:=w) (base:=base) T;have Yu:=X2 (P:=P) (w:=w) (base:=base) T;refine T.jy.bS S (fun _ _ _ _ H _ _ _ hr h=>?_);obtain ⟨z,a,d,e,way,word,rfl,ask,kk⟩:=h
 refine ⟨_,(aj (putL 5 S.nd jK)
  (aj (Qt rfl rfl S.nd (i:=6) rfl rfl (U9 (bN fP (pv 4) ag) (Ic (Ib Yt (hr.mono (by decide)) rfl T.KA T.vB.kp T.Kz .nil (aa (pv 0) (aa (pv 1) (aa (pv 2) (aa (pv 3) af)))))) (Ic (Ib Yu (hr.mono (by decide)) rfl T.KQ T.vG.kp T.KP .nil (aa (pv 0) (aa (pv 1) (aa (pv 2) af))))))
   (fun ea=>(ar (putL 5 S.nd (pv 6)))) rfl T.LI T.LZ lQ.hasBase)
  (aj (bT (bN xf (pv 5) jK) (ar (aT cz)) bZ)
  (ar (aT (aW (Yq T) hr T.Lw T.vY.kp T.Lv aI (aa (pv 5) af))))))),?_⟩
 refine aC fun _ Yv=>aY (Yv _ _ ?_);simp only [wW,wX,L2.start];refine aC fun R yv=>?_;have Nt:∀(H1:Hp),ae H H1→word=""→R [some (.ref z),some (.ref a),some (.ref d),some (.ref e),some (.int way),some .aF,none] H1:=fun H1 s1 ew=>yv _ _ (by
  refine aC fun _ hR=>⟨_,rfl,rfl,true,by simp,gg ?_⟩
  have:=kk H1 s1;rw [ew] at this;exact this)
 have hF:∀(H1:Hp) (ea:Addr),ae H H1→H1 ea=none→word="fit"→R [some (.ref z),some (.ref a),some (.ref d),some (.ref e),some (.int way),some (.ref ea),none] (upd H1 ea (gh ea t.bf)):=fun H1 ea s1 ne ew=>yv _ _ (by
  have sx:ae H1 (upd H1 ea (gh ea t.bf)):=aA ne;have ex:upd H1 ea (gh ea t.bf) ea=some (gh ea t.bf):=au;generalize upd H1 ea (gh ea t.bf)=H2 at sx ex ⊢;refine aC fun _ hR=>⟨_,rfl,rfl,false,by simp,cK (hR _ _ ?_)⟩
  refine ⟨_,rfl,ea,rfl,.inl ⟨ex,fun H3 s3=>?_⟩⟩;have:=kk H3 (s1.trans (sx.trans s3));rw [ew] at this;exact this)
 have hO:∀(H1:Hp) (ea:Addr),ae H H1→H1 ea=none→word="order"→R [some (.ref z),some (.ref a),some (.ref d),some (.ref e),some (.int way),some (.ref ea),none] (upd H1 ea (gh ea t.bq)):=fun H1 ea s1 ne ew=>yv _ _ (by
  have sx:ae H1 (upd H1 ea (gh ea t.bq)):=aA ne;have ex:upd H1 ea (gh ea t.bq) ea=some (gh ea t.bq):=au;generalize upd H1 ea (gh ea t.bq)=H2 at sx ex ⊢;refine aC fun _ hR=>⟨_,rfl,rfl,false,by simp,cK (hR _ _ ?_)⟩
  refine ⟨_,rfl,ea,rfl,.inr ⟨ex,fun H3 s3=>?_⟩⟩;have:=kk H3 (s1.trans (sx.trans s3));rw [ew] at this;exact this)
 rcases ask with ⟨ew,ask⟩ | ⟨ew,ask⟩
 ·subst ew
  refine ⟨_,rfl,rfl,true,rfl,gg ?_⟩;exact ⟨_,rfl,_,rfl,_,rfl,_,rfl,ask _ _ (fun v H1 s1 e1=>Nt H1 s1 e1) (fun H1 s1 e1=>⟨_,rfl,⟨T.we,T.Em⟩,fun ea rW=>⟨_,rfl,hF H1 ea s1 rW e1⟩⟩) (fun H1 s1 e1=>⟨_,rfl,⟨T.Bq,T.Eo⟩,fun ea rW=>⟨_,rfl,hO H1 ea s1 rW e1⟩⟩)⟩
 ·subst ew
  refine ⟨_,rfl,rfl,false,rfl,cK ?_⟩;exact ⟨_,rfl,_,rfl,_,rfl,ask _ _ (fun v H1 s1 e1=>Nt H1 s1 e1) (fun H1 s1 e1=>⟨_,rfl,⟨T.we,T.Em⟩,fun ea rW=>⟨_,rfl,hF H1 ea s1 rW e1⟩⟩) (fun H1 s1 e1=>⟨_,rfl,⟨T.Bq,T.Eo⟩,fun ea rW=>⟨_,rfl,hO H1 ea s1 rW e1⟩⟩)⟩
theorem Yw:ba ["script","start","told","table","order","aim","world","tape","wrong","other","short","line"] ["script"] (aH A7):=bF
theorem Yx(T:Txt K mg t):aV P w K mg base bK 12 t.nS t.q5 ["script"] (zy K):=by
 have S:=Yw;have Yy:=Xt (P:=P) (w:=w) (base:=base) T;have Yz:=Yf (P:=P) (w:=w) (base:=base) T;have rX:=Ys (P:=P) (w:=w) (base:=base) T;have YA:=yo (P:=P) (w:=w) (base:=base) T;have ki:=iO (P:=P) (w:=w) (base:=base) T;have YB:=X8 (P:=P) (w:=w) (base:=base) T;have YC:=Vy (P:=P) (w:=w) (base:=base) T;refine T.v9.bS S (fun _ _ _ _ H _ _ _ hr h=>?_);obtain ⟨a,ns,rfl,hS,hlen,kQ⟩:=h;have yg:=hr.units;have hu:=hr.sP
 refine ⟨_,(@aj _ _ _ _ _ (eO dB rfl (UH rfl T.iL (@aw _ _ _ _ _ (by rfl) ag (@aw _ _ _ _ _ (by rfl) (bR (OV rfl) rfl T.LR boot_max (@aw _ _ _ _ _ (by rfl) ag (@aw _ _ _ _ _ (by rfl) (bR (OW rfl) rfl T.LS boot_min (@aw _ _ _ _ _ (by rfl) ag (@aw _ _ _ _ _ (by rfl) (bR fQ rfl T.fc fj (@aw _ _ _ _ _ (by rfl) (pv 0) af)) af))) af))) (@aw _ _ _ _ _ (by rfl) ag af)))) (cj (i:=1) S.nd rfl (Or.inl rfl))
    (@aj _ _ _ _ _ (@gC _ _ _ _ _ _ (d9 Yy (hr.mono (by decide)) rfl T.Lu T.vX.kp T.Ls .nil aI (@aw _ _ _ _ _ (by rfl) (pv 0) (@aw _ _ _ _ _ (by rfl) (pv 1) af))) (mX rfl (fM (cj (i:=2) S.nd rfl (Or.inl rfl)) (fM (cj (i:=3) S.nd rfl (Or.inl rfl)) (fM (cj (i:=4) S.nd rfl (Or.inl rfl)) (fM (cj (i:=5) S.nd rfl (Or.inl rfl)) mW))))) (by rfl) (by rfl) (by rfl))
   (@aj _ _ _ _ _ (@gL _ _ 6 _ _ _ _ (by rfl) (by first | exact .inl rfl | exact .inr rfl | assumption) S.nd rfl (Or.inl rfl) (Pl T.Bi YC (hr.mono (by decide)) rfl T.LH T.LD .nil k9 (@aw _ _ _ _ _ (by rfl) (pv 2) af)))
   (@aj _ _ _ _ _ (@gL _ _ 7 _ _ _ _ (by rfl) (by first | exact .inl rfl | exact .inr rfl | assumption) S.nd rfl (Or.inl rfl) (d9 YA (hr.mono (by decide)) rfl T.vQ T.lK.kp T.vP .nil aI (@aw _ _ _ _ _ (by rfl) (pv 0) (@aw _ _ _ _ _ (by rfl) (@ax _ _ _ _ _ _ _ _ eQ (pv 1) ag) af))))
   (@aj _ _ _ _ _ (@gL _ _ 8 _ _ _ _ (by rfl) (by first | exact .inl rfl | exact .inr rfl | assumption) S.nd rfl (Or.inl rfl) (d9 YB (hr.mono (by decide)) rfl T.Ly T.vZ.kp T.Lx .nil aI (@aw _ _ _ _ _ (by rfl) (pv 7) (@aw _ _ _ _ _ (by rfl) (pv 4) af))))
   (@aj _ _ _ _ _ (@gL _ _ 9 _ _ _ _ (by rfl) (by first | exact .inl rfl | exact .inr rfl | assumption) S.nd rfl (Or.inl rfl) (d9 Yz (hr.mono (by decide)) rfl T.LB T.v8.kp T.Lz .nil aI (@aw _ _ _ _ _ (by rfl) (pv 2) (@aw _ _ _ _ _ (by rfl) (pv 7) (@aw _ _ _ _ _ (by rfl) (pv 3) af)))))
   (@aj _ _ _ _ _ (@gL _ _ 10 _ _ _ _ (by rfl) (by first | exact .inl rfl | exact .inr rfl | assumption) S.nd rfl (Or.inl rfl) (@jR _ _ _ _ _ _ _ bJ (@cC _ _ _ _ (@aw _ _ _ _ _ (by rfl) (@gH _ _ _ _ _ _ _ _ _ _ gJ (pv 5) (gG ag) gF) (@aw _ _ _ _ _ (by rfl) (@ax _ _ _ _ _ _ _ _ fR (pv 5) (@gH _ _ _ _ _ _ _ _ _ _ gJ (pv 5) gF (gG ag))) af))) (d9 ki (hr.mono (by decide)) rfl T.fI T.dZ.kp T.fH .nil aI (@aw _ _ _ _ _ (by rfl) (pv 7) (@aw _ _ _ _ _ (by rfl) ag af))) (fun _ _=>rfl)))
   (@aj _ _ _ _ _ (@bT _ _ _ _ _ _ _ _ (PW.pt (@pw_or _ _ _ _ _ _ _ (@jL _ _ _ _ _ _ _ _ fz (d9 rX (hr.mono (by decide)) rfl T.og T.jy.kp T.n_ .nil aI (@aw _ _ _ _ _ (by rfl) (pv 6) (@aw _ _ _ _ _ (by rfl) (pv 3) (@aw _ _ _ _ _ (by rfl) (pv 4) (@aw _ _ _ _ _ (by rfl) (pv 5) (@aw _ _ _ _ _ (by rfl) ag af)))))) cz (iV _)) (@pw_or1 _ _ _ _ (@jL _ _ _ _ _ _ _ _ fz (d9 rX (hr.mono (by decide)) rfl T.og T.jy.kp T.n_ .nil aI (@aw _ _ _ _ _ (by rfl) (pv 6) (@aw _ _ _ _ _ (by rfl) (pv 3) (@aw _ _ _ _ _ (by rfl) (pv 4) (@aw _ _ _ _ _ (by rfl) (pv 5) (@aw _ _ _ _ _ (by rfl) ag af)))))) cz (iV _))))) (@ar _ _ _ (@aT _ _ _ _ iU)) bZ)
   (@aj _ _ _ _ _ (eO dB rfl (gc (@cC _ _ _ _ (@aw _ _ _ _ _ (by rfl) (pv 4) (@aw _ _ _ _ _ (by rfl) (pv 8) af)))) (cj (i:=11) S.nd rfl (Or.inl rfl))
    (@aj _ _ _ _ _ (@bT _ _ _ _ _ _ _ _ (PW.pt (@pw_or _ _ _ _ _ _ _ (@jL _ _ _ _ _ _ _ _ fz (d9 rX (hr.mono (by decide)) rfl T.og T.jy.kp T.n_ .nil aI (@aw _ _ _ _ _ (by rfl) (pv 6) (@aw _ _ _ _ _ (by rfl) (pv 9) (@aw _ _ _ _ _ (by rfl) (pv 11) (@aw _ _ _ _ _ (by rfl) (pv 5) (@aw _ _ _ _ _ (by rfl) ag af)))))) cz (iV _)) (@pw_or1 _ _ _ _ (@jL _ _ _ _ _ _ _ _ fz (d9 rX (hr.mono (by decide)) rfl T.og T.jy.kp T.n_ .nil aI (@aw _ _ _ _ _ (by rfl) (pv 6) (@aw _ _ _ _ _ (by rfl) (pv 9) (@aw _ _ _ _ _ (by rfl) (pv 11) (@aw _ _ _ _ _ (by rfl) (pv 5) (@aw _ _ _ _ _ (by rfl) ag af)))))) cz (iV _))))) (@ar _ _ _ (@aT _ _ _ _ iU)) bZ)
   (@ar _ _ _ (@bT _ _ _ _ _ _ _ _ (@jL _ _ _ _ _ _ _ _ fz (d9 rX (hr.mono (by decide)) rfl T.og T.jy.kp T.n_ .nil aI (@aw _ _ _ _ _ (by rfl) (pv 6) (@aw _ _ _ _ _ (by rfl) (pv 3) (@aw _ _ _ _ _ (by rfl) (pv 11) (@aw _ _ _ _ _ (by rfl) (pv 10) (@aw _ _ _ _ _ (by rfl) ag af)))))) cz (iV _)) (@ar _ _ _ (@aT _ _ _ _ iU)) bZ))))
   (@ar _ _ _ (@bT _ _ _ _ _ _ _ _ (PW.pt (@pw_or _ _ _ _ _ _ _ (@jL _ _ _ _ _ _ _ _ fz (d9 rX (hr.mono (by decide)) rfl T.og T.jy.kp T.n_ .nil aI (@aw _ _ _ _ _ (by rfl) (pv 6) (@aw _ _ _ _ _ (by rfl) (pv 3) (@aw _ _ _ _ _ (by rfl) (pv 8) (@aw _ _ _ _ _ (by rfl) (pv 5) (@aw _ _ _ _ _ (by rfl) ag af)))))) cz (iV _)) (@pw_or1 _ _ _ _ (@jL _ _ _ _ _ _ _ _ fz (d9 rX (hr.mono (by decide)) rfl T.og T.jy.kp T.n_ .nil aI (@aw _ _ _ _ _ (by rfl) (pv 6) (@aw _ _ _ _ _ (by rfl) (pv 3) (@aw _ _ _ _ _ (by rfl) (pv 8) (@aw _ _ _ _ _ (by rfl) (pv 5) (@aw _ _ _ _ _ (by rfl) ag af)))))) cz (iV _))))) (@ar _ _ _ (@aT _ _ _ _ iU)) bZ)))))))))))
   (@ar _ _ _ (@aT _ _ _ _ iU))),?_⟩
 refine aC fun _ hR=>⟨_,rfl,a,_,rfl,.inl hS,_,_,rfl,_,_,rfl,_,_,4,rfl,⟨by decide,by decide,by decide,by decide,?_,?_⟩,?_⟩
 ·split <;> split <;> lia
 ·split <;> split <;> lia
 refine UI (fun i σ Hc=>∃(v:Nat→Option V),σ=[some (.ref a),v 1,v 2,v 3,v 4,v 5,v 6,v 7,v 8,v 9,v 10,v 11]∧ae H Hc) ⟨fun _=>none,rfl,ae.refl _⟩ ?_ ?_
 ·rintro i σ Hc hi ⟨v,rfl,sc⟩
  have i10:i≤40:=by
   revert hi
   unfold Builtin.Range.rangeSize;rw [aq (by decide)]
   split
   ·split <;> split <;> lia
   ·lia
  have Nu:bO K Hc a (ns.map V.int):=sc.seq hS;dsimp only [cg];have eI:(0:Int)+(i:Int)*4=((4*i:Nat):Int):=by lia
  rw [eI];refine aC fun _ hR=>aY ⟨_,rfl,_,rfl,a,ns,4*i,rfl,Nu,by lia,fun tp td tab od am q n o rt vf av f H1 s1 dI tw hq n1 n6 pc _ _ _ _=>⟨tp,_,rfl,.of dI,rfl,_,_,rfl,_,_,rfl,_,_,rfl,_,_,rfl,rfl,hR _ _ ?_⟩⟩
  have lo:=eh pc.nN;simp only [wW,wX];refine aC fun _ hR=>aY ⟨_,rfl,fun z dz nz Nv ne=>⟨z,dz,td,lA q,rfl,au,?_,fun _=>⟨rfl,hR _ _ ?_⟩,fun hg=>absurd ((RP hq).symm.trans hg) (by decide)⟩⟩
  ·have e:=tw.at
   rw [aO (fk e nz),aO (fk e Nv)];exact e
  have s2:ae H1 (upd (upd (upd H1 dz (.own z)) z (.ins t.aX dz [])) z (.ins t.aX dz [("prime",(lA q).prime)])):=fun b o e=>by rw [aO (fk e nz),aO (fk e nz),aO (fk e Nv)];exact e
  have hz:dy t.aX (upd (upd (upd H1 dz (.own z)) z (.ins t.aX dz [])) z (.ins t.aX dz [("prime",(lA q).prime)])) z q:=⟨dz,by rw [au,Sa]⟩
  generalize (upd (upd (upd H1 dz (.own z)) z (.ins t.aX dz [])) z (.ins t.aX dz [("prime",(lA q).prime)]))=H2 at s2 hz ⊢;have oz:=pc.mono s2;have tw2:=tw.mono s2;have YD:=(s1.trans s2).seq Nu;refine aC fun _ hR=>aY ⟨_,rfl,_,rfl,_,_,rfl,rfl,a,ns,4*i+3,rfl,YD,by lia,fun Tp H3 s3 nT mD=>hR _ _ ?_⟩
  have Nw:=oz.mono s3;have tw3:=tw2.mono s3;have EK:=hz.mono s3;have neT:∀{b:Addr} {o:HO},H2 b=some o→b≠Tp:=fun{b o} e z=>by rw [z,nT] at e;cases e
  have wz:=neT oz.tab.lst;have BM:=neT oz.ord;have amT:=neT oz.nO;have km:∀i,i<n→rt i≠Tp:=fun i hi=>neT (oz.tab.at' i hi);refine aC fun _ hR=>aY ⟨_,rfl,_,rfl,Tp,od,n,o,rfl,mD,BM,Nw.ord,Nw.nN,n1,by lia,fun wv H4 o4 M6 Nx=>hR _ _ ?_⟩
  have Fe:ae H2 H4:=fun b u e=>o4 b u (neT e) (s3 _ _ e);have Ny:=oz.mono Fe;have tw4:=tw2.mono Fe;refine aC fun _ hR=>aY ⟨_,rfl,_,rfl,_,rfl,td,Tp,tab,q,n,rt,vf,f,rfl,tw4,hq,M6,Ny.tab.r,wz,km,Ny.num,n1,by lia,fun ov H5 o5 rP Nz=>hR _ _ ?_⟩
  have NA:=Nx.off o5;have NB:ae H2 H5:=fun b u e=>o5 b u (neT e) (Fe _ _ e);have Ff:=oz.mono NB;have lam:((List.range n).map av).length=n:=by simp
  refine aC fun _ hR=>aY (UP (fun x Hx=>∃(sh:Addr) (us:List V),x=.ref sh∧aG Tp H5 Hx∧a7 Hx Tp∧Hx sh=some (.lst us)∧us.length≠n) (fun R' NC=>?_) ?_)
  ·refine ⟨_,rfl,1,rfl,am,_,rfl,.of Ff.nO,fun la lN=>?_⟩
   have sa:ae H5 (upd H5 la (.lst (cT ((List.range n).map av) (some 1) none))):=aA lN;have Fg:upd H5 la (.lst (cT ((List.range n).map av) (some 1) none)) la=some (.lst (cT ((List.range n).map av) (some 1) none)):=au;have YE:la≠Tp:=rP.ne lN;have ND:(cT ((List.range n).map av) (some 1) none).length≠n:=by rw [show (1:Int)=((1:Nat):Int) from rfl,DE,oF,lam];lia
   generalize cT ((List.range n).map av) (some 1) none=ca at sa Fg ND ⊢;generalize upd H5 la (.lst ca)=Ha at sa Fg ⊢;refine ⟨_,rfl,_,rfl,1,rfl,am,_,rfl,.of (sa _ _ Ff.nO),fun lb lO=>?_⟩;have sb:ae Ha (upd Ha lb (.lst (cT ((List.range n).map av) none (some 1)))):=aA lO;have jA:upd Ha lb (.lst (cT ((List.range n).map av) none (some 1))) lb=some (.lst (cT ((List.range n).map av) none (some 1))):=au;have YF:(cT ((List.range n).map av) none (some 1)).length=1:=by rw [show (1:Int)=((1:Nat):Int) from rfl,C9,jc,lam];lia
   generalize cT ((List.range n).map av) none (some 1)=cb at sb jA YF ⊢;generalize upd Ha lb (.lst cb)=Hb at sb jA ⊢;have eF:=sa.trans sb;refine ⟨am,lb,_,_,rfl,rfl,eF _ _ Ff.nO,jA,a8 (show _≤100 by rw [lam];lia) (by decide),fun lc ou=>?_⟩
   have BP:ae Hb (upd Hb lc (.lst (((List.range n).map av)++cb))):=aA ou;have Fh:upd Hb lc (.lst (((List.range n).map av)++cb)) lc=some (.lst (((List.range n).map av)++cb)):=au;have YG:lc≠Tp:=(rP.mono eF).ne ou;have NF:(((List.range n).map av)++cb).length≠n:=by rw [cR,lam];lia
   generalize ((List.range n).map av)++cb=cc at BP Fh NF ⊢;generalize upd Hb lc (.lst cc)=BQ at BP Fh ⊢;refine ⟨by show 2≤sizeLine;decide,fun ll ku=>?_⟩
   have sl:ae BQ (upd BQ ll (.lst [.ref la,.ref lc])):=aA ku;have ky:upd BQ ll (.lst [.ref la,.ref lc]) ll=some (.lst [.ref la,.ref lc]):=au;have Fi:=eF.trans BP;have rR:ll≠Tp:=(rP.mono Fi).ne ku;generalize upd BQ ll (.lst [.ref la,.ref lc])=Hl at sl ky ⊢;refine ⟨_,rfl,Tp,2,rfl,rP.mono (Fi.trans sl),by decide,by decide,fun dg Hf rV of tf=>?_⟩
   have kz:=of _ _ rR ky;have NG:aG Tp H5 Hf:=(aG.of (Fi.trans sl)).trans of
   match dg,rV with
   | 0,_=>exact ⟨ll,_,_,.ref la,rfl,rfl,.of kz,rfl,NC _ _ ⟨la,ca,rfl,NG,tf,of _ _ YE (sl _ _ (BP _ _ (sb _ _ Fg))),ND⟩⟩
   | 1,_=>exact ⟨ll,_,_,.ref lc,rfl,rfl,.of kz,rfl,NC _ _ ⟨lc,cc,rfl,NG,tf,of _ _ YG (sl _ _ Fh),NF⟩⟩
  rintro x H6 ⟨sh,us,rfl,o6,Xx,YH,YI⟩;refine hR _ _ ?_;have Fj:ae H2 H6:=fun b u e=>o6 b u (neT e) (NB _ _ e);obtain ⟨wl,zs,rfl,wT,YJ,YK,YL⟩:=NA.off o6;obtain ⟨ol,k,m,ra,vo,fo,rfl,oT,raT,hO,YM,k1,YN,mk⟩:=Nz.off rP o6;have rY:=oz.mono Fj;have BR:=hz.mono Fj;clear NA Nx Nz;have lo:=eh rY.nN;have dH:n≤40:=by lia
  have YO:∀{Hx:Hp} {Q':VK} {E':XK},ae H6 Hx→(∀v H',ae Hx H'→Q' v H')→xN t.aX t.bf t.bq [.ref z,.ref tab,.ref od,.ref am] Hx Q' E':=fun{Hx Q' E'} sx k=>by have px:=rY.mono sx;exact .inl ⟨z,tab,od,am,q,1000,df n 997,n,ic n n f,o,fW q n f,h_ q,av,rfl,BR.mono sx,hq,px.DU,by decide +kernel,nM,n1,dH,z8,px.ord,px.nN,px.cF hq (by lia),px.UO hq,fun _ _ _ _ tp r lv H' s' _ _ _ _ _=>k _ H' s',fun _ tp r lv g H' s' _ _ _ _ _ _=>k _ H' s'⟩
  have YQ:∀{Hx:Hp} {Q':VK} {E':XK},ae H6 Hx→(∀v H',ae Hx H'→Q' v H')→DW t.aX t.bf t.bq [.ref z,.ref tab,.ref od] Hx Q' E':=fun{Hx Q' E'} sx k=>by have px:=rY.mono sx;exact .inl ⟨z,tab,od,q,1000,df n 997,n,ic n n f,o,fW q n f,h_ q,rfl,BR.mono sx,hq,px.DU,by decide +kernel,nM,n1,dH,z8,px.ord,px.nN,px.cF hq (by lia),lub (xK px.sm) lo,fun _ _ _ _ H' s'=>k _ H' s',fun _ fd lw up rl ru lf uf H' s' _=>k _ H' s'⟩
  have NH:∀{Hx:Hp} {Q':VK} {E':XK} {dd:Addr},ae H6 Hx→(∀H',ae Hx H'→E' (.ref t.bf) none H')→xM t.aX t.bf t.bq [.ref z,.ref ol,.ref dd] Hx Q' E':=fun{Hx Q' E' dd} sx k'=>⟨z,ol,dd,q,1000,m,ic k m fo,[],rfl,BR.mono sx,hq,JU (hO.mono sx) (fun i j hi hj=>(YM i j hi hj).mono sx),by rw [nM];exact k1,by rw [nM];exact YN,z8,.inl ⟨by rw [nM];exact mk,k'⟩⟩
  have YR:∀{Hx:Hp} {Q':VK} {E':XK} {dd:Addr},ae H6 Hx→(∀H',ae Hx H'→E' (.ref t.bf) none H')→xN t.aX t.bf t.bq [.ref z,.ref ol,.ref dd,.ref am] Hx Q' E':=fun{Hx Q' E' dd} sx k'=>by
   refine .inr ⟨z,ol,dd,am,_,_,rfl,sx _ _ rY.nO,sx _ _ hO.lst,?_⟩;by_cases e:n=k;·exact .inr ⟨by simp [e],NH sx k'⟩
   ·exact .inl ⟨by simp [e],k'⟩
  have YS:∀{Hx:Hp} {Q':VK} {E':XK} {dd:Addr},ae H6 Hx→(∀H',ae Hx H'→E' (.ref t.bf) none H')→xN t.aX t.bf t.bq [.ref z,.ref tab,.ref dd,.ref sh] Hx Q' E':=fun{Hx Q' E' dd} sx k'=>.inr ⟨z,tab,dd,sh,_,_,rfl,sx _ _ YH,sx _ _ rY.tab.lst,.inl ⟨by simpa using YI,k'⟩⟩
  have NI:∀{Hx:Hp} {Q':VK} {E':XK},ae H6 Hx→(∀H',ae Hx H'→E' (.ref t.bq) none H')→xM t.aX t.bf t.bq [.ref z,.ref tab,.ref wl] Hx Q' E':=fun{Hx Q' E'} sx k'=>by have px:=rY.mono sx;exact ⟨z,tab,wl,q,1000,n,ic n n f,zs,rfl,BR.mono sx,hq,px.DU,by rw [nM];exact n1,by rw [nM];exact dH,z8,.inr ⟨nM.symm,sx _ _ YJ,YK,YL,k'⟩⟩
  simp only [wW,wX];refine aC fun _ hR=>⟨_,rfl,_,rfl,_,rfl,_,rfl,z,tab,od,am,0,"",rfl,.inl ⟨rfl,fun Q' E' kq _ _=>YO (ae.refl _) fun v H' s'=>kq v H' s' rfl⟩,fun H7 s7=>⟨rfl,false,by decide +kernel,cK ?_⟩⟩
  refine ⟨_,rfl,_,rfl,_,rfl,_,rfl,z,tab,od,am,1,"",rfl,.inr ⟨rfl,fun Q' E' kq _ _=>YQ s7 fun v H' s'=>kq v H' s' rfl⟩,fun H8 s8=>⟨rfl,false,by decide +kernel,cK (hR _ _ ?_)⟩⟩
  have YT:=s7.trans s8;refine aC fun _ hR=>⟨_,rfl,_,rfl,by show 2≤sizeLine;decide,fun ls M_=>⟨ls,rfl,⟨_,.of au⟩,?_⟩⟩
  have s9:ae H8 (upd H8 ls (.lst [.ref od,.ref wl])):=aA M_;have NJ:upd H8 ls (.lst [.ref od,.ref wl]) ls=some (.lst [.ref od,.ref wl]):=au;generalize upd H8 ls (.lst [.ref od,.ref wl])=H9 at s9 NJ ⊢;have NK:=YT.trans s9;refine k4 (K:=K) (a:=ls) (xs:=[.ref od,.ref wl]) (fun kx σ Hd=>∃(v11:Option V),σ=[some (.ref a),some (.int ((4*i:Nat):Int)),some (.ref td),some (.ref tab),some (.ref od),some (.ref am),some (.ref z),some (.ref Tp),some (.ref wl),some (.ref ol),some (.ref sh),v11]∧ae H9 Hd) ⟨_,rfl,ae.refl _⟩ (fun kx σ Hd _ ⟨_,_,sd⟩=>.of (sd _ _ NJ)) ?_ ?_
  ·rintro kx x σ Hd hx ⟨v11,rfl,sd⟩
   obtain ⟨dd,rfl⟩:∃dd,x=.ref dd:=by
    have:=gv hx;simp only [cM,mL,or_false] at this;rcases this with rfl | rfl;·exact ⟨_,rfl⟩
    ·exact ⟨_,rfl⟩
   dsimp only [cg];have oA:=NK.trans sd;refine aC fun _ hR=>⟨_,rfl,_,rfl,_,rfl,_,rfl,z,ol,dd,am,0,"fit",rfl,.inl ⟨rfl,fun Q' E' _ kf _=>YR oA fun H' s'=>kf H' s' rfl⟩,fun rQ wA=>⟨rfl,false,by decide +kernel,cK ?_⟩⟩
   refine ⟨_,rfl,_,rfl,_,rfl,_,rfl,z,ol,dd,am,1,"fit",rfl,.inr ⟨rfl,fun Q' E' _ kf _=>.inr (NH (oA.trans wA) fun H' s'=>kf H' s' rfl)⟩,fun wx lM=>⟨rfl,false,by decide +kernel,cK (hR _ _ ?_)⟩⟩
   refine ⟨_,rfl,_,rfl,_,rfl,_,rfl,z,tab,dd,sh,0,"fit",rfl,.inl ⟨rfl,fun Q' E' _ kf _=>YS (oA.trans (wA.trans lM)) fun H' s'=>kf H' s' rfl⟩,fun H12 di=>⟨rfl,false,by decide +kernel,cK ⟨_,rfl,sd.trans (wA.trans (lM.trans di))⟩⟩⟩
  ·rintro σ Hd ⟨v11,rfl,sd⟩
   refine hR _ _ ?_;have oA:=NK.trans sd;have px:=rY.mono oA;refine ⟨_,rfl,_,rfl,_,rfl,_,rfl,z,tab,wl,am,0,"order",rfl,.inl ⟨rfl,fun Q' E' _ _ ko=>.inr ⟨z,tab,wl,am,_,_,rfl,px.nO,px.tab.lst,.inr ⟨by simp,NI oA fun H' s'=>ko H' s' rfl⟩⟩⟩,fun rQ wA=>⟨rfl,false,by decide +kernel,cK ?_⟩⟩
   refine ⟨_,rfl,_,rfl,_,rfl,_,rfl,z,tab,wl,am,1,"order",rfl,.inr ⟨rfl,fun Q' E' _ _ ko=>.inr (NI (oA.trans wA) fun H' s'=>ko H' s' rfl)⟩,fun wx lM=>⟨rfl,false,by decide +kernel,cK ?_⟩⟩
   exact ⟨fun k=>List.getD [none,_,_,_,_,_,_,_,_,_,_,_] k none,rfl,sc.trans (s1.trans (s2.trans (Fj.trans (oA.trans (wA.trans lM)))))⟩
 ·rintro σ Hc ⟨v,rfl,sc⟩
  exact hR _ _ (kQ _)
theorem YU{l:PySem.W.OpenLaw}(T:Txt K mg t):∃fd:FuncData,(∀(s:Shared) (v:Value),BindsTo s fd ⟨[v],[]⟩ [("script",v)])∧∀base:Heap,K.In base→base.Ns mainGlobals mg→aV l.prog w K mg base bK 12 t.nS fd ["script"] (zy K):=by obtain ⟨oc,od,kV,doc,pm,an,aZ,ct,fA,e,lk,fq⟩:=T.v9.ex;refine ⟨t.q5,fun s v=>?_,fun base _ _=>Yx T⟩;rw [e];exact .of_eq rfl
end
theorem walk{l:PySem.W.OpenLaw}{q:Program}{loose:List Str}{XP:(Str→Option Value)→Heap→Prop}{YP:World→Heap→Prop}{d:DefRec}{K:Params→PySem.W.Frag}(hn:l.most=some 63)(xn:d.params.defaults=[])
  (hY:∀(w:World) (h:Heap),YP w h→(K w.params).In h)
  (F:∀(w:World) (mg:cG) (fa:Addr) (h:Heap),(K w.params).In h→h.Ns mainGlobals mg→mg d.name=some (.ref fa)→
   ∃fd:FuncData,(∀(s:Shared) (u:Value),BindsTo s fd ⟨[u],[]⟩ [("script",u)])∧∀base:Heap,(K w.params).In base→base.Ns mainGlobals mg→aV l.prog w (K w.params) mg base bK 12 fa fd ["script"] (zy (K w.params))) :
  PySem.W.WalkO q loose XP YP l.row.toRowW d [] (fun f vs=>PySem.call f vs):=
 L2.Qb (n:=63) (k:=12) (x:="script") (CX:=fun _=>bK) (sp:=fun w=>zy (K w.params)) hn (by decide) xn ⟨rfl,by decide,by decide⟩ hY F (fun _ _ a ns hl _ hS=>⟨a,ns,rfl,hS,hl,fun _=>rfl⟩) fun _ _ _ _ _ z=>z
theorem YV{K:aD}{h:Heap}{mg:cG}(X:K.In h)(G:h.Ns mainGlobals mg)
  {aX:Addr}
  {j9:Addr}
  {fX:Addr}
  {lI:Addr}
  {bf:Addr}
  {nU:Addr}
  {bq:Addr}
  {nV:Addr}
  {nW:Addr}
  {nX:Addr}
  {mr:Addr} {YW NL:Option Addr} {YX:Array (Option Value)} {YY NM NN NO Fl NP:Value}
  {Fm:Addr} {YZ:Tok} {Y0:Value} {Y1:Option Addr} {Y2:Nat} {Y3:Array (Option Value)}
  {Y4:Tok}
  {Y5:Tok}
  {p6 p7 p8 p9 t9 p_ qa qb qc qd qe qf qg qh qi qj qk ql qm qo qr qt qu qv qw qx qy qz qA qB qC qD qE qF qG qH qI qJ qK qL qM qN qO qP qQ qR qS qT qU qV qW qX qY qZ nS q8 va q_ rb rf:Addr} {tY tZ t6 t8 xQ t_ ua ub uc ud ue ug uh uj um uo ur uu uv uw ux uy uz uA uB uC uD uE uF uH uI uJ uK uM uN uO uP uQ uR uS uT uU uV uW uX uY uZ u0 u3 u4 u5 u6 u7 u9 q5 u_ xS vb vc vd:FuncData}
  (Fo:PySem.W.nsIn K mainGlobals "World"=some (some (.ref aX)))
  (Fp:PySem.W.nsIn K mainGlobals "NoWorld"=some (some (.ref j9)))
  (Fq:PySem.W.nsIn K mainGlobals "NoOver"=some (some (.ref fX)))
  (Fv:PySem.W.nsIn K mainGlobals "WrightError"=some (some (.ref lI)))
  (Fw:PySem.W.nsIn K mainGlobals "NoFit"=some (some (.ref bf)))
  (Fx:PySem.W.nsIn K mainGlobals "NoShape"=some (some (.ref nU)))
  (Fy:PySem.W.nsIn K mainGlobals "NoOrder"=some (some (.ref bq)))
  (Fz:PySem.W.nsIn K mainGlobals "NoSize"=some (some (.ref nV)))
  (FA:PySem.W.nsIn K mainGlobals "NoLink"=some (some (.ref nW)))
  (FD:PySem.W.nsIn K mainGlobals "Tied"=some (some (.ref nX)))
  (Y6:mg "width"=some (.ref p6))
  (ve:az K "width" Ac p6 tY)
  (Y7:mg "square_size"=some (.ref p7))
  (vg:az K "square_size" Ad p7 tZ)
  (Y8:mg "check_aim"=some (.ref p8))
  (vh:az K "check_aim" Ae p8 t6)
  (Y9:mg "is_whole"=some (.ref p9))
  (rh:az K "is_whole" Af p9 t8)
  (Y_:mg "shortened"=some (.ref t9))
  (Bb:az K "shortened" D4 t9 xQ)
  (Za:mg "common_divisor"=some (.ref p_))
  (lJ:az K "common_divisor" Ag p_ t_)
  (Zb:mg "is_prime"=some (.ref qa))
  (vk:az K "is_prime" Ah qa ua)
  (Zc:mg "links_of_place"=some (.ref qb))
  (vm:az K "links_of_place" Ai qb ub)
  (Zd:mg "shape_of"=some (.ref qc))
  (vn:az K "shape_of" Aj qc uc)
  (Ze:mg "neighbours"=some (.ref qd))
  (vp:az K "neighbours" Ak qd ud)
  (Zf:mg "is_order"=some (.ref qe))
  (vq:az K "is_order" Al qe ue)
  (Zg:mg "check_order"=some (.ref qf))
  (vt:az K "check_order" Am qf ug)
  (Zh:mg "turns_of"=some (.ref qg))
  (rj:az K "turns_of" An qg uh)
  (Zi:mg "link_all"=some (.ref qh))
  (vv:az K "link_all" Ao qh uj)
  (Zj:mg "later"=some (.ref qi))
  (vw:az K "later" Ap qi um)
  (Zk:mg "place_deeds"=some (.ref qj))
  (vx:az K "place_deeds" Aq qj uo)
  (Zl:mg "undo_place"=some (.ref qk))
  (vy:az K "undo_place" Ar qk ur)
  (Zm:mg "packed"=some (.ref ql))
  (rn:az K "packed" As ql uu)
  (Zn:mg "lowered"=some (.ref qm))
  (vz:az K "lowered" Au qm uv)
  (Zo:mg "raised"=some (.ref qo))
  (rq:az K "raised" Av qo uw)
  (Zp:mg "tied_move"=some (.ref qr))
  (vA:az K "tied_move" Aw qr ux)
  (Zq:mg "along"=some (.ref qt))
  (vB:az K "along" Ax qt uy)
  (Zr:mg "lower_row"=some (.ref qu))
  (vC:az K "lower_row" Ay qu uz)
  (Zs:mg "upper_row"=some (.ref qv))
  (vD:az K "upper_row" Az qv uA)
  (Zt:mg "lower_of"=some (.ref qw))
  (vE:az K "lower_of" AA qw uB)
  (Zu:mg "upper_of"=some (.ref qx))
  (vF:az K "upper_of" AB qx uC)
  (Zv:mg "factors"=some (.ref qy))
  (vG:az K "factors" AD qy uD)
  (Zw:mg "ratio"=some (.ref qz))
  (vH:az K "ratio" AE qz uE)
  (Zx:mg "ratio_plus"=some (.ref qA))
  (vI:az K "ratio_plus" AF qA uF)
  (Zy:mg "ratio_minus"=some (.ref qB))
  (vJ:az K "ratio_minus" AG qB uH)
  (Zz:mg "ratio_times"=some (.ref qC))
  (nY:az K "ratio_times" AH qC uI)
  (ZA:mg "ratio_over"=some (.ref qD))
  (vK:az K "ratio_over" AI qD uJ)
  (ZC:mg "remainder_back"=some (.ref qE))
  (vL:az K "remainder_back" AJ qE uK)
  (ZD:mg "remainder_over"=some (.ref qF))
  (rz:az K "remainder_over" AK qF uM)
  (ZE:mg "is_fractions"=some (.ref qG))
  (vM:az K "is_fractions" AL qG uN)
  (ZF:mg "is_wheel"=some (.ref qH))
  (vN:az K "is_wheel" AM qH uO)
  (ZG:mg "_law_acell"=some (.ref qI))
  (vO:az K "_law_acell" AN qI uP)
  (ZH:mg "_law_atape"=some (.ref qJ))
  (lK:az K "_law_atape" AO qJ uQ)
  (ZI:mg "_law_adigit"=some (.ref qK))
  (dZ:az K "_law_adigit" AQ qK uR)
  (ZJ:mg "_law_adivisor"=some (.ref qL))
  (vR:az K "_law_adivisor" AR qL uS)
  (ZK:mg "_law_aturned"=some (.ref qM))
  (vS:az K "_law_aturned" AS qM uT)
  (ZL:mg "_law_anumber"=some (.ref qN))
  (nZ:az K "_law_anumber" AU qN uU)
  (ZM:mg "_law_aworld"=some (.ref qO))
  (vT:az K "_law_aworld" AV qO uV)
  (ZN:mg "_law_asome"=some (.ref qP))
  (mw:az K "_law_asome" AW qP uW)
  (ZO:mg "_law_anought"=some (.ref qQ))
  (n8:az K "_law_anought" AX qQ uX)
  (ZP:mg "_law_atable"=some (.ref qR))
  (vU:az K "_law_atable" AY qR uY)
  (ZQ:mg "_law_alinks"=some (.ref qS))
  (vV:az K "_law_alinks" AZ qS uZ)
  (ZR:mg "_law_aorder"=some (.ref qT))
  (vW:az K "_law_aorder" A0 qT u0)
  (ZS:mg "_law_arow"=some (.ref qU))
  (rA:az K "_law_arow" A1 qU u3)
  (ZT:mg "_law_apiece"=some (.ref qV))
  (vX:az K "_law_apiece" A2 qV u4)
  (ZU:mg "_law_akind"=some (.ref qW))
  (vY:az K "_law_akind" A3 qW u5)
  (ZV:mg "_law_atold"=some (.ref qX))
  (jy:az K "_law_atold" A4 qX u6)
  (ZW:mg "_law_abad_order"=some (.ref qY))
  (vZ:az K "_law_abad_order" A5 qY u7)
  (ZX:mg "_law_abad_table"=some (.ref qZ))
  (v8:az K "_law_abad_table" A6 qZ u9)
  (ZY:mg "law"=some (.ref nS))
  (v9:az K "law" A7 nS q5)
  (Bi:Mk K aX q8)
  (xW:dO K "__init__" "World.__init__" A8 q8 u_)
  (FE:PySem.W.findIn K (.ref aX) "of"=some (some (.ref mr)))
  (FF:PySem.W.isFn K (.ref mr)=true)
  (wB:K.lookup mr=some ⟨YY,YW,.func (PySem.W.fnOf "of" "World.of" (iZ jx) (fS jx) (aH jx) (.ref Fm) NM NN NO NL Fl NP),YX⟩)
  (wC:PySem.W.codeIn K Fl "World.of"=true)
  (rZ:PySem.W.keepIn K (.ref mr)=true)
  (wD:K.lookup Fm=some ⟨Y0,Y1,.seq #[.int 1 YZ] Y2,Y3⟩)
  (Eh:Meth K aX "plus" va)
  (Bj:dO K "plus" "World.plus" D5 va xS)
  (wa:Meth K aX "minus" q_)
  (xX:dO K "minus" "World.minus" A9 q_ vb)
  (wb:Meth K aX "times" rb)
  (xY:dO K "times" "World.times" A_ rb vc)
  (x4:Meth K aX "over" rf)
  (xZ:dO K "over" "World.over" Ba rf vd)
  (FG:PySem.W.plainGet K aX Str.empty=true)
  (FH:PySem.W.hasDictIn K aX=true)
  (FI:PySem.W.plainOver K aX=true)
  (FJ:PySem.W.findIn K (.ref aX) "__setattr__"=some (some (.builtin "object.__setattr__")))
  (FL:PySem.W.findIn K (.ref aX) "prime"=some none)
  (FN:PySem.W.nsIn K mainGlobals "ValueError"=some none)
  (FO:PySem.W.nsIn K mainGlobals "abs"=some none)
  (FP:PySem.W.nsIn K mainGlobals "all"=some none)
  (FQ:PySem.W.nsIn K mainGlobals "any"=some none)
  (FT:PySem.W.nsIn K mainGlobals "bool"=some none)
  (FU:PySem.W.nsIn K mainGlobals "enumerate"=some none)
  (FW:PySem.W.nsIn K mainGlobals "int"=some none)
  (FY:PySem.W.nsIn K mainGlobals "isinstance"=some none)
  (FZ:PySem.W.nsIn K mainGlobals "len"=some none)
  (F0:PySem.W.nsIn K mainGlobals "list"=some none)
  (F5:PySem.W.nsIn K mainGlobals "max"=some none)
  (F8:PySem.W.nsIn K mainGlobals "min"=some none)
  (F9:PySem.W.nsIn K mainGlobals "range"=some none)
  (F_:PySem.W.nsIn K mainGlobals "reversed"=some none)
  (Ga:PySem.W.nsIn K mainGlobals "sorted"=some none)
  (Gb:PySem.W.nsIn K mainGlobals "sum"=some none)
  (Gd:PySem.W.nsIn K mainGlobals "tuple"=some none)
  (Ge:PySem.W.nsIn K mainGlobals "zip"=some none)
  (Gf:PySem.W.nsIn K mainGlobals "GREATEST_PRIME"=some (some (.int 997 Y4)))
  (Gg:PySem.W.nsIn K mainGlobals "LONG"=some (some (.int 2048 Y5)))
  (Gh:PySem.W.excIn K j9 [.type "ValueError",.type "Exception",.type "BaseException",.type "object"] "ValueError.__new__"=true)
  (Gi:PySem.W.excIn K fX [.type "ValueError",.type "Exception",.type "BaseException",.type "object"] "ValueError.__new__"=true)
  (Gj:PySem.W.excIn K bf [.type "ValueError",.type "Exception",.type "BaseException",.type "object"] "ValueError.__new__"=true)
  (Gk:PySem.W.excIn K bq [.type "ValueError",.type "Exception",.type "BaseException",.type "object"] "ValueError.__new__"=true)
  (Gm:PySem.W.excIn K lI [.type "ValueError",.type "Exception",.type "BaseException",.type "object"] "ValueError.__new__"=true)
  (Gn:PySem.W.mroIn K bf (.ref lI)=some true)
  (Gp:PySem.W.kitOne K (.ref bf) (.type "ValueError")=some true)
  (Gq:PySem.W.kitOne K (.ref bf) (.ref j9)=some false)
  (Gr:PySem.W.kitOne K (.ref bf) (.ref fX)=some false)
  (Gs:PySem.W.kitOne K (.ref bf) (.ref bf)=some true)
  (Gu:PySem.W.kitOne K (.ref bf) (.ref nU)=some false)
  (Gv:PySem.W.kitOne K (.ref bf) (.ref bq)=some false)
  (Gw:PySem.W.kitOne K (.ref bf) (.ref nV)=some false)
  (Gx:PySem.W.kitOne K (.ref bf) (.ref nW)=some false)
  (Gy:PySem.W.kitOne K (.ref bf) (.ref nX)=some false)
  (Gz:PySem.W.hasDictIn K bf=true)
  (GA:PySem.W.findIn K (.ref bf) "__getattribute__"=some (some (.builtin "BaseException.__getattribute__")))
  (GB:PySem.W.findIn K (.ref bf) "__getattr__"=some none)
  (GC:PySem.W.findIn K (.ref bf) "__class__"=some (some (.builtin "object.__class__")))
  (GD:PySem.W.mroIn K bf (.type "object")=some true)
  (GF:PySem.W.mroIn K bf (.type "BaseException")=some true)
  (GG:PySem.W.mroIn K bq (.ref lI)=some true)
  (GH:PySem.W.kitOne K (.ref bq) (.type "ValueError")=some true)
  (GI:PySem.W.kitOne K (.ref bq) (.ref j9)=some false)
  (GJ:PySem.W.kitOne K (.ref bq) (.ref fX)=some false)
  (GK:PySem.W.kitOne K (.ref bq) (.ref bf)=some false)
  (GL:PySem.W.kitOne K (.ref bq) (.ref nU)=some false)
  (GN:PySem.W.kitOne K (.ref bq) (.ref bq)=some true)
  (GO:PySem.W.kitOne K (.ref bq) (.ref nV)=some false)
  (GP:PySem.W.kitOne K (.ref bq) (.ref nW)=some false)
  (GQ:PySem.W.kitOne K (.ref bq) (.ref nX)=some false)
  (GR:PySem.W.hasDictIn K bq=true)
  (GS:PySem.W.findIn K (.ref bq) "__getattribute__"=some (some (.builtin "BaseException.__getattribute__")))
  (GU:PySem.W.findIn K (.ref bq) "__getattr__"=some none)
  (GV:PySem.W.findIn K (.ref bq) "__class__"=some (some (.builtin "object.__class__")))
  (GW:PySem.W.mroIn K bq (.type "object")=some true)
  (GX:PySem.W.mroIn K bq (.type "BaseException")=some true)
  : ∃t:xP,Txt K mg t:=by
 refine ⟨⟨p6,tY,p7,tZ,p8,t6,p9,t8,t9,xQ,p_,t_,qa,ua,qb,ub,qc,uc,qd,ud,qe,ue,qf,ug,qg,uh,qh,uj,qi,um,qj,uo,qk,ur,ql,uu,qm,uv,qo,uw,qr,ux,qt,uy,qu,uz,qv,uA,qw,uB,qx,uC,qy,uD,qz,uE,qA,uF,qB,uH,qC,uI,qD,uJ,qE,uK,qF,uM,qG,uN,qH,uO,qI,uP,qJ,uQ,qK,uR,qL,uS,qM,uT,qN,uU,qO,uV,qP,uW,qQ,uX,qR,uY,qS,uZ,qT,u0,qU,u3,qV,u4,qW,u5,qX,u6,qY,u7,qZ,u9,nS,q5,q8,u_,mr,PySem.W.fnOf "of" "World.of" (iZ jx) (fS jx) (aH jx) (.ref Fm) NM NN NO NL Fl NP,va,xS,q_,vb,rb,vc,rf,vd,aX,j9,fX,lI,bf,nU,bq,nV,nW,nX⟩,?_⟩
 exact {
  ve:=ve
  J0:=ve.bD
  J1:=Y6
  vg:=vg
  J2:=vg.bD
  J4:=Y7
  vh:=vh
  J5:=vh.bD
  J6:=Y8
  rh:=rh
  D6:=rh.bD
  D7:=Y9
  Bb:=Bb
  Vh:=Bb.bD
  Vi:=Y_
  lJ:=lJ
  vi:=lJ.bD
  vj:=Za
  vk:=vk
  J7:=vk.bD
  J8:=Zb
  vm:=vm
  J9:=vm.bD
  J_:=Zc
  vn:=vn
  Ka:=vn.bD
  Kb:=Zd
  vp:=vp
  Ke:=vp.bD
  Ki:=Ze
  vq:=vq
  Kj:=vq.bD
  Kk:=Zf
  vt:=vt
  Kl:=vt.bD
  Km:=Zg
  rj:=rj
  D8:=rj.bD
  D9:=Zh
  vv:=vv
  Kn:=vv.bD
  Ko:=Zi
  vw:=vw
  Kp:=vw.bD
  Kq:=Zj
  vx:=vx
  Kr:=vx.bD
  Ks:=Zk
  vy:=vy
  Kt:=vy.bD
  Ku:=Zl
  rn:=rn
  D_:=rn.bD
  Ea:=Zm
  vz:=vz
  Kv:=vz.bD
  Kw:=Zn
  rq:=rq
  Eb:=rq.bD
  Ec:=Zo
  vA:=vA
  Kx:=vA.bD
  Ky:=Zp
  vB:=vB
  Kz:=vB.bD
  KA:=Zq
  vC:=vC
  KC:=vC.bD
  KD:=Zr
  vD:=vD
  KG:=vD.bD
  KH:=Zs
  vE:=vE
  KI:=vE.bD
  KJ:=Zt
  vF:=vF
  KN:=vF.bD
  KO:=Zu
  vG:=vG
  KP:=vG.bD
  KQ:=Zv
  vH:=vH
  KR:=vH.bD
  KS:=Zw
  vI:=vI
  KU:=vI.bD
  KW:=Zx
  vJ:=vJ
  KY:=vJ.bD
  KZ:=Zy
  nY:=nY
  Bc:=nY.bD
  Bd:=Zz
  vK:=vK
  K6:=vK.bD
  K7:=ZA
  vL:=vL
  K8:=vL.bD
  K9:=ZC
  rz:=rz
  Ed:=rz.bD
  Ee:=ZD
  vM:=vM
  K_:=vM.bD
  La:=ZE
  vN:=vN
  Lb:=vN.bD
  Lc:=ZF
  vO:=vO
  Ld:=vO.bD
  Le:=ZG
  lK:=lK
  vP:=lK.bD
  vQ:=ZH
  dZ:=dZ
  fH:=dZ.bD
  fI:=ZI
  vR:=vR
  Lf:=vR.bD
  Lg:=ZJ
  vS:=vS
  Lh:=vS.bD
  Li:=ZK
  nZ:=nZ
  Be:=nZ.bD
  Bf:=ZL
  vT:=vT
  Lj:=vT.bD
  Ll:=ZM
  mw:=mw
  xU:=mw.bD
  xV:=ZN
  n8:=n8
  Bg:=n8.bD
  Bh:=ZO
  vU:=vU
  Lm:=vU.bD
  Ln:=ZP
  vV:=vV
  Lo:=vV.bD
  Lp:=ZQ
  vW:=vW
  Lq:=vW.bD
  Lr:=ZR
  rA:=rA
  Ef:=rA.bD
  Eg:=ZS
  vX:=vX
  Ls:=vX.bD
  Lu:=ZT
  vY:=vY
  Lv:=vY.bD
  Lw:=ZU
  jy:=jy
  n_:=jy.bD
  og:=ZV
  vZ:=vZ
  Lx:=vZ.bD
  Ly:=ZW
  v8:=v8
  Lz:=v8.bD
  LB:=ZX
  v9:=v9
  Vj:=v9.bD
  LC:=ZY
  xW:=xW
  LD:=xW.bD
  Bi:=Bi
  LF:=(zF (st:=jx) (i:=1) wB wC rZ wD)
  Vk:=i6.binds (ps:=["self","top","bottom"]) (zF (st:=jx) (i:=1) wB wC rZ wD) fun s dT kV doc pm an aZ ct tk o n us ho hd hl=>match us,hl with | [_,_,_],_=>.of_defaults rfl ho hd rfl rfl
  v_:=i6.Rq (ps:=["self","top","bottom"]) (zF (st:=jx) (i:=1) wB wC rZ wD) fun s dT kV doc pm an aZ ct tk o n us ho hd hl=>match us,hl with | [_,_],_=>.of_defaults rfl ho hd rfl rfl
  Vl:=i6.Rr (ps:=["self","top","bottom"]) (y:="bottom") (zF (st:=jx) (i:=1) wB wC rZ wD) fun s dT kV doc pm an aZ ct tk o n us ws ho hd hw hl=>match ws,us,hw,hl with | [_],[_,_],_,_=>.of_defaults rfl ho hd rfl rfl
  oh:=⟨FE,FF,rZ⟩
  Bj:=Bj
  Vm:=Bj.bD
  Eh:=Eh
  xX:=xX
  Bk:=xX.bD
  wa:=wa
  xY:=xY
  Bl:=xY.bD
  wb:=wb
  xZ:=xZ
  Ei:=xZ.bD
  x4:=x4
  dh:=⟨FG,FH,FI,FJ⟩
  LH:=a_ X G Fo
  jb:=FL
  Ej:=a_ X G Fp
  x5:=a_ X G Fq
  LI:=a_ X G Fv
  x8:=a_ X G Fw
  LJ:=a_ X G Fx
  Ek:=a_ X G Fy
  LK:=a_ X G Fz
  LL:=a_ X G FA
  LM:=a_ X G FD
  LN:=fL X G FN
  Bm:=fL X G FO
  LO:=fL X G FP
  LP:=fL X G FQ
  LQ:=fL X G FT
  rB:=fL X G FU
  Bn:=fL X G FW
  ie:=fL X G FY
  fc:=fL X G FZ
  wc:=fL X G F0
  LR:=fL X G F5
  LS:=fL X G F8
  iL:=fL X G F9
  LU:=fL X G F_
  El:=fL X G Ga
  LV:=fL X G Gb
  Bo:=fL X G Gd
  Vn:=fL X G Ge
  LW:=⟨_,a_ X G Gf,_,rfl⟩
  LX:=⟨_,a_ X G Gg,_,rfl⟩
  LY:=Gh
  Bp:=Gi
  we:=Gj
  Bq:=Gk
  LZ:=Gm
  Em:=Gn
  L0:=Gp
  L3:=Gq
  L4:=Gr
  L5:=Gs
  L6:=Gu
  L7:=Gv
  L8:=Gw
  L9:=Gx
  L_:=Gy
  Ma:=Gz
  Mb:=GA
  Mc:=GB
  Md:=GC
  Me:=GD
  Mf:=GF
  Eo:=GG
  Mg:=GH
  Mh:=GI
  Mi:=GJ
  Mj:=GK
  Ml:=GL
  Mm:=GN
  Mn:=GO
  Mo:=GP
  Mp:=GQ
  Mq:=GR
  Mr:=GS
  Ms:=GU
  Mt:=GV
  Mu:=GW
  Mv:=GX
 }
end My
namespace PySem.W.Fast
def tw16475842735417907599:Unit:=()
def tw14084153747554910639:Unit:=()
def tw8426185157482849000:Unit:=()
def tw7621059027870930145:Unit:=()
def tw9346519926007000733:Unit:=()
def tw17335036355817028191:Unit:=()
def tw16243977623195511122:Unit:=()
def tw4870898674181052442:Unit:=()
def tw16501809163257512460:Unit:=()
def tw2857426441718014261:Unit:=()
def tw12188582873813097771:Unit:=()
def tw10605612422043754107:Unit:=()
def tw3393097540642358913:Unit:=()
def tw1587214210205502755:Unit:=()
def tw13998997622912420685:Unit:=()
def tw10085839692680747058:Unit:=()
def tw3428859779948818083:Unit:=()
def tw7496472330397934293:Unit:=()
def tw17956160357503919727:Unit:=()
def tw12326023382086804700:Unit:=()
def tw7187756563244076223:Unit:=()
def tw16087857314045647653:Unit:=()
def tw14376137523170688476:Unit:=()
def tw14351299798317221069:Unit:=()
def tw15532499870582142918:Unit:=()
def tw4675603865663886364:Unit:=()
def tw12706687436553674999:Unit:=()
def tw7048094351945799630:Unit:=()
def tw7482084112691104585:Unit:=()
def tw14998616988714405952:Unit:=()
def tw5854185647233611768:Unit:=()
def tw3059033863152485172:Unit:=()
def tw12206639227422837219:Unit:=()
def tw4680645232928690737:Unit:=()
def tw150368524782380871:Unit:=()
def tw6326096838401976977:Unit:=()
def tw4462138354903835541:Unit:=()
def tw15355546360459258182:Unit:=()
def tw4521945944841605366:Unit:=()
def tw2092821903178342936:Unit:=()
def tw1841356531435843513:Unit:=()
def tw6873012780349677354:Unit:=()
def tw1990518378585215344:Unit:=()
def tw5136321712037436200:Unit:=()
def tw6465789594069155411:Unit:=()
def tw13612144382064847043:Unit:=()
def tw6858421694037882548:Unit:=()
def tw4709634316378771531:Unit:=()
def tw2545975755169833084:Unit:=()
def tw12985388722478616598:Unit:=()
def tw8933391034676926320:Unit:=()
def tw10466082231417933014:Unit:=()
def tw4784038626740965678:Unit:=()
def tw10717433734380151143:Unit:=()
def tw10182744326283102037:Unit:=()
def tw17180491687502436400:Unit:=()
def tw7785760109324271549:Unit:=()
def tw3020638608412902485:Unit:=()
def tw12629934306569579317:Unit:=()
def tw15949749935848479762:Unit:=()
def tw10757298019508199252:Unit:=()
def tw5995793969332398847:Unit:=()
def tw12228266066894334028:Unit:=()
def tw13772067699449626460:Unit:=()
def tw6630868934600887535:Unit:=()
def tw4002076031655123368:Unit:=()
def tw3094577955296117240:Unit:=()
def tw12233510762734656610:Unit:=()
def tw10467133372170633891:Unit:=()
def tw9612005078016128165:Unit:=()
def tw6459289756546189796:Unit:=()
def tw17536484611097156730:Unit:=()
def tw1415351704009102156:Unit:=()
def tw13553717020114585124:Unit:=()
def tw14945651002792747682:Unit:=()
def tw861976737683809283:Unit:=()
def tw7632283604035100401:Unit:=()
def tw6310411054004522232:Unit:=()
def tw17634816642011332853:Unit:=()
def tw16112602399275182201:Unit:=()
def tw627676830085382854:Unit:=()
def tw12811887126356050727:Unit:=()
def tw2565784647786509501:Unit:=()
def tw9713929018956667659:Unit:=()
def tw14431535108389885941:Unit:=()
def tw17100294639955868415:Unit:=()
def tw9756284611435148785:Unit:=()
def tw15731606422359874321:Unit:=()
def tw15752116199071138438:Unit:=()
def tw12491400519262516853:Unit:=()
def tw6446190020182673479:Unit:=()
def tw1695619309366713890:Unit:=()
def tw7135367894838372083:Unit:=()
def tw15225706510729720784:Unit:=()
def tw10218606204818433092:Unit:=()
def tw9717505616558336259:Unit:=()
def tw15121512832349978606:Unit:=()
def tw12072984087176564132:Unit:=()
def tw17344145923416931559:Unit:=()
def tw5333237182824580971:Unit:=()
def tw3145999618652790568:Unit:=()
def tw8491766156181405184:Unit:=()
def tw12841483140755597449:Unit:=()
def tw13518663915367369097:Unit:=()
def tw4124826549302142975:Unit:=()
def tw9389774026173026953:Unit:=()
def tw5970834539564192720:Unit:=()
def tw3021880033491681863:Unit:=()
def tw12194116084144270349:Unit:=()
def tw14487822957514636398:Unit:=()
def tw13831698787450187603:Unit:=()
def tw7913676568356064560:Unit:=()
def tw14181495592847854579:Unit:=()
def tw7716074125301571332:Unit:=()
def tw15863257511103596289:Unit:=()
def tw9070801114407022121:Unit:=()
def tw13493190175361407526:Unit:=()
def tw8752966214843062890:Unit:=()
def tw2748889619299553826:Unit:=()
def tw14491429199143986515:Unit:=()
def tw3761508942483091000:Unit:=()
def tw8776160892568660573:Unit:=()
def tw14284251516648406790:Unit:=()
def tw4567269813525592133:Unit:=()
def tw3791708096986559758:Unit:=()
def tw3626616565976121341:Unit:=()
def tw14053134214075085628:Unit:=()
def tw17155400486740703519:Unit:=()
def tw11949352195256685120:Unit:=()
def tw10890982159488483089:Unit:=()
def tw4446520686657916215:Unit:=()
def tw15263820439360907600:Unit:=()
def tw1551947578467632285:Unit:=()
def tw5434950139611370127:Unit:=()
def tw1341241262218868623:Unit:=()
def tw7709080609250391550:Unit:=()
def tw4304083122124383671:Unit:=()
def tw2721405724066619415:Unit:=()
def tw9089384351854091850:Unit:=()
def tw14524193690016145194:Unit:=()
def tw2355072601899545058:Unit:=()
def tw7414039719690630919:Unit:=()
def tw9010574291604724956:Unit:=()
def tw6292567408565522856:Unit:=()
def tw4752832402405230216:Unit:=()
def tw1520055045315691995:Unit:=()
def tw11657933768351922602:Unit:=()
def tw1520698902385438289:Unit:=()
def tw14229935054075799851:Unit:=()
def tw5524157764190691658:Unit:=()
def tw2640494523959543464:Unit:=()
def tw18239476796727820552:Unit:=()
def tw6668963077482400901:Unit:=()
def tw2809218899189524619:Unit:=()
def tw13275294419845924206:Unit:=()
def tw8074562905219119850:Unit:=()
def tw4956202009412935828:Unit:=()
def tw16052388111311269857:Unit:=()
def tw143109144558691485:Unit:=()
def tw7297189247678835956:Unit:=()
def tw635905282480309741:Unit:=()
def tw16899018141019353305:Unit:=()
def tw15364507237882181235:Unit:=()
def tw3919905720785022142:Unit:=()
def tw12594963057506320723:Unit:=()
def tw11887049590468729379:Unit:=()
def tw5944097687766471294:Unit:=()
def tw2807941880877776823:Unit:=()
def tw5951722028511543065:Unit:=()
def tw3831646184985454113:Unit:=()
def tw5762964690027551314:Unit:=()
def tw9942909453732065896:Unit:=()
def tw7384386056863450158:Unit:=()
def tw1999171408128962913:Unit:=()
def tw1175680164956338935:Unit:=()
def tw12679992161349621327:Unit:=()
def tw17444701613308760909:Unit:=()
def tw5295035380239751223:Unit:=()
def tw6522437073242118497:Unit:=()
def tw13981541853400001731:Unit:=()
def tw11438770591698425409:Unit:=()
def tw5156869626574779130:Unit:=()
def tw15250863709589161210:Unit:=()
def tw9688004786029541665:Unit:=()
def tw581353670508291042:Unit:=()
def tw8342605779369736776:Unit:=()
def tw17955622047911201520:Unit:=()
def tw14194878316467916581:Unit:=()
def tw17121154512115035663:Unit:=()
def tw6967932976087769093:Unit:=()
def tw2382146242999444950:Unit:=()
def tw801608054795132836:Unit:=()
def tw557027306952913530:Unit:=()
def tw4757445183003781309:Unit:=()
def tw16957776285107928046:Unit:=()
def tw2796246640513325684:Unit:=()
def tw15545529290901779924:Unit:=()
def tw11772903475663213858:Unit:=()
def tw6868146317337927932:Unit:=()
def tw860263344420536718:Unit:=()
def tw6758315670961326542:Unit:=()
def tw17650279008029626128:Unit:=()
def tw12358460234119098617:Unit:=()
def tw8987946600487887966:Unit:=()
def tw1683795030778760290:Unit:=()
def tw17429269994069770062:Unit:=()
def tw6407914419340301687:Unit:=()
def tw16701913362146179185:Unit:=()
def tw3818522730906106235:Unit:=()
def tw7924245945847373837:Unit:=()
def tw9733531637675305355:Unit:=()
def tw3503364891422078733:Unit:=()
def tw5618316516179403492:Unit:=()
def tw1653303898605273369:Unit:=()
def tw16674104590165032533:Unit:=()
def tw8782165622061078536:Unit:=()
def tw17060079328141106836:Unit:=()
def tw11569059796765350325:Unit:=()
def tw6248900634486487259:Unit:=()
def tw5782431788739734219:Unit:=()
def tw12208470856009484792:Unit:=()
def tw411756161380654036:Unit:=()
def tw4146841106810952158:Unit:=()
def tw9353237966194012546:Unit:=()
def tw5310692859746284865:Unit:=()
def tw6275824222903428483:Unit:=()
def tw10289200507383985301:Unit:=()
def tw12241898192364774298:Unit:=()
def tw14469296554389575309:Unit:=()
def tw12542890357221146963:Unit:=()
def tw17953397393256336986:Unit:=()
def tw13796527653875905832:Unit:=()
def tw3146759084444095500:Unit:=()
def tw15802433848274309655:Unit:=()
def tw226541638531027712:Unit:=()
def tw12872157863784470069:Unit:=()
def tw14090795135686530779:Unit:=()
def tw17592657474485722589:Unit:=()
def tw14635343104741999442:Unit:=()
def tw1226432378253531372:Unit:=()
def tw8437936645341113916:Unit:=()
def tw1952803212630768932:Unit:=()
def tw5589778133094289867:Unit:=()
def tw12654117018770088935:Unit:=()
def tw15754591476810662823:Unit:=()
def tw14098464936330139394:Unit:=()
def tw181722290876097380:Unit:=()
def tw3247069494820399853:Unit:=()
def tw11061730365632853378:Unit:=()
def tw14613771376395591388:Unit:=()
def tw17552795594536301492:Unit:=()
def tw14670698708862902708:Unit:=()
def tw9553629685095129535:Unit:=()
def tw3053517824793999005:Unit:=()
def tw4026947170886888449:Unit:=()
def tw7793064007027106307:Unit:=()
def tw20793752770746180:Unit:=()
def tw18103640487211451335:Unit:=()
def tw528484797194862914:Unit:=()
def tw14176790534083580242:Unit:=()
def tw2956607735714330286:Unit:=()
def tw11179309413849021837:Unit:=()
def tw13778097399374889955:Unit:=()
def tw3840027286556337642:Unit:=()
def tw5030487257639058274:Unit:=()
def tw296193737899244012:Unit:=()
def tw13432004057078715925:Unit:=()
def tw14851005446801059068:Unit:=()
def tw13406037991519729780:Unit:=()
def tw15922656584282038273:Unit:=()
def tw10076227631508248413:Unit:=()
def tw12764519579585073175:Unit:=()
def tw3263273781411096409:Unit:=()
def tw14764782212231182738:Unit:=()
def tw14058544910706465298:Unit:=()
def tw14905867018232906412:Unit:=()
def tw15884068499341095861:Unit:=()
def tw10001758197178427834:Unit:=()
def tw9529476067035843349:Unit:=()
def tw13375674310641889850:Unit:=()
def tw17602428477869222760:Unit:=()
def tw696589583078330709:Unit:=()
def tw13859203807009311729:Unit:=()
def tw18379835304402516188:Unit:=()
def tw3854119294785924814:Unit:=()
def tw10556069512107164333:Unit:=()
def tw11745654815342255039:Unit:=()
def tw3954587908844210926:Unit:=()
def tw14244983715594078775:Unit:=()
def tw5888609233065981298:Unit:=()
def tw14528215600453888144:Unit:=()
def tw9370936560192230797:Unit:=()
def tw16503645239788521470:Unit:=()
def tw3444575407725481298:Unit:=()
def tw14946583222110859305:Unit:=()
def tw10667942724668956324:Unit:=()
def tw1702990161948345064:Unit:=()
def tw10529758923625500262:Unit:=()
def tw3030050543214866846:Unit:=()
def tw1581524030681733943:Unit:=()
def tw15590949412445927683:Unit:=()
def tw12078752693207717995:Unit:=()
def tw2660606350477418492:Unit:=()
def tw15517857892099769501:Unit:=()
def tw9130033563389879572:Unit:=()
def tw4143006225507198783:Unit:=()
def tw1747494285629475622:Unit:=()
def tw11919124596936702491:Unit:=()
def tw11136162053249418681:Unit:=()
def tw10002376189738322762:Unit:=()
def tw9970442444953779100:Unit:=()
def tw6057476368696310477:Unit:=()
def tw7593776325682093640:Unit:=()
def tw4501441158462561229:Unit:=()
def tw3332463973857284157:Unit:=()
def tw10789142043752408263:Unit:=()
def tw10912416232372390033:Unit:=()
def tw8060918548928219874:Unit:=()
def tw5909314087239841260:Unit:=()
def tw8909897403911421334:Unit:=()
def tw2442271391389576810:Unit:=()
def tw6315505062511101939:Unit:=()
def tw18043809069812728709:Unit:=()
def tw13907994630909590797:Unit:=()
def tw526624020918713987:Unit:=()
def tw3904680960412357917:Unit:=()
def tw13265422613810713956:Unit:=()
def tw8697611894052211385:Unit:=()
def tw11358782528775186386:Unit:=()
def tw17282019132447488492:Unit:=()
def tw1660579493320539516:Unit:=()
def tw708082517527005838:Unit:=()
def tw10779126292759365511:Unit:=()
def tw9358838612361722241:Unit:=()
def tw256202408109364881:Unit:=()
def tw8328772798113151207:Unit:=()
def tw11968042962603212209:Unit:=()
def tw1376468847957902763:Unit:=()
def tw6882925893262962391:Unit:=()
def tw12488795655298205952:Unit:=()
def tw10746794851404147101:Unit:=()
def tw12073431983626738993:Unit:=()
def tw6862845889593745564:Unit:=()
def tw3196392702309689883:Unit:=()
def tw16147546642134656012:Unit:=()
def tw14960726721802974231:Unit:=()
def tw14581917794299579108:Unit:=()
def tw687271791990558522:Unit:=()
def tw4406907621101707402:Unit:=()
def tw17027826206816385769:Unit:=()
def tw4962343085712738134:Unit:=()
def tw12249080396041192856:Unit:=()
def tw12078579287689128203:Unit:=()
def tw2075299746701393469:Unit:=()
def tw10634357337669620233:Unit:=()
def tw11071534311326333957:Unit:=()
def tw9120068025245043881:Unit:=()
def tw10635492689490340374:Unit:=()
def tw5261331088217669235:Unit:=()
def tw8219991960935845217:Unit:=()
def tw12981542242755264902:Unit:=()
def tw10179721657848248549:Unit:=()
def tw15674162228318443068:Unit:=()
def tw3431448380657488454:Unit:=()
def tw2121698995349430498:Unit:=()
def tw11265166668475959804:Unit:=()
def tw8844838865503667360:Unit:=()
def tw710178746534370942:Unit:=()
def tw3083909445815908449:Unit:=()
def tw16163379551603676468:Unit:=()
def tw5649225589394442191:Unit:=()
def tw8903941025993762162:Unit:=()
def tw9691515963447598937:Unit:=()
def tw7577797052620467698:Unit:=()
def tw11773855927340068984:Unit:=()
def tw14464286205858202960:Unit:=()
def tw13599625050942518252:Unit:=()
def tw5484276314431591403:Unit:=()
def tw6193191689131708648:Unit:=()
def tw5736756519265698436:Unit:=()
def tw17878738110065974537:Unit:=()
def tw5681521832696883634:Unit:=()
end PySem.W.Fast
open PySem PySem.W PyProof.Rows
set_option maxRecDepth 100000 in
set_option maxHeartbeats 0 in
theorem PySem.Challenge.cw_bandwright_k36_along_refused_holds : PySem.Challenge.rw_bandwright_k36_along_refused.Holds := by
 w_on;o_law;k_head;(case hw=>w_witness2)
 k_fill
 refine My.walk (l:=PySem.Challenge.rw_bandwright_k36_along_refused) rfl rfl (fun w h Y=>PySem.W.kIn_of Y) ?F
 case F=>
  intro w mg fa h KX G xo
  have T:∃t,My.Txt (L2.HY KX) mg t:=by
   dsimp only [L2.HY]
   refine' My.YV KX G ?Fo ?Fp ?Fq ?Fv ?Fw ?Fx ?Fy ?Fz ?FA ?FD (a_ KX G ?ZZ) (L2.bE (st:=My.Ac) ?Z0 ?Z1 ?Z2) (a_ KX G ?Z3) (L2.bE (st:=My.Ad) ?Z4 ?Z5 ?Z6) (a_ KX G ?Z7) (L2.bE (st:=My.Ae) ?Z8 ?Z9 ?Z_) (a_ KX G ?aaa) (L2.bE (st:=My.Af) ?aab ?aac ?aad) (a_ KX G ?aae) (L2.bE (st:=My.D4) ?aaf ?aag ?aah) (a_ KX G ?aai) (L2.bE (st:=My.Ag) ?aaj ?aak ?aal) (a_ KX G ?aam) (L2.bE (st:=My.Ah) ?aan ?aao ?aap) (a_ KX G ?aaq) (L2.bE (st:=My.Ai) ?aar ?aas ?aat) (a_ KX G ?aau) (L2.bE (st:=My.Aj) ?aav ?aaw ?aax) (a_ KX G ?aay) (L2.bE (st:=My.Ak) ?aaz ?aaA ?aaB) (a_ KX G ?aaC) (L2.bE (st:=My.Al) ?aaD ?aaE ?aaF) (a_ KX G ?aaG) (L2.bE (st:=My.Am) ?aaH ?aaI ?aaJ) (a_ KX G ?aaK) (L2.bE (st:=My.An) ?aaL ?aaM ?aaN) (a_ KX G ?aaO) (L2.bE (st:=My.Ao) ?aaP ?aaQ ?aaR) (a_ KX G ?aaS) (L2.bE (st:=My.Ap) ?aaT ?aaU ?aaV) (a_ KX G ?aaW) (L2.bE (st:=My.Aq) ?aaX ?aaY ?aaZ) (a_ KX G ?aa0) (L2.bE (st:=My.Ar) ?aa1 ?aa2 ?aa3) (a_ KX G ?aa4) (L2.bE (st:=My.As) ?aa5 ?aa6 ?aa7) (a_ KX G ?aa8) (L2.bE (st:=My.Au) ?aa9 ?aa_ ?aba) (a_ KX G ?abb) (L2.bE (st:=My.Av) ?abc ?abd ?abe) (a_ KX G ?abf) (L2.bE (st:=My.Aw) ?abg ?abh ?abi) (a_ KX G ?abj) (L2.bE (st:=My.Ax) ?abk ?abl ?abm) (a_ KX G ?abn) (L2.bE (st:=My.Ay) ?abo ?abp ?abq) (a_ KX G ?abr) (L2.bE (st:=My.Az) ?abt ?abu ?abv) (a_ KX G ?abw) (L2.bE (st:=My.AA) ?abx ?aby ?abz) (a_ KX G ?abA) (L2.bE (st:=My.AB) ?abB ?abC ?abD) (a_ KX G ?abE) (L2.bE (st:=My.AD) ?abF ?abG ?abH) (a_ KX G ?abI) (L2.bE (st:=My.AE) ?abJ ?abK ?abL) (a_ KX G ?abM) (L2.bE (st:=My.AF) ?abN ?abO ?abP) (a_ KX G ?abQ) (L2.bE (st:=My.AG) ?abR ?abS ?abT) (a_ KX G ?abU) (L2.bE (st:=My.AH) ?abV ?abW ?abX) (a_ KX G ?abY) (L2.bE (st:=My.AI) ?abZ ?ab0 ?ab1) (a_ KX G ?ab2) (L2.bE (st:=My.AJ) ?ab3 ?ab4 ?ab5) (a_ KX G ?ab6) (L2.bE (st:=My.AK) ?ab7 ?ab8 ?ab9) (a_ KX G ?ab_) (L2.bE (st:=My.AL) ?acd ?ace ?acf) (a_ KX G ?acg) (L2.bE (st:=My.AM) ?ach ?aci ?acj) (a_ KX G ?ack) (L2.bE (st:=My.AN) ?acm ?acn ?aco) (a_ KX G ?acp) (L2.bE (st:=My.AO) ?acq ?acr ?acs) (a_ KX G ?acu) (L2.bE (st:=My.AQ) ?acv ?acw ?acy) (a_ KX G ?acz) (L2.bE (st:=My.AR) ?acA ?acB ?acC) (a_ KX G ?acD) (L2.bE (st:=My.AS) ?acE ?acF ?acG) (a_ KX G ?acH) (L2.bE (st:=My.AU) ?acI ?acJ ?acK) (a_ KX G ?acL) (L2.bE (st:=My.AV) ?acM ?acN ?acO) (a_ KX G ?acP) (L2.bE (st:=My.AW) ?acQ ?acR ?acS) (a_ KX G ?acT) (L2.bE (st:=My.AX) ?acU ?acV ?acW) (a_ KX G ?acX) (L2.bE (st:=My.AY) ?acY ?acZ ?ac0) (a_ KX G ?ac1) (L2.bE (st:=My.AZ) ?ac2 ?ac3 ?ac4) (a_ KX G ?ac5) (L2.bE (st:=My.A0) ?ac6 ?ac7 ?ac8) (a_ KX G ?ac9) (L2.bE (st:=My.A1) ?ac_ ?ada ?adb) (a_ KX G ?ade) (L2.bE (st:=My.A2) ?adf ?adg ?adh) (a_ KX G ?adi) (L2.bE (st:=My.A3) ?adk ?adl ?adm) (a_ KX G ?adn) (L2.bE (st:=My.A4) ?ado ?adp ?adq) (a_ KX G ?ads) (L2.bE (st:=My.A5) ?adt ?adu ?adv) (a_ KX G ?adw) (L2.bE (st:=My.A6) ?adx ?ady ?adz) (a_ KX G ?adA) (L2.bE (st:=My.A7) ?adB ?adC ?adD) ⟨?adE,?adF,?adG,?adH⟩ (L2.bE (st:=My.A8) ?adI ?adJ ?adK) ?FE ?FF ?wB ?wC ?rZ ?wD ⟨?adL,?adM,?adN⟩ (L2.bE (st:=My.D5) ?adO ?adP ?adQ) ⟨?adR,?adS,?adT⟩ (L2.bE (st:=My.A9) ?adU ?adV ?adW) ⟨?adX,?adY,?adZ⟩ (L2.bE (st:=My.A_) ?ad0 ?ad1 ?ad2) ⟨?ad3,?ad4,?ad5⟩ (L2.bE (st:=My.Ba) ?ad6 ?ad7 ?ad8) ?FG ?FH ?FI ?FJ ?FL ?FN ?FO ?FP ?FQ ?FT ?FU ?FW ?FY ?FZ ?F0 ?F5 ?F8 ?F9 ?F_ ?Ga ?Gb ?Gd ?Ge ?Gf ?Gg ?Gh ?Gi ?Gj ?Gk ?Gm ?Gn ?Gp ?Gq ?Gr ?Gs ?Gu ?Gv ?Gw ?Gx ?Gy ?Gz ?GA ?GB ?GC ?GD ?GF ?GG ?GH ?GI ?GJ ?GK ?GL ?GN ?GO ?GP ?GQ ?GR ?GS ?GU ?GV ?GW ?GX
   (case Fo|Fp|Fq|Fv|Fw|Fx|Fy|Fz|FA|FD|ZZ|Z0|Z1|Z2|Z3|Z4|Z5|Z6|Z7|Z8|Z9|Z_|aaa|aab|aac|aad|aae|aaf|aag|aah|aai|aaj|aak|aal|aam|aan|aao|aap|aaq|aar|aas|aat|aau|aav|aaw|aax|aay|aaz|aaA|aaB|aaC|aaD|aaE|aaF|aaG|aaH|aaI|aaJ|aaK|aaL|aaM|aaN|aaO|aaP|aaQ|aaR|aaS|aaT|aaU|aaV|aaW|aaX|aaY|aaZ|aa0|aa1|aa2|aa3|aa4|aa5|aa6|aa7|aa8|aa9|aa_|aba|abb|abc|abd|abe|abf|abg|abh|abi|abj|abk|abl|abm|abn|abo|abp|abq|abr|abt|abu|abv|abw|abx|aby|abz|abA|abB|abC|abD|abE|abF|abG|abH|abI|abJ|abK|abL|abM|abN|abO|abP|abQ|abR|abS|abT|abU|abV|abW|abX|abY|abZ|ab0|ab1|ab2|ab3|ab4|ab5|ab6|ab7|ab8|ab9|ab_|acd|ace|acf|acg|ach|aci|acj|ack|acm|acn|aco|acp|acq|acr|acs|acu|acv|acw|acy|acz|acA|acB|acC|acD|acE|acF|acG|acH|acI|acJ|acK|acL|acM|acN|acO|acP|acQ|acR|acS|acT|acU|acV|acW|acX|acY|acZ|ac0|ac1|ac2|ac3|ac4|ac5|ac6|ac7|ac8|ac9|ac_|ada|adb|ade|adf|adg|adh|adi|adk|adl|adm|adn|ado|adp|adq|ads|adt|adu|adv|adw|adx|ady|adz|adA|adB|adC|adD|adE|adF|adG|adH|adI|adJ|adK|FE|FF|wB|wC|rZ|wD|adL|adM|adN|adO|adP|adQ|adR|adS|adT|adU|adV|adW|adX|adY|adZ|ad0|ad1|ad2|ad3|ad4|ad5|ad6|ad7|ad8|FG|FH|FI|FJ|FL|FN|FO|FP|FQ|FT|FU|FW|FY|FZ|F0|F5|F8|F9|F_|Ga|Gb|Gd|Ge|Gf|Gg=>k_is)
   (case Gh|Gi|Gj|Gk|Gm=>k_exc)
   (case Gn=>k_is)
   (case Gp|Gq|Gr|Gs|Gu|Gv|Gw|Gx|Gy=>kit_is)
   (case Gz|GA|GB|GC|GD|GF|GG=>k_is)
   (case GH|GI|GJ|GK|GL|GN|GO|GP|GQ=>kit_is)
   (case GR|GS|GU|GV|GW|GX=>k_is)
  obtain ⟨t,T⟩:=T
  have e0:=xo.symm.trans T.LC
  cases e0
  exact My.YU T
#print axioms PySem.Challenge.cw_bandwright_k36_along_refused_holds
