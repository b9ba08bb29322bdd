import PyProof.Rows.All
import Wide.All
import OpenK.AllK
import Wide.FinOn
import Lean
import PyProof.EqAt
import PyProof.EqKinds
import PyProof.TupleCall
import PySem.Challenge.RW_bandwright_k98_whole_turned_about
set_option Elab.async false
set_option linter.all false
set_option maxRecDepth 100000
abbrev dA:=@decide_eq_false
abbrev kj:=@beq_eq_false_iff_ne
abbrev yZ:=@List.getElem?_eq_none_iff
abbrev ao:=@if_pos
abbrev ah:=@if_neg
abbrev bg:=@PySem.Heap.lt_size
abbrev dB:=@Nat.lt_of_lt_of_le
abbrev fe:=@Nat.lt_irrefl
abbrev cP:=@Nat.ne_of_lt
abbrev vD:=@PySem.W.hideAll_get
abbrev pX:=@List.mem_filter
abbrev fD:=@List.mem_range
abbrev aV:=@Nat.le_trans
abbrev vE:=@List.filterMap_cons
abbrev gg:=@List.mem_cons_self
abbrev fO:=@List.mem_cons_of_mem
abbrev cp:=@List.mem_cons
abbrev km:=@List.mem_append
abbrev cq:=@List.getElem?_eq_some_iff
abbrev bF:=@PySem.wpAny_mono
abbrev lJ:=@PySem.wpAny_truthy_bool
abbrev gh:=@congrArg
abbrev vF:=@PySem.wpAny_execs_nil
abbrev bL:=@PySem.wpAny_bind
abbrev tZ:=@PySem.wpAny_standAt
abbrev dG:=@PySem.wpAny_pure
abbrev pY:=@PySem.wpAny_newObj_type
abbrev bT:=@PySem.Heap.get?_push_of_some
abbrev mD:=@PySem.wpAny_passesOwn
abbrev cU:=@Bool.false_ne_true
abbrev fh:=@Int.mul_one
abbrev vG:=@PySem.wpAny_pyIter_list
abbrev dS:=@PySem.Heap.get?_push_size
abbrev aD:=@Nat.le_refl
abbrev t6:=@PyProof.Rows.callWith_type1
abbrev cV:=@List.mem_append_right
abbrev cu:=@Nat.zero_le
abbrev mE:=@Bool.eq_iff_iff
abbrev jB:=@beq_iff_eq
abbrev eE:=@List.length_cons
abbrev vH:=@PySem.W.looks_findIn
abbrev cQ:=@List.map_cons
abbrev a8:=@List.length_map
abbrev t7:=@PySem.Heap.size_push
abbrev vI:=@Nat.lt_succ_self
abbrev g6:=@PySem.W.kia_one
abbrev t8:=@List.append_nil
abbrev vJ:=@PySem.wpAny_Call_Name_kw
abbrev jC:=@Nat.le_succ
abbrev jD:=@List.nodup_cons
abbrev y1:=@Option.isSome_iff_exists
abbrev lK:=@List.length_take
abbrev iJ:=@PySem.mem_of_lookup
abbrev lL:=@List.getElem?_append_right
abbrev lM:=@List.getElem?_append_left
abbrev cE:=@List.getElem?_map
abbrev vK:=@List.take_sublist
abbrev g7:=@List.mem_of_getElem?
abbrev iK:=@List.length_append
abbrev fj:=@Int.toNat_natCast
abbrev cW:=@List.size_toArray
abbrev pZ:=@List.replicate_succ
abbrev t9:=@List.flatten_cons
abbrev cX:=@decide_eq_true
abbrev bj:=@PySem.W.mg_of
abbrev jE:=@Nat.lt_of_le_of_lt
abbrev y2:=@PySem.F.typeOf_object_class
abbrev t_:=@PySem.wpAny_loadPart_at
abbrev mF:=@Nat.not_lt_zero
abbrev y3:=@List.range_succ_eq_map
abbrev p_:=@List.all_eq_true
abbrev vL:=@List.forall_mem_cons
abbrev ua:=@PySem.wpAny_comprehension_free
abbrev vM:=@PySem.wpAny_newFunctionEnv
abbrev y4:=@PySem.codeAny_compLoop_tests
abbrev iL:=@PySem.lookup_relabel_local
abbrev ub:=@PySem.wpAny_tests_nil
abbrev uc:=@PySem.wpAny_tests_one
abbrev ud:=@PySem.codeAny_compStart_list
abbrev i_:=@List.getD_eq_getElem?_getD
abbrev ja:=@List.mem_singleton
abbrev dH:=@List.length_range
abbrev jb:=@List.getElem?_range
abbrev gk:=@List.getElem_mem
abbrev mG:=@Nat.gcd_pos_of_pos_right
abbrev ko:=@Int.natAbs_pos
abbrev qa:=@Int.mul_le_mul_of_nonneg_left
abbrev gq:=@Int.mul_zero
abbrev mH:=@Int.gcd_dvd_left
abbrev mI:=@Int.gcd_dvd_right
abbrev fE:=@Int.natAbs_mul
abbrev kq:=@Int.dvd_trans
abbrev g8:=@Int.mul_ediv_cancel_left
abbrev dI:=@Int.mul_comm
abbrev kr:=@Int.mul_assoc
abbrev vN:=@Int.mul_left_comm
abbrev vO:=@Int.dvd_mul_left
abbrev y6:=@Int.natAbs_ediv_le_natAbs
abbrev mJ:=@Int.natAbs_neg
abbrev ku:=@Int.dvd_refl
abbrev y7:=@Int.emod_add_mul_ediv
abbrev gH:=@Int.emod_lt_of_pos
abbrev fP:=@Int.emod_nonneg
abbrev ue:=@Int.mul_emod
abbrev mK:=@Int.emod_eq_of_lt
abbrev qb:=@Int.zero_sub
abbrev vP:=@Int.fdiv_eq_ediv_of_dvd
abbrev kx:=@Int.mul_neg
abbrev y8:=@Int.eq_of_mul_eq_mul_right
abbrev ug:=@List.any_cons
abbrev jF:=@List.take_length
abbrev mL:=@List.not_mem_nil
abbrev vQ:=@List.lookup_cons
abbrev jG:=@Int.zero_dvd
abbrev mM:=@Int.mul_eq_zero
abbrev eQ:=@Int.zero_mul
abbrev uh:=@Int.zero_add
abbrev fQ:=@Nat.mul_le_mul
abbrev ky:=@Int.sub_zero
abbrev y_:=@Classical.byContradiction
abbrev fF:=@List.ext_getElem
abbrev uj:=@List.map_append
abbrev iM:=@List.map_congr_left
abbrev za:=@List.length_filter_le
abbrev jH:=@List.mem_map
abbrev vR:=@List.find?_cons
abbrev um:=@decide_eq_true_iff
abbrev eF:=@of_decide_eq_true
abbrev gI:=@List.map_map
abbrev fR:=@List.getElem_map
abbrev gJ:=@List.getElem_range
abbrev uo:=@List.take_of_length_le
abbrev d6:=@List.getElem?_eq_getElem
abbrev qc:=@List.map_id
abbrev qd:=@Int.dvd_zero
abbrev lN:=@Int.sub_self
abbrev da:=@List.sum_cons
abbrev gr:=@dif_pos
abbrev jc:=@Nat.le_mul_of_pos_left
abbrev dU:=@PySem.PassesOwn.never
abbrev eG:=@PySem.boot_len
abbrev lO:=@PySem.F.excBase_ValueError
abbrev ur:=@Int.ediv_nonneg
abbrev zb:=@PySem.F.plainAttrs_list
abbrev jI:=@Int.eq_ofNat_of_zero_le
abbrev fk:=@PySem.W.mg_none_of
abbrev fS:=List (List (Int×Int))
abbrev cy:=List (Int×Int)
abbrev aF:=Nat→Nat→Int
abbrev cJ:=PySem.Str→Option PySem.Value
abbrev aI:=PySem.Value→PySem.Shared→Prop
abbrev ay:=PySem.W.Frag
abbrev aO:=List (PySem.Addr×PySem.Obj)
namespace L2
open PySem PySem.Spec PyProof.Rows
abbrev Key:=Sum Int Str
def mO:Key→Value→Bool
 | .inl k,v=>Value.isInt k v
 | .inr x,v=>Value.isStrOf x v
def Im(w:World):Key→Int
 | .inl k=>hashInt k
 | .inr x=>hashStr w x
theorem jJ:∀{k:Key} {v:Value},mO k v=true→(∃i t,k=Sum.inl i∧v=Value.int i t)∨(∃x t,k=Sum.inr x∧v=Value.str x t)
 | .inl i,v,h=>by obtain ⟨t,e⟩:=Value.isInt_shape (k:=i) (v:=v) h;exact .inl ⟨i,t,rfl,e⟩
 | .inr x,v,h=>by obtain ⟨t,e⟩:=Value.isStrOf_shape (x:=x) (v:=v) h;exact .inr ⟨x,t,rfl,e⟩
theorem Io(i:Int)(t:Tok):mO (.inl i) (.int i t)=true:=by simp [mO,Value.isInt]
theorem Ip(x:Str)(t:Tok):mO (.inr x) (.str x t)=true:=by simp [mO,Value.isStrOf]
theorem Iq(a b:Int):decide ((Sum.inl a:Key)=Sum.inl b)=(a == b):=by
 by_cases e:a=b;·subst e;simp
 ·have h:¬(Sum.inl a:Key)=Sum.inl b:=fun q=>e (Sum.inl.inj q)
  rw [dA h];exact (kj.mpr e).symm
theorem Ir(a b:Str):decide ((Sum.inr a:Key)=Sum.inr b)=decide (a=b):=by
 by_cases e:a=b;·subst e;simp
 ·have h:¬(Sum.inr a:Key)=Sum.inr b:=fun q=>e (Sum.inr.inj q)
  rw [dA h,dA e]
theorem Iu(a:Int)(b:Str):decide ((Sum.inl a:Key)=Sum.inr b)=false:=dA (fun q=>nomatch q)
theorem Iv(a:Str)(b:Int):decide ((Sum.inr a:Key)=Sum.inl b)=false:=dA (fun q=>nomatch q)
def gK(prog:Program)(w:World):PySem.KeyKind prog w Key where
 is:=mO
 hash:=Im w
 inj:=fun v a b ha hb=>by
  rcases jJ ha with ⟨i,t,rfl,rfl⟩ | ⟨x,t,rfl,rfl⟩
  ·rcases jJ hb with ⟨j,u,rfl,e⟩ | ⟨y,u,rfl,e⟩
   ·injection e with e1 _;rw [e1]
   ·exact nomatch e
  ·rcases jJ hb with ⟨j,u,rfl,e⟩ | ⟨y,u,rfl,e⟩
   ·exact nomatch e
   ·injection e with e1 _;rw [e1]
 byValue:=fun k v h=>by
  rcases jJ h with ⟨i,t,rfl,rfl⟩ | ⟨x,t,rfl,rfl⟩ <;> rfl
 pyHash:=fun hv h=>by
  rcases jJ hv with ⟨i,t,rfl,rfl⟩ | ⟨x,t,rfl,rfl⟩
  ·exact wpAny_pyHash_int h
  ·exact wpAny_pyHash_str h
 eqBool:=fun hu hv h=>by
  rcases jJ hu with ⟨i,t,rfl,rfl⟩ | ⟨x,t,rfl,rfl⟩
  ·rcases jJ hv with ⟨j,u,rfl,rfl⟩ | ⟨y,u,rfl,rfl⟩
   ·rw [Iq] at h;exact wpAny_eqBool_int h
   ·rw [Iu] at h;exact SeqAt.EqAt.int_str i t y u _ _ _ _ h
  ·rcases jJ hv with ⟨j,u,rfl,rfl⟩ | ⟨y,u,rfl,rfl⟩
   ·rw [Iv] at h;exact SeqAt.EqAt.str_int x t j u _ _ _ _ h
   ·rw [Ir] at h;exact wpAny_eqBool_str h
 «strs»:=fun k x t v h=>by
  rcases jJ h with ⟨i,u,rfl,e⟩ | ⟨y,u,rfl,e⟩
  ·exact nomatch e
  ·injection e with e1 _
   subst e1
   cases v <;> rfl
theorem Iw(prog:Program)(w:World)(i:Int)(t:Tok):(gK prog w).is (.inl i) (.int i t)=true:=Io i t
theorem Iy(prog:Program)(w:World)(x:Str)(t:Tok):(gK prog w).is (.inr x) (.str x t)=true:=Ip x t
inductive V where
 | aH | bl (b:Bool) | int (i:Int) | str (x:Str) | iO (b:Array UInt8) | mP (b:UInt64) | ref (a:Addr) | ty (n:String)
 deriving DecidableEq
def RelV:V→Value→Prop
 | .aH,u=>u=Value.none
 | .bl b,u=>u=Value.bool b
 | .int i,u=>∃t,u=Value.int i t
 | .str x,u=>∃t,u=Value.str x t
 | .iO b,u=>∃t,u=Value.bytes b t
 | .mP b,u=>∃t,u=Value.float b t
 | .ref a,u=>u=Value.ref a
 | .ty n,u=>u=Value.type n
abbrev Vals:List V→List Value→Prop:=Paired RelV
variable {xs:List V} {us:List Value}
theorem Vals.length(r:Vals xs us):xs.length=us.length:=Paired.length r
theorem Vals.get:∀{xs:List V} {us:List Value} {i:Nat} {x:V},Vals xs us→xs[i]?=some x→∃u,us[i]?=some u∧RelV x u
 | _,_,_,_,.nil,e=>by simp at e
 | _,_,0,_,.cons r _,e=>by simp at e;subst e;exact ⟨_,rfl,r⟩
 | _,_,i+1,x,.cons _ t,e=>by
  obtain ⟨u,h1,h2⟩:=Vals.get (i:=i) (x:=x) t (by simpa using e)
  exact ⟨u,by simpa using h1,h2⟩
theorem Vals.set{x:V}{u:Value}(r:RelV x u):∀{xs:List V} {us:List Value} (i:Nat),Vals xs us→Vals (xs.set i x) (us.set i u)
 | _,_,_,.nil=>.nil
 | _,_,0,.cons _ t=>.cons r t
 | _,_,i+1,.cons q t=>.cons q (Vals.set r i t)
theorem Vals.append:∀{xs ys:List V} {us ws:List Value},Vals xs us→Vals ys ws→Vals (xs++ys) (us++ws)
 | _,_,_,_,.nil,s=>s
 | _,_,_,_,.cons r t,s=>.cons r (Vals.append t s)
theorem Vals.take:∀{xs:List V} {us:List Value} (n:Nat),Vals xs us→Vals (xs.take n) (us.take n)
 | _,_,0,_=>.nil
 | _,_,_+1,.nil=>.nil
 | _,_,n+1,.cons r t=>.cons r (Vals.take n t)
theorem Vals.drop:∀{xs:List V} {us:List Value} (n:Nat),Vals xs us→Vals (xs.drop n) (us.drop n)
 | _,_,0,r=>r
 | _,_,_+1,.nil=>.nil
 | _,_,n+1,.cons _ t=>Vals.drop n t
theorem Vals.none_of:∀{xs:List V} {us:List Value} {i:Nat},Vals xs us→xs[i]?=none→us[i]?=none:=fun{xs us i} r e=>by have h1:=r.length;have h2:xs.length≤i:=yZ.mp e;exact yZ.mpr (by lia)
def g9:Option V→Option Value→Prop
 | some v,some u=>RelV v u
 | none,none=>True
 | _,_=>False
def KV{κ:Type}:List (κ×V)→List (κ×Value)→Prop:=Paired fun(p:κ×V) (q:κ×Value)=>p.1=q.1∧RelV p.2 q.2
def kV:Key→V
 | .inl i=>.int i
 | .inr x=>.str x
inductive HO where
 | lst (xs:List V)
 | tup (xs:List V)
 | dK (aj:List (Key×V)) | dT (aj:List (List Key×V))
 | set (S:Int→Bool) (n:Nat)
 | ins (C dx:Addr) (fs:List (Str×V))
 | own (x:Addr)
 | xd (fs:List (Str×V))
 | met (f x:Addr)
 | g_ (lo hi:Int)
 | cb (o:Obj) (u:HO)
 | kz (ps:Array Value)
 | ext (φ:Heap→Prop)
abbrev Hp:=Addr→Option HO
def upd(H:Hp)(a:Addr)(o:HO):Hp:=fun b=>if b=a then some o else H b
variable {H:Hp} {a:Addr} {o:HO}
theorem ax:upd H a o a=some o:=by unfold upd;rw [ao rfl]
variable {b:Addr}
theorem aN(h:b≠a):upd H a o b=H b:=by unfold upd;rw [ah h]
theorem Iz{u:HO}(h:H a=some o)(h':H b=some u)(d:o≠u):a≠b:=by intro e;subst e;rw [h] at h';exact d (Option.some.inj h')
theorem fT(h:H a=some o)(h':H b=none):a≠b:=by intro e;subst e;rw [h] at h';cases h'
section
variable (P:Program) (w:World)
def cz(H:Hp)(h:Heap)(a:Addr):HO→Prop
 | .lst xs=>xs.length≤sizeLine∧∃(ag:List Value) (n:Nat),Vals xs ag∧h.get? a=some {cls:=.type "list",data:=.seq ag.toArray n}
 | .tup xs=>xs.length≤sizeLine∧∃ag:List Value,Vals xs ag∧IsTup h a ag.toArray
 | .dK aj=>aj.length≤sizeLine∧(a == sysModules)=false∧∃vs,KV aj vs∧h.DictOf (gK P w) a vs
 | .dT aj=>aj.length≤sizeLine∧(a == sysModules)=false∧∃xs:List (List Key×Addr×Value),
   Paired (fun(p:List Key×V) (q:List Key×Addr×Value)=>p.1=q.1∧H q.2.1=some (.tup (p.1.map kV))∧RelV p.2 q.2.2) aj xs ∧
   ∃o es ep,h.get? a=some o∧o.ExactDict∧o.data=.dict es ep∧es.toList=xs.map (entryOfKey (tupleKind (gK P w)))∧(xs.map (·.1)).Nodup
 | .set S n=>h.SetOf (intKind P w) a S n
 | .ins C dx fs=>H dx=some (.own a)∧fs.length≤1000∧dx≠a∧h.get? a=some (PySem.W.instObj C dx) ∧
   ∃mA,h.Ns1 dx mA∧(∀f,g9 (fs.lookup f) (mA f))∧PySem.Within mA (fs.map (·.1))
 | .own _=>∃o,h.get? a=some o
 | .xd fs=>∃mA,h.Ns1 a mA∧∀f,g9 (fs.lookup f) (mA f)
 | .g_ lo hi=>∃t u v,h.get? a=some {cls:=.type "range",data:=.fields #[.int lo t,.int hi u,.int 1 v]}
 | .cb o u=>h.get? a=some o∧cz H h a u
 | .kz ps=>h.get? a=some {cls:=.none,data:=.fields ps}
 | .met f x=>h.get? a=some (PySem.W.methodObj (.ref f) (.ref x))
 | .ext φ=>φ h∧(∃o,h.get? a=some o)∧∀h1 h2:Heap,φ h1→(∀o,h1.get? a=some o→h2.get? a=some o)→φ h2
def bU(H:Hp)(h:Heap):Prop:=∀a o,H a=some o→cz P w H h a o
end
section
variable {P:Program} {w:World} {H H':Hp} {h h':Heap} {a:Addr} {o:HO}
theorem cz.lt(x:cz P w H h a o):a<h.objs.size:=by
 cases o with
 | lst xs=>obtain ⟨_,_,_,_,e⟩:=x;exact bg e
 | tup xs=>obtain ⟨_,_,_,p⟩:=x;exact p.lt
 | dK aj=>obtain ⟨_,_,_,_,o,_,_,e,_⟩:=x;exact bg e
 | dT aj=>obtain ⟨_,_,_,_,o,_,_,e,_⟩:=x;exact bg e
 | set S n=>obtain ⟨o,_,_,_,e,_⟩:=x;exact bg e
 | ins C dx fs=>obtain ⟨_,_,_,e,_⟩:=x;exact bg e
 | own y=>obtain ⟨_,e⟩:=x;exact bg e
 | xd fs=>obtain ⟨_,⟨_,_,_,e,_⟩,_⟩:=x;exact bg e
 | g_ lo hi=>obtain ⟨_,_,_,e⟩:=x;exact bg e
 | cb ob u=>obtain ⟨e,_⟩:=x;exact bg e
 | kz ps=>exact bg (show h.get? a=some _ from x)
 | met f y=>exact bg (show h.get? a=some _ from x)
 | ext φ=>obtain ⟨_,⟨_,e⟩,_⟩:=x;exact bg e
theorem Paired.zc{α β:Type}{F G:α→β→Prop}:∀{l₁:List α} {l₂:List β},Paired F l₁ l₂→(∀a b,F a b→G a b)→Paired G l₁ l₂
 | _,_,.nil,_=>.nil
 | _,_,.cons r t,f=>.cons (f _ _ r) (Paired.zc t f)
theorem cz.hE(x:cz P w H h a o)(k:∀b u,(b=a∨H b=some (.own a))→h.get? b=some u→h'.get? b=some u)
  (ho:∀b,H b=some (.own a)→H' b=some (.own a)) (ht:∀b xs,H b=some (.tup xs)→H' b=some (.tup xs)):cz P w H' h' a o:=by
 induction o with
 | lst xs=>obtain ⟨z,ag,n,r,e⟩:=x;exact ⟨z,ag,n,r,k _ _ (.inl rfl) e⟩
 | tup xs=>obtain ⟨z,ag,r,ob,e,c⟩:=x;exact ⟨z,ag,r,ob,k _ _ (.inl rfl) e,c⟩
 | dK aj=>obtain ⟨z,y,vs,r,ob,es,ep,e,c⟩:=x;exact ⟨z,y,vs,r,ob,es,ep,k _ _ (.inl rfl) e,c⟩
 | dT aj=>obtain ⟨z,y,xs,r,ob,es,ep,e,c⟩:=x;exact ⟨z,y,xs,Paired.zc r fun p q z=>⟨z.1,ht _ _ z.2.1,z.2.2⟩,ob,es,ep,k _ _ (.inl rfl) e,c⟩
 | set S n=>obtain ⟨ob,es,ep,t,e,c⟩:=x;exact ⟨ob,es,ep,t,k _ _ (.inl rfl) e,c⟩
 | ins C dx fs=>obtain ⟨d,z,ne,e,mA,⟨od,es,ep,e2,c⟩,r⟩:=x;exact ⟨ho _ d,z,ne,k _ _ (.inl rfl) e,mA,⟨od,es,ep,k _ _ (.inr d) e2,c⟩,r⟩
 | own y=>obtain ⟨ob,e⟩:=x;exact ⟨ob,k _ _ (.inl rfl) e⟩
 | xd fs=>obtain ⟨mA,⟨od,es,ep,e,c⟩,r⟩:=x;exact ⟨mA,⟨od,es,ep,k _ _ (.inl rfl) e,c⟩,r⟩
 | g_ lo hi=>obtain ⟨t,u,v,e⟩:=x;exact ⟨t,u,v,k _ _ (.inl rfl) e⟩
 | cb ob u ih=>obtain ⟨e,q⟩:=x;exact ⟨k _ _ (.inl rfl) e,ih q⟩
 | kz ps=>have e:h.get? a=some {cls:=.none,data:=.fields ps}:=x;show h'.get? a=some {cls:=.none,data:=.fields ps};exact k a _ (.inl rfl) e
 | met f y=>have e:h.get? a=some (PySem.W.methodObj (.ref f) (.ref y)):=x;show h'.get? a=some (PySem.W.methodObj (.ref f) (.ref y));exact k a _ (.inl rfl) e
 | ext φ=>obtain ⟨p,⟨o,e⟩,st⟩:=x;exact ⟨st _ _ p fun o q=>k _ _ (.inl rfl) q,⟨o,k _ _ (.inl rfl) e⟩,st⟩
theorem bU.lt(x:bU P w H h)(e:H a=some o):a<h.objs.size:=(x a o e).lt
theorem bU.fresh(x:bU P w H h)(e:h.objs.size≤a):H a=none:=by
 cases q:H a with
 | none=>rfl
 | some u=>exact absurd (dB (x.lt q) e) (fe _)
theorem bU.kept(x:bU P w H h)(k:∀b u,h.get? b=some u→h'.get? b=some u):bU P w H h':=fun a o e=>(x a o e).hE (fun b u _ q=>k b u q) (fun _ q=>q) fun _ _ q=>q
theorem bU.laid(x:bU P w H h)(k:∀b u,h.get? b=some u→h'.get? b=some u)(hp:h.objs.size≤a)(new:cz P w (upd H a o) h' a o):bU P w (upd H a o) h':=fun b u e=>by
 have hn:=x.fresh hp;by_cases hb:b=a;·subst hb;rw [ax] at e;cases e;exact new
 ·rw [aN hb] at e
  exact (x b u e).hE (fun c v _ q=>k c v q) (fun c q=>by rw [aN (fT q hn)];exact q) fun c xs q=>by rw [aN (fT q hn)];exact q
end
def Rd(H:Hp)(a:Addr)(u:HO):Prop:=H a=some u∨∃o,H a=some (.cb o u)
variable {P:Program} {w:World} {h:Heap}
theorem Rd.ok{u:HO}(r:Rd H a u)(x:bU P w H h):cz P w H h a u:=by
 rcases r with r | ⟨o,r⟩;·exact x a u r
 ·obtain ⟨_,q⟩:=x a _ r
  exact q
def uu:Option HO→Prop
 | some (.lst _)=>True
 | some (.dK _)=>True
 | some (.dT _)=>True
 | some (.set _ _)=>True
 | some (.ins _ _ _)=>True
 | some (.ext _)=>True
 | _=>False
section
variable {P:Program} {w:World} {H:Hp} {h h':Heap} {x e:Addr} {o':HO}
theorem bU.write(ok:bU P w H h)(mu:uu (H x))(he:e=x∨H e=some (.own x))(k:∀b u,b≠e→h.get? b=some u→h'.get? b=some u)(qe:∃u,h'.get? e=some u)
  (new:cz P w (upd H x o') h' x o'):bU P w (upd H x o') h':=fun b u q=>by
 have CI:∀c y,H c=some (.own y)→c≠x:=fun c y r z=>by subst z;rw [r] at mu;exact mu
 have IA:∀c xs,H c=some (.tup xs)→c≠x:=fun c xs r z=>by subst z;rw [r] at mu;exact mu
 by_cases hb:b=x;·subst hb;rw [ax] at q;cases q;exact new
 ·rw [aN hb] at q
  by_cases mQ:b=e
  ·have q':H b=some (.own x):=by
    rcases he with z | z;·exact absurd (mQ.trans z) hb
    ·rw [mQ];exact z
   rw [q] at q';cases q';obtain ⟨v,hv⟩:=qe;exact ⟨v,by rw [mQ];exact hv⟩
  ·refine (ok b u q).hE (fun c v hc r=>k c v ?_ r) (fun c r=>by rw [aN (CI c b r)];exact r) fun c xs r=>by rw [aN (IA c xs r)];exact r
   rcases hc with rfl | hc;·exact mQ
   ·rintro rfl
    rcases he with z | z;·exact CI c b hc z
    ·rw [hc] at z;cases z;exact hb rfl
end
structure Un (fs ex:List Addr) (H H':Hp) (h h':Heap):Prop where
 keep:∀b o,h.get? b=some o→H b=none→b∉fs→b∉ex→h'.get? b=some o
 slot:∀b o,h.get? b=some o→H b=none→b∈fs→b∉ex→∃sl,h'.get? b=some {o with slots:=sl}
 free:∀b o,h.get? b=some o→H b=none→b∉ex→H' b=none
 there:∀b o,h.get? b=some o→b∉ex→∃o',h'.get? b=some o'
 fG:∀b xs,H b=some (.tup xs)→H' b=some (.tup xs)
 fm:∀b o u,H b=some (.cb o u)→H' b=some (.cb o u)
 fH:∀b ps,H b=some (.kz ps)→∃more,H' b=some (.kz (ps++more))
section
variable {fs zd ex ze:List Addr} {H H1 H2:Hp} {h h1 h2 h':Heap} {a x e:Addr} {o:HO}
theorem Un.any(u:Un fs ex H H1 h h1){ob:Obj}(q:h.get? b=some ob)(n:H b=none)(hx:b∉ex):∃sl,h1.get? b=some {ob with slots:=sl}:=by
 by_cases hb:b∈fs;·exact u.slot b ob q n hb hx
 ·exact ⟨ob.slots,u.keep b ob q n hb hx⟩
theorem Un.kept(k:∀b u,h.get? b=some u→h'.get? b=some u):Un fs ex H H h h':=
 ⟨fun b ob q _ _ _=>k b ob q,fun b ob q _ _ _=>⟨ob.slots,k b ob q⟩,fun _ _ _ n _=>n,fun b ob q _=>⟨ob,k b ob q⟩,fun _ _ q=>q,fun _ _ _ q=>q,fun _ ps q=>⟨#[],by rw [q];simp⟩⟩
theorem Un.refl:Un fs ex H H h h:=Un.kept fun _ _ q=>q
theorem Un.laid(k:∀b u,h.get? b=some u→h'.get? b=some u)(hp:h.objs.size≤a)(hn:H a=none):Un fs ex H (upd H a o) h h' where
 keep:=fun b u q _ _ _=>k b u q
 slot:=fun b u q _ _ _=>⟨u.slots,k b u q⟩
 free:=fun b u q n _=>by rw [aN (cP (dB (bg q) hp))];exact n
 there:=fun b u q _=>⟨u,k b u q⟩
 fG:=fun b xs q=>by rw [aN (fT q hn)];exact q
 fm:=fun b u xs q=>by rw [aN (fT q hn)];exact q
 fH:=fun b ps q=>⟨#[],by rw [aN (fT q hn),q];simp⟩
theorem Un.write(mu:uu (H x))(he:e=x∨H e=some (.own x))(k:∀b u,b≠e→h.get? b=some u→h'.get? b=some u)(qe:∃u,h'.get? e=some u):Un fs ex H (upd H x o) h h':=by
 have hx:∀b,H b=none→b≠x:=fun b n z=>by subst z;rw [n] at mu;exact mu
 have hb:∀b,H b=none→b≠e:=fun b n z=>by
  subst z;rcases he with r | r;·exact hx b n r
  ·rw [n] at r;cases r
 have hm:∀b u,H b=some u→¬uu (some u)→b≠x:=fun b u q nm z=>by subst z;rw [q] at mu;exact nm mu
 refine ⟨fun b u q n _ _=>k b u (hb b n) q,fun b u q n _ _=>⟨u.slots,k b u (hb b n) q⟩,fun b u q n _=>by rw [aN (hx b n)];exact n,fun b u q _=>?_,
  fun b xs q=>by rw [aN (hm b _ q fun z=>z)];exact q,fun b u xs q=>by rw [aN (hm b _ q fun z=>z)];exact q,fun b ps q=>⟨#[],by rw [aN (hm b _ q fun z=>z),q];simp⟩⟩
 by_cases mQ:b=e;·subst mQ;exact qe
 ·exact ⟨u,k b u mQ q⟩
end
def vS(h:Heap)(H:Hp):List Addr:=(List.range h.objs.size).filter fun a=>(H a).isSome
def kA(h:Heap)(H:Hp):Heap:=PySem.W.hideAll h (vS h H)
theorem IC(h:Heap)(H:Hp):(kA h H).objs.size=h.objs.size:=PySem.W.hideAll_size _ _
theorem ID{o:Obj}(e:h.get? b=some o)(n:H b=none):(kA h H).get? b=some o:=
 vD _ e fun hm=>by have q:(H b).isSome=true:=(pX.mp hm).2;rw [n] at q;simp at q
theorem IE{o:Obj}(e:(kA h H).get? b=some o):h.get? b=some o∧H b=none:=by
 have e':h.get? b=some o:=PySem.W.of_hideAll (vS h H) e;refine ⟨e',?_⟩;cases q:H b with
 | none=>rfl
 | some x=>
  have hm:b∈vS h H:=pX.mpr ⟨fD.mpr (bg e'),by simp [q]⟩
  have z:(kA h H).get? b=none:=PySem.W.hideAll_none (vS h H) hm;rw [z] at e;cases e
structure Mod (K:ay) (mg:cJ) (base:Heap):Prop where
 cF:K.In base
 glob:base.Ns mainGlobals mg
 blt:∃mb,base.Ns builtinsNs mb∧∀x:Str,x ≠ "__name__"→mb x=bootBuiltins x
 nolimit:base.NoLimit
structure Cx where
 prog:Program
 w:World
 K:PySem.W.Frag
 mg:Str→Option Value
 base:Heap
 A:Around
 N:List Str
 s₀:Shared
 H₀:Hp
 env:Env
 outer:List Env
 stack:List Env
 ex:List Addr
 fn:Str→Bool
 calm:Bool
 pn:List (Addr×Obj)
 xe:Value→Shared→Prop
def cf(l:List Env):List Addr:=l.filterMap (·.frame)
abbrev Cx.fs (X:Cx):List Addr:=cf X.outer
def kB(sc:Scope)(x:Str):Prop:=sc.names.lookup x=some .local∨sc.names.lookup x=some .cell∨sc.names.lookup x=some .free
def Loc(sc:Scope)(x:Str):Prop:=sc.names.lookup x=some .local∨sc.names.lookup x=some .cell
def Look(env:Env)(h:Heap)(m:cJ)(x:Str)(u:Value):Prop:=
 (env.kindOf x=some .local∧m x=some u)∨((env.kindOf x=some .cell∨env.kindOf x=some .free)∧∃c,env.cells.lookup x=some c∧h.IsCell c (some u))
structure Cx.Ok (X:Cx):Prop where
 mod:Mod X.K X.mg X.base
 kind:X.env.scope.kind=.function
 glob:X.env.globals=mainGlobals
 blt:X.env.builtins=builtinsNs
 above:X.s₀.heap.objs.size≤X.env.locals
 inj:∀x y c,X.env.cells.lookup x=some c→X.env.cells.lookup y=some c→x=y
 has:∀x,(X.env.kindOf x=some .cell∨X.env.kindOf x=some .free)→∃c,X.env.cells.lookup x=some c
 mR:∀x c,X.fn x=true→X.env.cells.lookup x=some c→X.s₀.heap.objs.size≤c
 hd:X.calm=true→X.A.handled=none
 frames:X.A.frames=some X.stack
 hJ:X.stack=X.outer∨(X.stack=X.env::X.outer∧X.env.frame=some X.env.locals)
 CJ:∀b∈X.ex,b≠X.env.locals∧∀x c,X.env.cells.lookup x=some c→c≠b
 bs:∀b o,X.base.get? b=some o→X.s₀.heap.get? b=some o∧X.H₀ b=none
 fI:X.base.objs.size≤X.s₀.heap.objs.size
 kC:∀b o,X.base.get? b=some o→b∉X.ex
 kD:∀b∈X.ex,b∉X.fs
 iP:X.s₀.heap.FunFrames X.base X.outer
 kG:∀b∈X.fs,X.H₀ b=none
structure Inv (X:Cx) (pins:aO) (σ:List (Option V)) (H:Hp) (s:Shared):Prop where
 ok:X.Ok
 os:s.os=X.s₀.os
 bare:AllBare s.gens
 base:Un X.fs X.ex X.H₀ H X.s₀.heap s.heap
 loc:∃m,s.heap.Ns X.env.locals m∧∀(i:Nat) (x:Str) (v:V),X.N[i]?=some x→σ[i]?=some (some v)→kB X.env.scope x→∃u,RelV v u∧Look X.env s.heap m x u
 cell:∀x c,X.env.cells.lookup x=some c→∃v,s.heap.IsCell c v
 free:H X.env.locals=none
 gL:∀x c,X.env.cells.lookup x=some c→H c=none
 pin:∀p∈X.pn++pins,s.heap.get? p.1=some p.2∧H p.1=none∧p.1≠X.env.locals∧p.1∉X.fs∧∀v,p.2.data≠.cell v
 aw:bU X.prog X.w H s.heap
 len:σ.length=X.N.length
section
variable {X:Cx} {pins:aO} {σ:List (Option V)} {H H':Hp} {s:Shared} {h':Heap}
theorem Cx.Ok.IF(ok:X.Ok){o:Obj}(e:X.base.get? b=some o):b∉X.fs:=fun hb=>by have:=(ok.iP.mem hb).1;rw [e] at this;cases this
theorem Inv.bs(I:Inv X pins σ H s):∀b o,X.base.get? b=some o→s.heap.get? b=some o∧H b=none:=fun b o e=>⟨I.base.keep b o (I.ok.bs b o e).1 (I.ok.bs b o e).2 (I.ok.IF e) (I.ok.kC b o e),I.base.free b o (I.ok.bs b o e).1 (I.ok.bs b o e).2 (I.ok.kC b o e)⟩
theorem Inv.bk(I:Inv X pins σ H s):∀b o,X.base.get? b=some o→s.heap.get? b=some o:=fun b o e=>(I.bs b o e).1
theorem Inv.mod(I:Inv X pins σ H s):Mod X.K X.mg X.base:=I.ok.mod
theorem Inv.dc(I:Inv X pins σ H s):X.K.In s.heap:=I.ok.mod.cF.keeps I.bk
theorem Inv.lt(I:Inv X pins σ H s):X.env.locals<s.heap.objs.size:=let ⟨_,hn,_⟩:=I.loc;hn.lt
theorem Inv.sz(I:Inv X pins σ H s):X.s₀.heap.objs.size≤s.heap.objs.size:=aV I.ok.above (Nat.le_of_lt I.lt)
theorem Inv.IG(I:Inv X pins σ H s)(h:s.heap.objs.size≤a):a∉X.fs:=fun hb=>by obtain ⟨_,o,ho,_⟩:=I.ok.iP.mem hb;exact absurd (dB (bg ho) (aV I.sz h)) (fe _)
theorem Inv.mT(I:Inv X pins σ H s):∀x c,X.env.cells.lookup x=some c→c≠X.env.locals:=fun x c e z=>by obtain ⟨v,o,ho,hd⟩:=I.cell x c e;obtain ⟨m,⟨o',es,ep,jK,zf,_⟩,_⟩:=I.loc;rw [z,jK] at ho;cases ho;rw [zf] at hd;cases hd
theorem Inv.iP(I:Inv X pins σ H s):s.heap.FunFrames X.base X.outer:=by
 have all:∀(l:List Env),(∀b∈cf l,b∈X.fs)→X.s₀.heap.FunFrames X.base l→s.heap.FunFrames X.base l:=by
  intro l
  induction l with
  | nil=>intro _ _;trivial
  | cons env r ih=>
   intro hs hl;obtain ⟨hk,⟨L,o,hf,hn,ho,hd⟩,hr⟩:=hl;have hL:L∈X.fs:=hs L (by unfold cf;rw [vE,hf];exact gg)
   obtain ⟨sl,e⟩:=I.base.slot L o ho (I.ok.kG L hL) hL fun z=>I.ok.kD L z hL;exact ⟨hk,⟨L,_,hf,hn,e,hd⟩,ih (fun b hb=>hs b (by unfold cf;rw [vE,hf];exact fO _ hb)) hr⟩
 exact all X.outer (fun _ hb=>hb) I.ok.iP
theorem Inv.stack(I:Inv X pins σ H s):s.heap.FunFrames X.base X.stack:=by
 rcases I.ok.hJ with e | ⟨e,hf⟩;·rw [e];exact I.iP
 ·rw [e]
  obtain ⟨m,hn,_⟩:=I.loc;refine .cons (by rw [I.ok.kind];decide) hf hn ?_ I.iP
  exact Heap.get?_none_of_le (aV I.ok.fI I.ok.above)
theorem Inv.mU(I:Inv X pins σ H s):∀b∈cf X.stack,b∈X.env.locals::X.fs:=fun b hb=>by
 rcases I.ok.hJ with e | ⟨e,hf⟩;·rw [e] at hb;exact fO _ hb
 ·rw [e] at hb
  unfold cf at hb;rw [vE,hf] at hb;exact hb
theorem Inv.mV(I:Inv X pins σ H s):∀b∈cf X.stack,H b=none:=fun b hb=>by
 rcases cp.mp (I.mU b hb) with e | hb;·rw [e];exact I.free
 ·obtain ⟨_,o,ho,_⟩:=I.ok.iP.mem hb
  exact I.base.free b o ho (I.ok.kG b hb) fun z=>I.ok.kD b z hb
variable {g':Array GenState} {t':Nat} {d':Drawn} {ch:List Addr}
theorem Inv.step(I:Inv X pins σ H s)
  (jL:∀b∈ch,(b∈X.ex∨X.s₀.heap.objs.size≤b)∧b≠X.env.locals∧(∀x c,X.env.cells.lookup x=some c→c≠b)∧∀p∈X.pn++pins,p.1≠b)
  (keep:∀b o,b≠X.env.locals→b∉X.fs→b∉ch→s.heap.get? b=some o→H b=none→h'.get? b=some o)
  (slot:∀b o,b≠X.env.locals→b∈X.fs→b∉ch→s.heap.get? b=some o→H b=none→∃sl,h'.get? b=some {o with slots:=sl}) (free:∀b o,b∉ch→s.heap.get? b=some o→H b=none→H' b=none)
  (there:∀b o,b∉ch→s.heap.get? b=some o→∃o',h'.get? b=some o')
  (fG:∀b xs,H b=some (.tup xs)→H' b=some (.tup xs)) (fm:∀b o u,H b=some (.cb o u)→H' b=some (.cb o u)) (fH:∀b ps,H b=some (.kz ps)→∃more,H' b=some (.kz (ps++more)))
  (ns:∀m,s.heap.Ns X.env.locals m→h'.Ns X.env.locals m) (aw:bU X.prog X.w H' h') (hg:AllBare g') :
  Inv X pins σ H' {s with heap:=h',gens:=g',drawn:=d',toks:=t'}:=by
 have CK:∀b o,X.s₀.heap.get? b=some o→b≠X.env.locals:=fun b o e=>cP (dB (bg e) I.ok.above);have vT:∀b o,X.s₀.heap.get? b=some o→b∉X.ex→b∉ch:=fun b o e hx hb=>by
  rcases (jL b hb).1 with z | z;·exact hx z
  ·exact absurd (dB (bg e) z) (fe _)
 have cellK:∀x c,X.env.cells.lookup x=some c→∀v,s.heap.IsCell c v→h'.IsCell c v:=fun x c e v ⟨o,ho,hd⟩=>by
  have uv:c∉ch:=fun z=>(jL c z).2.2.1 x c e rfl;by_cases hc:c∈X.fs
  ·obtain ⟨sl,q⟩:=slot c o (I.mT x c e) hc uv ho (I.gL x c e)
   exact ⟨_,q,hd⟩
  ·exact ⟨o,keep c o (I.mT x c e) hc uv ho (I.gL x c e),hd⟩
 refine ⟨I.ok,I.os,hg,⟨fun b o e n hb hx=>?_,fun b o e n hb hx=>?_,fun b o e n hx=>?_,fun b o e hx=>?_,fun b xs e=>fG b xs (I.base.fG b xs e),fun b o xs e=>fm b o xs (I.base.fm b o xs e),fun b ps e=>?_⟩,?_,fun x c e=>?_,?_,fun x c e=>?_,fun p hp=>?_,aw,I.len⟩;·exact keep b o (CK b o e) hb (vT b o e hx) (I.base.keep b o e n hb hx) (I.base.free b o e n hx)
 ·obtain ⟨sl,e1⟩:=I.base.slot b o e n hb hx
  obtain ⟨IH,e2⟩:=slot b _ (CK b o e) hb (vT b o e hx) e1 (I.base.free b o e n hx);exact ⟨IH,e2⟩
 ·obtain ⟨o',e1⟩:=I.base.there b o e hx
  exact free b o' (vT b o e hx) e1 (I.base.free b o e n hx)
 ·obtain ⟨o',e1⟩:=I.base.there b o e hx
  exact there b o' (vT b o e hx) e1
 ·obtain ⟨m1,e1⟩:=I.base.fH b ps e
  obtain ⟨m2,e2⟩:=fH b _ e1;exact ⟨m1++m2,by rw [e2,Array.append_assoc]⟩
 ·obtain ⟨m,hn,hl⟩:=I.loc
  refine ⟨m,ns m hn,fun i x v e1 e2 e3=>?_⟩;obtain ⟨u,r,l⟩:=hl i x v e1 e2 e3;refine ⟨u,r,?_⟩;rcases l with l | ⟨k,c,e,z⟩;·exact .inl l
  ·exact .inr ⟨k,c,e,cellK x c e _ z⟩
 ·obtain ⟨v,z⟩:=I.cell x c e
  exact ⟨v,cellK x c e v z⟩
 ·obtain ⟨m,⟨o,_,_,ho,_⟩,_⟩:=I.loc
  exact free _ o (fun z=>(jL _ z).2.1 rfl) ho I.free
 ·obtain ⟨v,o,ho,hd⟩:=I.cell x c e
  exact free c o (fun z=>(jL c z).2.2.1 x c e rfl) ho (I.gL x c e)
 ·obtain ⟨e,n,ne,nf,d⟩:=I.pin p hp
  have uv:p.1∉ch:=fun z=>(jL p.1 z).2.2.2 p hp rfl;exact ⟨keep p.1 p.2 ne nf uv e n,free p.1 p.2 uv e n,ne,nf,d⟩
theorem Inv.un(I:Inv X pins σ H s)(u:Un X.fs [] H H' s.heap h')(aw:bU X.prog X.w H' h'):Inv X pins σ H' {s with heap:=h',toks:=t'}:=by
 obtain ⟨m,⟨o,es,ep,ho,r⟩,_⟩:=id I.loc;obtain ⟨sl,hL⟩:=u.any ho I.free (by simp)
 exact I.step (g':=s.gens) (d':=s.drawn) (ch:=[]) (fun _ z=>nomatch z) (fun b o _ hb _ e n=>u.keep b o e n hb (by simp)) (fun b o _ hb _ e n=>u.slot b o e n hb (by simp)) (fun b o _ e n=>u.free b o e n (by simp)) (fun b o _ e=>u.there b o e (by simp)) u.fG u.fm u.fH (fun m' hm=>by obtain ⟨o',zg,zh,jK,r'⟩:=hm;rw [ho] at jK;cases jK;exact ⟨_,zg,zh,hL,r'⟩) aw I.bare
theorem Inv.call(I:Inv X pins σ H s)(u:Un (cf X.stack) ch H H' s.heap h')(aw:bU X.prog X.w H' h')(hg:AllBare g')
  (jL:∀b∈ch,(b∈X.ex∨X.s₀.heap.objs.size≤b)∧b≠X.env.locals∧(∀x c,X.env.cells.lookup x=some c→c≠b)∧∀p∈X.pn++pins,p.1≠b) :
  Inv X pins σ H' {s with heap:=h',gens:=g',drawn:=d',toks:=t'}:=by
 obtain ⟨m,⟨o,es,ep,ho,r⟩,_⟩:=id I.loc;obtain ⟨sl,hL⟩:=u.any ho I.free fun z=>(jL _ z).2.1 rfl;exact I.step (ch:=ch) jL (fun b o hL hb hc e n=>u.keep b o e n (fun z=>(cp.mp (I.mU b z)).elim hL hb) hc) (fun b o _ _ hc e n=>u.any e n hc) (fun b o hc e n=>u.free b o e n hc) (fun b o hc e=>u.there b o e hc) u.fG u.fm u.fH (fun m' hm=>by obtain ⟨o',zg,zh,jK,r'⟩:=hm;rw [ho] at jK;cases jK;exact ⟨_,zg,zh,hL,r'⟩) aw hg
theorem Inv.turned{it:Addr}(I:Inv X pins σ H s)(k:∀b o,b≠it→s.heap.get? b=some o→h'.get? b=some o)(hn:H it=none)(hL:it≠X.env.locals)
  (h1:it∈X.ex∨X.s₀.heap.objs.size≤it) (h2:∀x c,X.env.cells.lookup x=some c→c≠it) (h3:∀p∈X.pn++pins,p.1≠it):Inv X pins σ H {s with heap:=h',toks:=t'}:=by
 have CL:∀b u,H b=some u→b≠it:=fun b u e z=>by rw [z,hn] at e;cases e
 refine I.step (g':=s.gens) (d':=s.drawn) (ch:=[it]) (fun b hb=>?_) (fun b o _ _ hc e _=>k b o (fun z=>hc (by simp [z])) e) (fun b o _ _ hc e _=>⟨o.slots,k b o (fun z=>hc (by simp [z])) e⟩) (fun _ _ _ _ n=>n)
  (fun b o hc e=>⟨o,k b o (fun z=>hc (by simp [z])) e⟩) (fun _ _ e=>e) (fun _ _ _ e=>e) (fun b ps e=>⟨#[],by rw [e];simp⟩) (fun m hm=>?_) (fun b u e=>?_) I.bare
 ·have e:b=it:=by simpa using hb
  subst e;exact ⟨h1,hL,h2,h3⟩
 ·obtain ⟨o,es,ep,ho,r⟩:=hm
  exact ⟨o,es,ep,k _ o (Ne.symm hL) ho,r⟩
 ·refine (I.aw b u e).hE (fun c v hc q=>k c v ?_ q) (fun _ q=>q) fun _ _ q=>q
  rcases hc with z | z;·rw [z];exact CL b u e
  ·exact CL c _ z
theorem Inv.tok(I:Inv X pins σ H s)(t:Nat):Inv X pins σ H {s with toks:=t}:=I.un (h':=s.heap) (t':=t) Un.refl I.aw
theorem Inv.kept(I:Inv X pins σ H s)(k:∀b u,s.heap.get? b=some u→h'.get? b=some u):Inv X pins σ H {s with heap:=h',toks:=t'}:=I.un (Un.kept k) (I.aw.kept k)
theorem Inv.laid(I:Inv X pins σ H s)(k:∀b u,s.heap.get? b=some u→h'.get? b=some u)(hp:s.heap.objs.size≤a)(new:cz X.prog X.w (upd H a o) h' a o) :
  Inv X pins σ (upd H a o) {s with heap:=h',toks:=t'}:=I.un (Un.laid k hp (I.aw.fresh hp)) (I.aw.laid k hp new)
theorem Inv.write{x e:Addr}(I:Inv X pins σ H s)(mu:uu (H x))(he:e=x∨H e=some (.own x))(k:∀b u,b≠e→s.heap.get? b=some u→h'.get? b=some u)(qe:∃u,h'.get? e=some u)
  (new:cz X.prog X.w (upd H x o) h' x o):Inv X pins σ (upd H x o) {s with heap:=h',toks:=t'}:=I.un (Un.write mu he k qe) (I.aw.write mu he k qe new)
theorem Inv.CM{CN:aO}(I:Inv X pins σ H s)(h:∀p∈CN,s.heap.get? p.1=some p.2∧H p.1=none∧p.1≠X.env.locals∧p.1∉X.fs∧∀v,p.2.data≠.cell v):Inv X CN σ H s:=
 ⟨I.ok,I.os,I.bare,I.base,I.loc,I.cell,I.free,I.gL,fun p hp=>(km.mp hp).elim (fun z=>I.pin p (List.mem_append_left _ z)) (h p),I.aw,I.len⟩
variable {i:Nat} {x:Str}
theorem CO{N:List Str}(hN:N.Nodup){j:Nat}(a:N[i]?=some x)(b:N[j]?=some x):i=j:=by obtain ⟨h1,e1⟩:=cq.mp a;obtain ⟨h2,e2⟩:=cq.mp b;exact (List.getElem_inj hN).mp (e1.trans e2.symm)
variable {M:Model} {A:Around} {E:aI} {v:V} {u:Value} {Q:Unit→Shared→Prop}
theorem zi(I:Inv X pins σ H s)(hN:X.N.Nodup)(hi:X.N[i]?=some x)(hx:Loc X.env.scope x)(r:RelV v u)
  (h:∀s',Inv X pins (σ.set i (some v)) H s'→(∃a,Heap.SameBut a s.heap s'.heap∧(a=X.env.locals∨X.env.cells.lookup x=some a))→Q () s') (hf:X.fn x=true∨X.env.scope.names.lookup x=some .local:=by first | exact .inl rfl | exact .inr rfl | assumption):wpAny M A (storeName X.env x u) Q E s:=by
 obtain ⟨m,hn,hl⟩:=id I.loc;have II:(X.env.scope.kind == .class || (X.env.scope.kind == .module && X.env.locals != X.env.globals))=false:=by rw [I.ok.kind];rfl
 have CP:i<σ.length:=by rw [I.len];exact (cq.mp hi).1
 have mT:=I.mT;have tracked:∀{a:Addr} {h':Heap},(∃o,s.heap.get? a=some o∧H a=none)→Heap.SameBut a s.heap h'→bU X.prog X.w H h':=fun{a h'} ha hs b ob e=>by
  obtain ⟨_,_,CQ⟩:=ha;refine (I.aw b ob e).hE (fun c w' hc q=>(hs.2 c ?_).trans q) (fun _ q=>q) fun _ _ q=>q;rintro rfl;rcases hc with rfl | hc;·rw [CQ] at e;cases e
  ·rw [CQ] at hc;cases hc
 rcases hx with hk | hk
 ·refine wpAny_storeName_local hk hn (fun h' IJ hs=>?_) II
  obtain ⟨oL,_,_,IK,_⟩:=id hn;refine h _ ⟨I.ok,I.os,I.bare,⟨fun b o e n hb hx=>?_,fun b o e n hb hx=>?_,I.base.free,fun b o e hx=>?_,I.base.fG,I.base.fm,I.base.fH⟩,⟨_,IJ,fun j y v' e1 e2 e3=>?_⟩,fun y c e=>?_,I.free,I.gL,fun p hp=>?_,tracked ⟨oL,IK,I.free⟩ hs,by simpa using I.len⟩ ⟨_,hs,.inl rfl⟩
  ·exact (hs.2 b (cP (dB (bg e) I.ok.above))).trans (I.base.keep b o e n hb hx)
  ·obtain ⟨sl,e1⟩:=I.base.slot b o e n hb hx
   exact ⟨sl,(hs.2 b (cP (dB (bg e) I.ok.above))).trans e1⟩
  ·obtain ⟨o',e1⟩:=I.base.there b o e hx
   exact ⟨o',(hs.2 b (cP (dB (bg e) I.ok.above))).trans e1⟩
  ·by_cases hj:j=i
   ·subst hj
    rw [hi] at e1;cases e1;rw [List.getElem?_set_self CP] at e2;cases e2;exact ⟨u,r,.inl ⟨hk,by simp⟩⟩
   ·rw [List.getElem?_set_ne (Ne.symm hj)] at e2
    obtain ⟨u',r',q⟩:=hl j y v' e1 e2 e3;refine ⟨u',r',?_⟩;rcases q with ⟨k,e⟩ | ⟨k,c,e,z⟩
    ·refine .inl ⟨k,?_⟩
     have:y≠x:=fun e=>hj (CO hN e1 (e▸hi));simp [this,e]
    ·exact .inr ⟨k,c,e,z.sameBut hs (mT y c e)⟩
  ·obtain ⟨w',z⟩:=I.cell y c e
   exact ⟨w',z.sameBut hs (mT y c e)⟩
  ·obtain ⟨e,n,ne,nf,d⟩:=I.pin p hp
   exact ⟨(hs.2 p.1 ne).trans e,n,ne,nf,d⟩
 ·have zj:X.fn x=true:=by
   rcases hf with z | z;·exact z
   ·rw [z] at hk;cases hk
  obtain ⟨c,hc⟩:=I.ok.has x (.inl hk);obtain ⟨w',z⟩:=I.cell x c hc;refine wpAny_storeName_cell I.ok.kind hk hc z (fun h' eR hs=>?_);obtain ⟨oc,CS,IL⟩:=id z;refine h {s with heap:=h'} ⟨I.ok,I.os,I.bare,⟨fun b o e n hb hx=>?_,fun b o e n hb hx=>?_,I.base.free,fun b o e hx=>?_,I.base.fG,I.base.fm,I.base.fH⟩,⟨m,hn.sameBut hs (Ne.symm (mT x c hc)),fun j y v' e1 e2 e3=>?_⟩,fun y c' e=>?_,I.free,I.gL,fun p hp=>?_,tracked ⟨oc,CS,I.gL x c hc⟩ hs,by simpa using I.len⟩ ⟨c,hs,.inr hc⟩
  ·exact (hs.2 b (cP (dB (bg e) (I.ok.mR x c zj hc)))).trans (I.base.keep b o e n hb hx)
  ·obtain ⟨sl,e1⟩:=I.base.slot b o e n hb hx
   exact ⟨sl,(hs.2 b (cP (dB (bg e) (I.ok.mR x c zj hc)))).trans e1⟩
  ·obtain ⟨o',e1⟩:=I.base.there b o e hx
   exact ⟨o',(hs.2 b (cP (dB (bg e) (I.ok.mR x c zj hc)))).trans e1⟩
  ·by_cases hj:j=i
   ·subst hj
    rw [hi] at e1;cases e1;rw [List.getElem?_set_self CP] at e2;cases e2;exact ⟨u,r,.inr ⟨.inl hk,c,hc,eR⟩⟩
   ·rw [List.getElem?_set_ne (Ne.symm hj)] at e2
    obtain ⟨u',r',q⟩:=hl j y v' e1 e2 e3;refine ⟨u',r',?_⟩;rcases q with q | ⟨k,c',e,z'⟩;·exact .inl q
    ·refine .inr ⟨k,c',e,z'.sameBut hs ?_⟩
     rintro rfl;exact hj (CO hN e1 (I.ok.inj _ _ _ e hc▸hi))
  ·by_cases CT:c'=c
   ·subst CT;exact ⟨_,eR⟩
   ·obtain ⟨w2,z2⟩:=I.cell y c' e
    exact ⟨w2,z2.sameBut hs CT⟩
  ·obtain ⟨e,n,ne,nf,d⟩:=I.pin p hp
   refine ⟨(hs.2 p.1 ?_).trans e,n,ne,nf,d⟩;intro q;rw [q,CS] at e;have q':oc=p.2:=Option.some.inj e;exact d w' (by rw [←q'];exact IL)
theorem uw(I:Inv X pins σ H s)(hN:X.N.Nodup)(hi:X.N[i]?=some x)(hx:Loc X.env.scope x)(r:RelV v u)
  (h:∀s',Inv X pins (σ.set i (some v)) H s'→Q () s') (hf:X.fn x=true∨X.env.scope.names.lookup x=some .local:=by first | exact .inl rfl | exact .inr rfl | assumption):wpAny M A (storeName X.env x u) Q E s:=
 zi I hN hi hx r (fun s' I' _=>h s' I') hf
theorem Inv.kH{s':Shared}(I:Inv X pins σ H s)(ho:s'.os=s.os)(u:Un (cf X.stack) ch H H' s.heap s'.heap)(aw:bU X.prog X.w H' s'.heap)(hg:AllBare s'.gens)
  (jL:∀b∈ch,(b∈X.ex∨X.s₀.heap.objs.size≤b)∧b≠X.env.locals∧(∀x c,X.env.cells.lookup x=some c→c≠b)∧∀p∈X.pn++pins,p.1≠b):Inv X pins σ H' s':=by
 obtain ⟨h',g',d',t',o'⟩:=s';have e:o'=s.os:=ho;subst e;exact I.call (g':=g') (t':=t') (d':=d') u aw hg jL
end
abbrev XK:=Value→Option Addr→Hp→Prop
abbrev St:=List (Option V)
abbrev VK:=V→Hp→Prop
abbrev TE:=St→Hp→VK→Prop
abbrev TT:=St→Hp→(Bool→Hp→Prop)→Prop
abbrev TA:=St→Hp→(List V→Hp→Prop)→Prop
structure Ends where
 nx:St→Hp→Prop
 rt:VK
 bk:St→Hp→Prop:=fun _ _=>False
 ct:St→Hp→Prop:=fun _ _=>False
abbrev TS:=Ends→St→Hp→Prop
def EP(X:Cx)(pins:aO)(σ:St)(Q:VK)(u:Value)(s':Shared):Prop:=∃v H',Inv X pins σ H' s'∧RelV v u∧Q v H'
def TP(X:Cx)(pins:aO)(σ:St)(Q:Bool→Hp→Prop)(b:Bool)(s':Shared):Prop:=∃H',Inv X pins σ H' s'∧Q b H'
def AP(X:Cx)(pins:aO)(σ:St)(Q:List V→Hp→Prop)(us:List Value)(s':Shared):Prop:=∃vs H',Inv X pins σ H' s'∧Vals vs us∧Q vs H'
def SP(X:Cx)(pins:aO)(D:Ends)(f:Flow)(s':Shared):Prop:=
 match f with
 | .next=>∃σ' H',Inv X pins σ' H' s'∧D.nx σ' H'
 | .brk=>∃σ' H',Inv X pins σ' H' s'∧D.bk σ' H'
 | .cont=>∃σ' H',Inv X pins σ' H' s'∧D.ct σ' H'
 | .ret u=>∃v σ' H',Inv X pins σ' H' s'∧RelV v u∧D.rt v H'
def PE(X:Cx)(e:Expr)(t:TE):Prop:=
 ∀(pins:aO) (s:Shared) (σ:St) (H:Hp) (Q:VK),Inv X pins σ H s→t σ H Q→wpAny (model X.prog X.w) X.A (eval e X.env) (EP X pins σ Q) X.xe s
def PT(X:Cx)(e:Expr)(t:TT):Prop:=
 ∀(pins:aO) (s:Shared) (σ:St) (H:Hp) (Q:Bool→Hp→Prop),Inv X pins σ H s→t σ H Q→wpAny (model X.prog X.w) X.A (isTrue e X.env (eval e X.env)) (TP X pins σ Q) X.xe s
def PW(X:Cx)(e:Expr)(t:TT):Prop:=
 ∀(whole:Sem Value) (pins:aO) (s:Shared) (σ:St) (H:Hp) (Q:Bool→Hp→Prop),Inv X pins σ H s→t σ H Q→wpAny (model X.prog X.w) X.A (isTrue e X.env whole) (TP X pins σ Q) X.xe s
variable {X:Cx}
theorem PW.pt{e:Expr}{t:TT}(h:PW X e t):PT X e t:=h _
def PA(X:Cx)(es:List Expr)(t:TA):Prop:=
 ∀(pos:Pos) (pins:aO) (s:Shared) (σ:St) (H:Hp) (Q:List V→Hp→Prop),Inv X pins σ H s→t σ H Q→wpAny (model X.prog X.w) X.A (spliced (backTo pos (starEach es X.env))) (AP X pins σ Q) X.xe s
def PS(X:Cx)(st:Stmt)(t:TS):Prop:=
 ∀(pins:aO) (s:Shared) (σ:St) (H:Hp) (D:Ends),Inv X pins σ H s→t D σ H→wpAny (model X.prog X.w) X.A (exec st X.env) (SP X pins D) X.xe s
def dJ(X:Cx)(st:List Stmt)(t:TS):Prop:=
 ∀(pins:aO) (s:Shared) (σ:St) (H:Hp) (D:Ends),Inv X pins σ H s→t D σ H→wpAny (model X.prog X.w) X.A (execs st X.env) (SP X pins D) X.xe s
variable {M:Model} {A:Around} {E:aI} {s:Shared}
theorem aE{α:Type}{t:Sem α}{Q Q':α→Shared→Prop}(h:wpAny M A t Q E s)(hQ:∀a s,Q a s→Q' a s):wpAny M A t Q' E s:=bF h hQ fun _ _ x=>x
section
variable {X:Cx}
variable {pins:aO} {σ:St}
theorem bin{a b:Expr}{ta tb:TE}(ha:PE X a ta)(hb:PE X b tb){R:V→V→Hp→Prop}(I:Inv X pins σ H s)(h:ta σ H fun x H1=>tb σ H1 fun y H2=>R x y H2)
  {α:Type} {Q:α→Shared→Prop} {f:Value→Value→Sem α}
  (hf:∀v u s2 x y H2,Inv X pins σ H2 s2→RelV x v→RelV y u→R x y H2→wpAny (model X.prog X.w) X.A (f v u) Q X.xe s2) :
  wpAny (model X.prog X.w) X.A (eval a X.env) (fun v s₁=>wpAny (model X.prog X.w) X.A (eval b X.env) (fun u s₂=>wpAny (model X.prog X.w) X.A (f v u) Q X.xe s₂) X.xe s₁) X.xe s:=by
 refine aE (ha pins s σ H _ I h) fun v s1 ⟨x,H1,I1,r1,q1⟩=>?_;refine aE (hb pins s1 σ H1 _ I1 q1) fun u s2 ⟨y,H2,I2,r2,q2⟩=>?_;exact hf v u s2 x y H2 I2 r1 r2 q2
def CU(i:Nat):TE:=fun σ H Q=>∃v,σ[i]?=some (some v)∧Q v H
def tC(v:V):TE:=fun _ H Q=>Q v H
variable {x:Str} {pos:Pos}
theorem IM{i:Nat}(hN:X.N[i]?=some x)(hv:kB X.env.scope x)(hd:(x == ("__debug__":Str))=false:=by decide)(eS:(x == ("__classdict__":Str))=false:=by decide):PE X (.Name x pos) (CU i):=by
 intro pins s σ H Q I h;obtain ⟨v,e,h⟩:=h;obtain ⟨m,hn,hl⟩:=I.loc;obtain ⟨u,r,l⟩:=hl i x v hN e hv;have fin:EP X pins σ Q u s:=⟨v,H,I,r,h⟩;rcases l with ⟨hk,hm⟩ | ⟨hk,c,hc,vU⟩;·exact wpAny_Name (wpAny_loadName_local I.ok.kind hk hn hm fin) hd
 ·rcases hk with hk | hk
  ·exact wpAny_Name (wpAny_loadName_cell I.ok.kind hk hc vU fin) hd
  ·exact wpAny_Name (wpAny_loadName_free I.ok.kind hk hc vU fin eS) hd
theorem ak{i j pos}:PE X (.Constant (.int i) j pos) (tC (.int i)):=fun _ _ _ H _ I h=>wpAny_Constant_int ⟨.int i,H,I.tok _,⟨_,rfl⟩,h⟩
theorem hU{b j pos}:PE X (.Constant (.bool b) j pos) (tC (.bl b)):=fun _ _ _ H _ I h=>Constant_bool ⟨.bl b,H,I,rfl,h⟩
theorem kI{j pos}:PE X (.Constant .none j pos) (tC .aH):=fun _ _ _ H _ I h=>Constant_none ⟨.aH,H,I,rfl,h⟩
theorem eU{x j pos}:PE X (.Constant (.str x) j pos) (tC (.str x)):=fun _ _ _ H _ I h=>Calls.Constant_str ⟨.str x,H,I.tok _,⟨_,rfl⟩,h⟩
def Gl(X:Cx)(x:Str):Prop:=X.env.kindOf x=some .globalImplicit
variable {u:Value} {Q:aI}
theorem vV(I:Inv X pins σ H s)(hg:Gl X x)(hm:X.mg x=some u)(h:Q u s)
  (hd:(x == ("__debug__":Str))=false:=by decide):wpAny (model X.prog X.w) X.A (eval (.Name x pos) X.env) Q E s:=
 Calls.Name_function_global I.ok.kind hg (Calls.loadGlobal_global (by rw [I.ok.glob];exact I.mod.glob.keeps I.bk) hm h) hd
theorem mW(I:Inv X pins σ H s)(hg:Gl X x)(hm:X.mg x=none)(hv:bootBuiltins x=some u)(h:Q u s)
  (hn:x ≠ "__name__":=by decide) (hd:(x == ("__debug__":Str))=false:=by decide):wpAny (model X.prog X.w) X.A (eval (.Name x pos) X.env) Q E s:=by
 obtain ⟨mb,h1,h2⟩:=I.mod.blt;exact Calls.Name_function_global I.ok.kind hg (Calls.loadGlobal_builtin (by rw [I.ok.glob];exact I.mod.glob.keeps I.bk) hm (by rw [I.ok.blt];exact h1.keeps I.bk) ((h2 x hn).trans hv) h) hd
variable {v:V}
theorem CV(hg:Gl X x)(hm:X.mg x=some u)(r:RelV v u)(hd:(x == ("__debug__":Str))=false:=by decide):PE X (.Name x pos) (tC v):=
 fun _ _ _ H _ I h=>vV I hg hm ⟨v,H,I,r,h⟩ hd
theorem ux(hg:Gl X x)(hm:X.mg x=none)(hv:bootBuiltins x=some u)(r:RelV v u)(hn:x ≠ "__name__":=by decide)(hd:(x == ("__debug__":Str))=false:=by decide):PE X (.Name x pos) (tC v):=
 fun _ _ _ H _ I h=>mW I hg hm hv ⟨v,H,I,r,h⟩ hn hd
variable {a b:Expr} {ta tb:TE} {pos:Pos}
def PC(X:Cx)(op:CmpOp)(a b:Expr)(t:TE):Prop:=
 ∀(pins:aO) (s:Shared) (σ:St) (H:Hp) (Q:VK),Inv X pins σ H s→t σ H Q→
  wpAny (model X.prog X.w) X.A (eval a X.env) (fun v s₁=>wpAny (model X.prog X.w) X.A (eval b X.env) (fun u s₂=>wpAny (model X.prog X.w) X.A (compareOp op v u) (EP X pins σ Q) X.xe s₂) X.xe s₁) X.xe s
def tB(t:TE):TT:=fun σ H Q=>t σ H fun x H1=>∃c,x=.bl c∧Q c H1
variable {t:TE}
theorem Ts{op:CmpOp}(h:PC X op a b t)(h1:behindInMarks op b=false:=by first | exact Tx _ (by decide) (by decide) | rfl):PT X (.Compare a [op] [b] pos) (tB t):=by intro pins s σ H Q I hw;refine wpAny_isTrue_Compare1 (aE (h pins s σ H _ I hw) fun v s1 h1=>aE h1 fun u s2 h2=>aE h2 fun c s3 ⟨x,H1,I1,r1,q1⟩=>?_) h1;obtain ⟨d,rfl,q⟩:=q1;cases r1;exact lJ ⟨H1,I1,q⟩
theorem lQ{e:Expr}(h:PE X e t)(he:∀whole,isTrue e X.env whole=(do let v ←whole;standAt e.pos;holding [v] (truthy v)):=by intro _;rfl):PT X e (tB t):=by
 intro pins s σ H Q I hw
 refine isTrue_plain (aE (h pins s σ H _ I hw) fun v s1 ⟨x,H1,I1,r1,q1⟩=>?_) (he _)
 obtain ⟨d,rfl,q⟩:=q1
 cases r1
 exact lJ ⟨H1,I1,q⟩
variable {tA zk:TT} {rest:List Expr}
def IP(t u:TT):TT:=fun σ H Q=>t σ H fun c H1=>if c=true then Q true H1 else u σ H1 Q
def CW(t:TT):TT:=fun σ H Q=>t σ H fun c H1=>Q (!c) H1
theorem pw_or1(ha:PT X a tA):PW X (.BoolOp .Or [a] pos) tA:=by
 intro wh pins s σ H Q I h;refine isTrue_or (aE (ha pins s σ H Q I h) fun c s1 e=>?_);cases c with
 | false=>exact isTrue_or_nil e
 | true=>exact e
theorem pw_or(ha:PT X a tA)(hb:PW X (.BoolOp .Or (b::rest) pos) zk):PW X (.BoolOp .Or (a::b::rest) pos) (IP tA zk):=by
 intro wh pins s σ H Q I h;refine isTrue_or (aE (ha pins s σ H _ I h) fun c s1 ⟨H1,I1,q1⟩=>?_);cases c with
 | true=>exact ⟨H1,I1,q1⟩
 | false=>exact hb wh pins s1 σ H1 Q I1 q1
theorem uy(ha:PT X a tA):PT X (.UnaryOp .Not a pos) (CW tA):=by intro pins s σ H Q I h;exact isTrue_not (ha pins s σ H (fun c H1=>Q (!c) H1) I h)
def IQ(ta tb:TE):TE:=fun σ H Q=>ta σ H fun x H1=>∃c,x=.bl c∧if c=true then tb σ H1 Q else Q (.bl false) H1
def IS(ta:TE):TE:=fun σ H Q=>ta σ H fun x H1=>∃c,x=.bl c∧Q (.bl (!c)) H1
theorem zl{op}(h:PE X a t):PE X (.BoolOp op [a] pos) t:=fun pins s σ H Q I hw=>BoolOp_one (h pins s σ H Q I hw)
theorem uz(ha:PE X a ta)(hb:PE X (.BoolOp .And (b::rest) pos) tb):PE X (.BoolOp .And (a::b::rest) pos) (IQ ta tb):=by
 intro pins s σ H Q I h;refine BoolOp_and (aE (ha pins s σ H _ I h) fun v s1 ⟨x,H1,I1,r1,q1⟩=>?_);obtain ⟨c,rfl,q1⟩:=q1;cases r1;refine lJ ?_;cases c with
 | true=>exact hb pins s1 σ H1 Q I1 q1
 | false=>exact ⟨.bl false,H1,I1,rfl,q1⟩
theorem IT(ha:PE X a ta):PE X (.UnaryOp .Not a pos) (IS ta):=by intro pins s σ H Q I h;refine UnaryOp_ (aE (ha pins s σ H _ I h) fun v s1 ⟨x,H1,I1,r1,q1⟩=>?_);obtain ⟨c,rfl,q1⟩:=q1;cases r1;exact not_of (lJ ⟨.bl (!c),H1,I1,rfl,q1⟩)
def IU(t:TT)(ta tb:TE):TE:=fun σ H Q=>t σ H fun c H1=>if c=true then ta σ H1 Q else tb σ H1 Q
theorem CY{c:Expr}(hc:PT X c tA)(ha:PE X a ta)(hb:PE X b tb):PE X (.IfExp c a b pos) (IU tA ta tb):=by
 intro pins s σ H Q I h;refine wpAny_IfExp (aE (hc pins s σ H _ I h) fun d s1 ⟨H1,I1,q1⟩=>?_);cases d with
 | true=>exact ha pins s1 σ H1 Q I1 q1
 | false=>exact hb pins s1 σ H1 Q I1 q1
end
def bC(K:ay)(H:Hp)(a:Addr)(xs:List V):Prop:=
 Rd H a (.lst xs) ∨
  ∃(o:Obj) (ag:Array Value) (n:Nat),K.lookup a=some o∧o.cls=.type "list"∧o.dict=none∧o.data=.seq ag n∧ag.size≤sizeLine∧Vals xs ag.toList
def dW(K:ay)(H:Hp)(a:Addr)(xs:List V):Prop:=
 Rd H a (.tup xs) ∨
  ∃(o:Obj) (ag:Array Value) (n:Nat),K.lookup a=some o∧o.cls=.type "tuple"∧o.data=.seq ag n∧ag.size≤sizeLine∧Vals xs ag.toList
def IV:Value→Option V
 | .none=>some .aH
 | .bool b=>some (.bl b)
 | .int i _=>some (.int i)
 | .str x _=>some (.str x)
 | .bytes b _=>some (.iO b)
 | .float b _=>some (.mP b)
 | .ref a=>some (.ref a)
 | .type n=>some (.ty n)
 | _=>none
variable {x:V} {u:Value}
theorem RelV.abs(r:RelV x u):IV u=some x:=by
 cases x with
 | aH=>cases r;rfl
 | bl _=>cases r;rfl
 | int _=>obtain ⟨t,rfl⟩:=r;rfl
 | str _=>obtain ⟨t,rfl⟩:=r;rfl
 | iO _=>obtain ⟨t,rfl⟩:=r;rfl
 | mP _=>obtain ⟨t,rfl⟩:=r;rfl
 | ref _=>cases r;rfl
 | ty _=>cases r;rfl
theorem RelV.inj{y:V}(r:RelV x u)(q:RelV y u):x=y:=Option.some.inj (r.abs.symm.trans q.abs)
theorem Vals.inj:∀{xs ys:List V} {us:List Value},Vals xs us→Vals ys us→xs=ys
 | _,_,_,.nil,.nil=>rfl
 | _,_,_,.cons r t,.cons r' t'=>by rw [r.inj r',Vals.inj t t']
section
variable {X:Cx} {pins:aO} {σ:St} {H:Hp} {s:Shared} {a:Addr} {xs ys:List V}
variable {K:ay}
theorem bC.of(h:H a=some (.lst xs)):bC K H a xs:=.inl (.inl h)
theorem dW.of(h:H a=some (.tup xs)):dW K H a xs:=.inl (.inl h)
theorem Inv.list(I:Inv X pins σ H s)(h:bC X.K H a xs):∃ag:List Value,Vals xs ag∧PlainL s.heap a ag.toArray∧xs.length≤sizeLine:=by
 rcases h with h | ⟨o,ag,n,hk,hc,hd,hs,hz,r⟩
 ·obtain ⟨z,ag,n,r,e⟩:=h.ok I.aw
  exact ⟨ag,r,⟨_,n,e,rfl,rfl,rfl⟩,z⟩
 ·refine ⟨ag.toList,r,⟨o,n,I.dc a o hk,hc,hd,by simpa using hs⟩,?_⟩
  have e:=r.length;simp only [Array.length_toList] at e;lia
theorem Inv.tuple(I:Inv X pins σ H s)(h:dW X.K H a xs):∃ag:List Value,Vals xs ag∧IsTup s.heap a ag.toArray∧xs.length≤sizeLine:=by
 rcases h with h | ⟨o,ag,n,hk,hc,hs,hz,r⟩
 ·obtain ⟨z,ag,r,p⟩:=h.ok I.aw
  exact ⟨ag,r,p,z⟩
 ·refine ⟨ag.toList,r,⟨o,I.dc a o hk,hc,n,by simpa using hs⟩,?_⟩
  have e:=r.length;simp only [Array.length_toList] at e;lia
theorem Inv.zm(I:Inv X pins σ H s)(h:bC X.K H a xs)(h':bC X.K H a ys):xs=ys:=by
 obtain ⟨ag,r,⟨o,n,e,_,_,d⟩,_⟩:=I.list h;obtain ⟨its',r',⟨o',n',e',_,_,d'⟩,_⟩:=I.list h';rw [e] at e';cases e';rw [d] at d';injection d' with d1 _;have:ag=its':=by simpa using gh Array.toList d1
 subst this;exact r.inj r'
theorem Inv.IW(I:Inv X pins σ H s)(h:dW X.K H a xs)(h':dW X.K H a ys):xs=ys:=by
 obtain ⟨ag,r,⟨o,e,_,n,d⟩,_⟩:=I.tuple h;obtain ⟨its',r',⟨o',e',_,n',d'⟩,_⟩:=I.tuple h';rw [e] at e';cases e';rw [d] at d';injection d' with d1 _;have:ag=its':=by simpa using gh Array.toList d1
 subst this;exact r.inj r'
end
abbrev Cx.jM (X:Cx) (E:aI):Cx:={X with xe:=E}
abbrev Cx.jN (X:Cx):Cx:=X.jM fun _ _=>False
theorem Cx.Ok.jM(ok:X.Ok)(E:aI):(X.jM E).Ok:=
 ⟨ok.mod,ok.kind,ok.glob,ok.blt,ok.above,ok.inj,ok.has,ok.mR,ok.hd,ok.frames,ok.hJ,ok.CJ,ok.bs,ok.fI,ok.kC,ok.kD,ok.iP,ok.kG⟩
theorem Cx.Ok.lR(ok:(X.jM E).Ok):X.Ok:=
 ⟨ok.mod,ok.kind,ok.glob,ok.blt,ok.above,ok.inj,ok.has,ok.mR,ok.hd,ok.frames,ok.hJ,ok.CJ,ok.bs,ok.fI,ok.kC,ok.kD,ok.iP,ok.kG⟩
section
variable {X:Cx} {pins:aO} {σ:St} {H:Hp} {s:Shared} {E:aI}
theorem Inv.jM(I:Inv X pins σ H s)(E:aI):Inv (X.jM E) pins σ H s:=⟨I.ok.jM E,I.os,I.bare,I.base,I.loc,I.cell,I.free,I.gL,I.pin,I.aw,I.len⟩
theorem Inv.lR(I:Inv (X.jM E) pins σ H s):Inv X pins σ H s:=⟨I.ok.lR,I.os,I.bare,I.base,I.loc,I.cell,I.free,I.gL,I.pin,I.aw,I.len⟩
theorem SP.lR{D:Ends}{f:Flow}{s':Shared}(h:SP (X.jM E) pins D f s'):SP X pins D f s':=by
 cases f with
 | next=>obtain ⟨σ',H',I,q⟩:=h;exact ⟨σ',H',I.lR,q⟩
 | brk=>obtain ⟨σ',H',I,q⟩:=h;exact ⟨σ',H',I.lR,q⟩
 | cont=>obtain ⟨σ',H',I,q⟩:=h;exact ⟨σ',H',I.lR,q⟩
 | ret u=>obtain ⟨v,σ',H',I,r,q⟩:=h;exact ⟨v,σ',H',I.lR,r,q⟩
theorem dJ.jN{st:List Stmt}{t:TS}(h:dJ X.jN st t):dJ X st t:=fun pins s σ H D I hw=>bF (h pins s σ H D (I.jM _) hw) (fun _ _ q=>q.lR) fun _ _ z=>False.elim z
end
section
variable {X:Cx} {st:Stmt} {rest:List Stmt} {t u:TS} {e:Expr} {te:TE} {pos:Pos}
def vW:TS:=fun D σ H=>D.nx σ H
def zo(t u:TS):TS:=fun D σ H=>t {D with nx:=u D} σ H
theorem cw:dJ X [] vW:=fun _ _ σ H _ I h=>vF ⟨σ,H,I,h⟩
theorem ar(h1:PS X st t)(h2:dJ X rest u):dJ X (st::rest) (zo t u):=by
 intro pins s σ H D I h;refine wpAny_execs_cons (aE (h1 pins s σ H {D with nx:=u D} I h) fun f s1 q=>?_);cases f with
 | next=>obtain ⟨σ',H',I',q⟩:=q;exact h2 pins s1 σ' H' D I' q
 | ret v=>exact q
 | brk=>exact q
 | cont=>exact q
theorem au(h1:PS X st t):dJ X [st] t:=by
 intro pins s σ H D I h;refine wpAny_execs_cons (aE (h1 pins s σ H D I h) fun f s1 q=>?_);cases f with
 | next=>exact vF q
 | ret v=>exact q
 | brk=>exact q
 | cont=>exact q
theorem Inv.quiet{pins:aO}{σ:St}(I:Inv X pins σ H s):interactive X.env=false:=by simp [interactive,I.ok.kind]
def IY(te:TE):TS:=fun D σ H=>te σ H fun _ H1=>D.nx σ H1
theorem qf(he:PE X e te)(hs:swapsWith e none pos.line X.env=pure false:=by rfl):PS X (.Expr e pos) (IY te):=by intro pins s σ H D I h;exact wpAny_Expr_any (aE (he pins s σ H _ I h) fun v s1 ⟨x,H1,I1,r1,q1⟩=>⟨σ,H1,I1,q1⟩) I.quiet hs
def CZ(te:TE):TS:=fun D σ H=>te σ H D.rt
theorem aS(he:PE X e te):PS X (.Return (some e) pos) (CZ te):=by intro pins s σ H D I h;exact wpAny_Return_some (aE (he pins s σ H _ I h) fun v s1 ⟨x,H1,I1,r1,q1⟩=>⟨x,σ,H1,I1,r1,q1⟩)
def C0(c:TT)(t u:TS):TS:=fun D σ H=>c σ H fun b H1=>if b=true then t D σ H1 else u D σ H1
theorem b5{c:Expr}{a b:List Stmt}{tc:TT}(hc:PT X c tc)(ha:dJ X a t)(hb:dJ X b u):PS X (.If c a b pos) (C0 tc t u):=by
 intro pins s σ H D I h;refine wpAny_If (aE (hc pins s σ H _ I h) fun d s1 ⟨H1,I1,q1⟩=>?_);cases d with
 | true=>exact ha pins s1 σ H1 D I1 q1
 | false=>exact hb pins s1 σ H1 D I1 q1
def IZ:TS:=fun _ _ _=>False
theorem I0{I_:List Stmt}:dJ X I_ IZ:=fun _ _ _ _ _ _ h=>h.elim
end
abbrev TG:=V→St→Hp→(St→Hp→Prop)→Prop
abbrev mX:=List V→St→Hp→(St→Hp→Prop)→Prop
def PG(X:Cx)(target:Expr)(t:TG):Prop:=
 ∀(pins:aO) (s:Shared) (σ:St) (H:Hp) (v:V) (u:Value) (Q:St→Hp→Prop),Inv X pins σ H s→RelV v u→t v σ H Q→
  wpAny (model X.prog X.w) X.A (assign target X.env u) (fun _ s'=>∃σ' H',Inv X pins σ' H' s'∧Q σ' H') X.xe s
def vX(X:Cx)(ts:List Expr)(t:mX):Prop:=
 ∀(pins:aO) (s:Shared) (σ:St) (H:Hp) (vs:List V) (us:List Value) (Q:St→Hp→Prop),Inv X pins σ H s→Vals vs us→t vs σ H Q→
  wpAny (model X.prog X.w) X.A (assignInOrder ((assignEach ts X.env).map (·.2)) us) (fun _ s'=>∃σ' H',Inv X pins σ' H' s'∧Q σ' H') X.xe s
abbrev zp:=V→V→V→Hp→(Hp→Prop)→Prop
def C1(X:Cx)(t:zp):Prop:=
 ∀(pins:aO) (s:Shared) (σ:St) (H:Hp) (o i v:V) (ov iv u:Value) (Q:Hp→Prop),Inv X pins σ H s→RelV o ov→RelV i iv→RelV v u→t o i v H Q→
  wpAny (model X.prog X.w) X.A (setItem ov iv u) (fun _ s'=>∃H',Inv X pins σ H' s'∧Q H') X.xe s
abbrev vY:=V→V→Hp→VK→Prop
def C2(X:Cx)(op:Operator)(t:vY):Prop:=
 ∀(pins:aO) (s:Shared) (σ:St) (H:Hp) (x y:V) (v u:Value) (Q:VK),Inv X pins σ H s→RelV x v→RelV y u→t x y H Q→
  wpAny (model X.prog X.w) X.A (inplaceOp op v u) (EP X pins σ Q) X.xe s
section
variable {X:Cx} {pos:Pos}
def b6(i:Nat):TG:=fun v σ H Q=>Q (σ.set i (some v)) H
variable {i:Nat}
theorem cA{x:Str}(hN:X.N.Nodup)(hi:X.N[i]?=some x)(hx:Loc X.env.scope x)(hf:X.fn x=true∨X.env.scope.names.lookup x=some .local:=by first | exact .inl rfl | exact .inr rfl | assumption):PG X (.Name x pos) (b6 i):=by intro pins s σ H v u Q I r h;exact wpAny_assign_Name (uw I hN hi hx r (fun s' I'=>⟨_,H,I',h⟩) hf)
def zq:mX:=fun vs σ H Q=>vs=[]∧Q σ H
def uA(t:TG)(u:mX):mX:=fun vs σ H Q=>∃v r,vs=v::r∧t v σ H fun σ' H'=>u r σ' H' Q
theorem mY:vX X [] zq:=by intro pins s σ H vs us Q I r h;obtain ⟨e,h⟩:=h;subst e;cases r;exact assignInOrder_nil ⟨σ,H,I,h⟩
variable {e:Expr} {es:List Expr}
theorem gM{t:TG}{u:mX}(h1:PG X e t)(h2:vX X es u)
  (hs:(assignEach (e::es) X.env).map (·.2)=assign e X.env::(assignEach es X.env).map (·.2):=by rfl):vX X (e::es) (uA t u):=by
 intro pins s σ H vs us Q I r h;obtain ⟨v,vr,e1,h⟩:=h;subst e1;cases r with
 | cons r rr=>rw [hs];refine assignInOrder_cons (aE (h1 pins s σ H _ _ _ I r h) fun _ s1 ⟨σ1,H1,I1,q1⟩=>?_);exact h2 pins s1 σ1 H1 _ _ Q I1 rr q1
def zt(K:ay)(n:Nat)(t:mX):TG:=fun v σ H Q=>∃a xs,v=.ref a∧dW K H a xs∧xs.length=n∧t xs σ H Q
theorem mZ{k:Nat}{t:mX}{n:Nat}(hc:X.calm=true)(h:vX X es t)
  (hn:(assignEach es X.env).length=n:=by rfl) (zu:(assignEach es X.env).findIdx? (·.1)=none:=by rfl):PG X (.Tuple es k pos) (zt X.K n t):=by
 intro pins s σ H v u Q I r hw;obtain ⟨a,xs,e1,hq,hl,hw⟩:=hw;subst e1;cases r;obtain ⟨ag,rv,ht,hz⟩:=I.tuple hq;refine assign_Tuple_tuple (I.ok.hd hc) ht (by simp [hn,←hl,rv.length]) zu fun h' hx=>?_
 have I1:Inv X pins σ H {s with heap:=h'}:=I.kept (t':=s.toks) fun b o e=>hx b o (cP (bg e)) e;exact h pins _ σ H xs _ Q I1 (by simpa using rv) hw
def Ja(to ti:TE)(t:zp):TG:=fun v σ H Q=>to σ H fun o H1=>ti σ H1 fun i H2=>t o i v H2 fun H3=>Q σ H3
theorem hV{o i:Expr}{to ti:TE}{t:zp}(ho:PE X o to)(hi:PE X i ti)(hs:C1 X t)
  (ha:∀v,assign (.Subscript o i pos) X.env v=(do
   let ov ←holding [v] (eval o X.env)
   let iv ←holding [v,ov] (eval i X.env)
   standAt pos
   holding [v,ov,iv] (setItem ov iv v)
   release [v,ov,iv] []):=by intro _;rfl):PG X (.Subscript o i pos) (Ja to ti t):=by
 intro pins s σ H v u Q I r h
 rw [ha]
 refine bL (wpAny_holding (aE (ho pins s σ H _ I h) fun ov s1 ⟨x,H1,I1,r1,q1⟩=>?_))
 refine bL (wpAny_holding (aE (hi pins s1 σ H1 _ I1 q1) fun iv s2 ⟨y,H2,I2,r2,q2⟩=>?_))
 refine bL (tZ (bL (wpAny_holding (aE (hs pins s2 σ H2 x y v ov iv u _ I2 r1 r2 r q2) fun _ s3 ⟨H3,I3,q3⟩=>?_))))
 exact wpAny_release ⟨σ,H3,I3,q3⟩
def lS(te:TE)(g:TG):TS:=fun D σ H=>te σ H fun x H1=>g x σ H1 D.nx
theorem gs{tg e:Expr}{te:TE}{g:TG}(he:PE X e te)(hg:PG X tg g)(hs:swapsWithSole [tg] e pos.line X.env=pure false:=by rfl)(hw:swappedStores [tg] e X.env=pure none:=by rfl)
  (h1:(assignEach [tg] X.env).map (·.2)=[assign tg X.env]:=by rfl):PS X (.Assign [tg] e pos) (lS te g):=by
 intro pins s σ H D I h;refine wpAny_Assign_stores (aE (he pins s σ H _ I h) fun v s1 ⟨x,H1,I1,r1,q1⟩=>?_) hs hw;rw [h1];exact aE (hg pins s1 σ H1 x v _ I1 r1 q1) fun _ s2 q=>q
variable {te:TE} {pos':Pos}
theorem Jb{x:Str}(hN:X.N.Nodup)(hi:X.N[i]?=some x)(hx:Loc X.env.scope x)(he:PE X e te)(hs:swapsWith e (some (.Name x pos')) pos.line X.env=pure false:=by rfl)(hf:X.fn x=true∨X.env.scope.names.lookup x=some .local:=by first | exact .inl rfl | exact .inr rfl | assumption) :
  PS X (.Assign [.Name x pos'] e pos) (lS te (b6 i)):=by
 intro pins s σ H D I h;refine wpAny_Assign_Name (aE (he pins s σ H _ I h) fun v s1 ⟨y,H1,I1,r1,q1⟩=>?_) hs;exact uw I1 hN hi hx r1 (fun s2 I2=>⟨_,H1,I2,q1⟩) hf
def Jc(i j:Nat)(ta:TA):TS:=fun D σ H=>ta σ H fun vs H1=>∃v w,vs=[v,w]∧D.nx ((σ.set i (some v)).set j (some w)) H1
theorem Jd{j:Nat}{x y:Str}{a b:Expr}{ta:TA}{px py pt:Pos}{kt k2 zw}(hc:X.calm=true)(hN:X.N.Nodup)(hi:X.N[i]?=some x)(hj:X.N[j]?=some y)(vZ:i≠j)
  (hx:X.env.scope.names.lookup x=some .local) (hy:X.env.scope.names.lookup y=some .local) (ha:PA X [a,b] ta)
  (hw:swappedStores [.Tuple [.Name x px,.Name y py] kt pt] (.Tuple [a,b] k2 zw) X.env=pure (some [x,y]))
  (hs:swapsWithSole [.Tuple [.Name x px,.Name y py] kt pt] (.Tuple [a,b] k2 zw) pos.line X.env=pure false:=by rfl) :
  PS X (.Assign [.Tuple [.Name x px,.Name y py] kt pt] (.Tuple [a,b] k2 zw) pos) (Jc i j ta):=by
 intro pins s σ H D I h
 rw [exec_Assign_arm]
 refine bL (tZ ?_)
 rw [hs]
 refine bL (dG ?_)
 rw [ah (by decide)]
 refine bL (Tuple_ (aE (ha _ pins s σ H _ I h) fun us s1 ⟨vs,H1,I1,r1,q1⟩=>?_))
 obtain ⟨v,w,e1,q1⟩:=q1
 subst e1
 obtain ⟨u1,u2,rfl,rv,m4⟩:∃u1 u2,us=[u1,u2]∧RelV v u1∧RelV w u2:=by
  cases r1 with
  | cons p q=>
   cases q with
   | cons p' q'=>
    cases q'
    exact ⟨_,_,rfl,p,p'⟩
 refine pY ?_ (by show 2≤sizeLine;decide)
 have I2:Inv X pins σ H1 {s1 with heap:=s1.heap.push {cls:=.type "tuple",data:=.seq [u1,u2].toArray}}:=I1.kept (t':=s1.toks) fun b o e=>bT _ e
 rw [hw]
 refine bL (dG ?_)
 show wpAny (model X.prog X.w) X.A (do rule "assign.swapped-stores";let items ←unpackItems (.ref s1.heap.objs.size) 2 none;assignInOrder [fun v=>bindName X.env y v,fun v=>bindName X.env x v] items.reverse;pure Flow.next) _ _ _
 refine bL (wpAny_rule (bL (unpackItems_tuple (items:=#[u1,u2]) (I.ok.hd hc) (IsTup.new s1.heap _) fun h' Je=>?_)))
 have I3:=I2.kept (h':=h') (t':=s1.toks) fun b o e=>Je b o (cP (bg e)) e
 show wpAny _ _ (assignInOrder [fun v=>bindName X.env y v,fun v=>bindName X.env x v] [u2,u1] >>= fun _=>pure Flow.next) _ _ _
 refine bL (assignInOrder_cons (wpAny_bindName (uw I3 hN hj (.inl hy) m4 (fun s2 I4=>?_) (.inr hy))))
 refine assignInOrder_cons (wpAny_bindName (uw I4 hN hi (.inl hx) rv (fun s3 I5=>assignInOrder_nil (dG ?_)) (.inr hx)))
 rw [List.set_comm _ _ (Ne.symm vZ)] at I5
 exact ⟨_,H1,I5,q1⟩
def Jf(i:Nat)(te:TE)(ti:vY):TS:=fun D σ H=>∃x,σ[i]?=some (some x)∧te σ H fun y H1=>ti x y H1 fun z H2=>D.nx (σ.set i (some z)) H2
theorem Jg{x:Str}{op:Operator}{ti:vY}(hN:X.N.Nodup)(hi:X.N[i]?=some x)(hx:Loc X.env.scope x)(he:PE X e te)(ho:C2 X op ti)(hf:X.fn x=true∨X.env.scope.names.lookup x=some .local:=by first | exact .inl rfl | exact .inr rfl | assumption) :
  PS X (.AugAssign (.Name x pos') op e pos) (Jf i te ti):=by
 intro pins s σ H D I h;obtain ⟨v,e1,h⟩:=h;obtain ⟨m,hn,hl⟩:=I.loc;have Jh:kB X.env.scope x:=by rcases hx with k | k;exact .inl k;exact .inr (.inl k)
 obtain ⟨u,r,l⟩:=hl i x v hi e1 Jh;refine wpAny_AugAssign_Name ?_;have go:wpAny (model X.prog X.w) X.A (eval e X.env) (fun w s₂=>wpAny (model X.prog X.w) X.A (inplaceOp op u w) (fun r s₃=>wpAny (model X.prog X.w) X.A (storeName X.env x r) (fun _=>SP X pins D .next) X.xe s₃) X.xe s₂) X.xe s:=by refine aE (he pins s σ H _ I h) fun w s1 ⟨y,H1,I1,r1,q1⟩=>?_;refine aE (ho pins s1 σ H1 v y u w _ I1 r r1 q1) fun z s2 ⟨zv,H2,I2,r2,q2⟩=>?_;exact uw I2 hN hi hx r2 (fun s3 I3=>⟨_,H2,I3,q2⟩) hf
 rcases l with ⟨hk,hm⟩ | ⟨hk,c,hc,vU⟩;·exact wpAny_loadName_local I.ok.kind hk hn hm go
 ·rcases hk with hk | hk
  ·exact wpAny_loadName_cell I.ok.kind hk hc vU go
  ·rcases hx with k | k
   ·have:X.env.scope.names.lookup x=some .free:=hk
    rw [k] at this;cases this
   ·have:X.env.scope.names.lookup x=some .free:=hk
    rw [k] at this;cases this
def Ji(f:Int→Int→Int):vY:=fun x y H Q=>∃i j,x=.int i∧y=.int j∧Q (.int (f i j)) H
theorem Jj:C2 X .Add (Ji fun i j=>i+j):=by intro pins s σ H x y v u Q I r1 r2 h;obtain ⟨i,j,e1,e2,q⟩:=h;subst e1;subst e2;obtain ⟨t,rfl⟩:=r1;obtain ⟨t',rfl⟩:=r2;exact iadd_int ⟨.int _,H,I.tok _,⟨_,rfl⟩,q⟩
end
section
variable {X:Cx} {pos:Pos}
def Jk(c:TT)(tb:TS):TS:=fun D σ H=>∃W:Nat→St→Hp→Prop,(∃m,W m σ H)∧∀m σ H,W m σ H→
 c σ H fun b H1=>if b=true then ∃N:St→Hp→Prop,(∀σ' H',N σ' H'→∃m',m'<m∧W m' σ' H')∧tb {D with nx:=N,ct:=N,bk:=D.nx} σ H1 else D.nx σ H1
theorem v8{c:Expr}{body:List Stmt}{tc:TT}{tb:TS}(hp:PassesOwn (model X.prog X.w) X.A X.env X.xe)(hc:PT X c tc)(hb:dJ X body tb):PS X (.While c body [] pos) (Jk tc tb):=by
 intro pins s σ H D I h;obtain ⟨W,⟨m0,w0⟩,turn⟩:=h;refine wpAny_While (codeAny_whileLoop (fun n s'=>∃σ' H',Inv X pins σ' H' s'∧W n σ' H') ?_ m0 ⟨σ,H,I,w0⟩);rintro n s1 ⟨σ1,H1,I1,w1⟩;refine mD hp (aE (hc pins s1 σ1 H1 _ I1 (turn n σ1 H1 w1)) fun b s2 ⟨H2,I2,q2⟩=>?_);cases b with
 | true=>
  obtain ⟨N,hN,q2⟩:=q2;rw [ao rfl];refine mD hp (aE (hb pins s2 σ1 H2 _ I2 q2) fun f s3 q3=>?_);cases f with
  | next=>obtain ⟨σ3,H3,I3,n3⟩:=q3;obtain ⟨m',hm,w3⟩:=hN σ3 H3 n3;exact ⟨m',hm,σ3,H3,I3,w3⟩
  | cont=>obtain ⟨σ3,H3,I3,n3⟩:=q3;obtain ⟨m',hm,w3⟩:=hN σ3 H3 n3;exact ⟨m',hm,σ3,H3,I3,w3⟩
  | brk=>exact q3
  | ret v=>exact q3
 | false=>rw [ah cU];exact vF ⟨σ1,H2,I2,q2⟩
end
structure It where
 go:Nat→Hp→Prop
 dX:Nat→Hp→V→Hp→Prop
 stop:Nat→Hp→Prop
def jd(X:Cx)(pins:aO)(H:Hp)(b:Addr):Prop:=
 H b=none∧b≠X.env.locals∧b∉X.fs∧(b∈X.ex∨X.s₀.heap.objs.size≤b)∧(∀x c,X.env.cells.lookup x=some c→c≠b)∧∀p∈X.pn++pins,p.1≠b
variable {σ:St}
theorem Inv.qg{pins:aO}{H':Hp}(I:Inv X pins σ H s)(hb:s.heap.objs.size≤b)(hn:H' b=none):jd X pins H' b:=by
 refine ⟨hn,Nat.ne_of_gt (dB I.lt hb),I.IG hb,.inr (aV I.sz hb),fun x c e z=>?_,fun p hp z=>?_⟩
 ·obtain ⟨v,q⟩:=I.cell x c e
  exact absurd (dB q.lt (by rw [z];exact hb)) (fe _)
 ·exact absurd (dB (bg (I.pin p hp).1) (by rw [z];exact hb)) (fe _)
structure Turn (P:Program) (w:World) (K:ay) (tg:Expr) (J:It) (fp:List Addr) (it:Addr) (tn:Nat→Heap→Prop):Prop where
 mem:it∈fp
 obj:∀i h,tn i h→∀b∈fp,∃o,h.get? b=some o∧∀v,o.data≠.cell v
 keep:∀i h h',tn i h→(∀b∈fp,∀o,h.get? b=some o→h'.get? b=some o)→tn i h'
 item:∀(X:Cx),X.prog=P→X.w=w→X.K=K→X.calm=true→∀(i:Nat) (pins:aO) (s:Shared) (σ:St) (H:Hp) (E:aI),Inv X pins σ H s→(∀b∈fp,jd X pins H b)→tn i s.heap→J.go i H→
  wpAny (model P w) X.A (pyNext (.ref it)) (fun r s1=>∃u,r=some u ∧
   wpAny (model P w) X.A (letOwnedTupleGo tg (.ref it) u) (fun _ s2=>∃x H',Inv X pins σ H' s2∧RelV x u∧J.dX i H x H'∧tn (i+1) s2.heap∧∀b∈fp,H' b=none) E s1) E s
 done:∀(X:Cx),X.prog=P→X.w=w→X.K=K→X.calm=true→∀(i:Nat) (pins:aO) (s:Shared) (σ:St) (H:Hp) (E:aI),Inv X pins σ H s→(∀b∈fp,jd X pins H b)→tn i s.heap→J.stop i H→
  wpAny (model P w) X.A (pyNext (.ref it)) (fun r s1=>r=none∧Inv X pins σ H s1) E s
 self:∀(A:Around) (i:Nat) (s:Shared) (Q:aI) (E:aI),tn i s.heap→Q (.ref it) s→wpAny (model P w) A (pyIter (.ref it)) Q E s
abbrev TI:=St→Hp→(It→Hp→Prop)→Prop
def zx(X:Cx)(pins:aO)(σ:St)(tg:Expr)(R:It→Hp→Prop)(m6:Value)(s2:Shared):Prop:=
 ∃(it:Addr) (fp:List Addr) (tn:Nat→Heap→Prop) (J:It) (H':Hp),m6=.ref it∧Inv X pins σ H' s2∧Turn X.prog X.w X.K tg J fp it tn∧tn 0 s2.heap∧(∀b∈fp,jd X pins H' b)∧R J H'
def PI(X:Cx)(tg iter:Expr)(wi:TI):Prop:=
 ∀(pins:aO) (s:Shared) (σ:St) (H:Hp) (R:It→Hp→Prop),Inv X pins σ H s→wi σ H R→
  wpAny (model X.prog X.w) X.A (eval iter X.env) (fun v s1=>wpAny (model X.prog X.w) X.A (pyIter v) (zx X pins σ tg R) X.xe s1) X.xe s
variable {tg:Expr}
theorem uB{it:Addr}{o:Obj}{n:String}{vs:Array Value}{Q:Unit→Shared→Prop}(ho:s.heap.get? it=some o)(hc:o.cls=.type n)(hd:o.data=.fields vs)
    (hn:["enumerate","zip","dict_itemiterator","dict_reverseitemiterator","odict_iterator","itertools.zip_longest","itertools.pairwise"].contains n=false) (hQ:Q () s):wpAny M A (letOwnedTupleGo tg (.ref it) u) Q E s:=by
  unfold letOwnedTupleGo
  cases tg <;> first
    | exact dG hQ
    | (cases u <;> first
        | exact dG hQ
        | (refine bL (wpAny_load ho ?_)
           rw [hc,hd];show wpAny M A (if (["enumerate","zip","dict_itemiterator","dict_reverseitemiterator","odict_iterator","itertools.zip_longest","itertools.pairwise"].contains n && vs[0]? == some (rawInt _))=true then _ else _) Q E s
           rw [ah (by intro h;rw [hn,Bool.false_and] at h;cases h)]
           exact dG hQ))
def qh(K:ay)(a:Addr):It:=
 ⟨fun i H=>∃xs x,bC K H a xs∧xs[i]?=some x,fun i H x H'=>H'=H∧∀xs,bC K H a xs→xs[i]?=some x,fun i H=>∃xs,bC K H a xs∧xs.length≤i⟩
def uC(K:ay)(a:Addr):It:=
 ⟨fun i H=>∃xs x,dW K H a xs∧xs[i]?=some x,fun i H x H'=>H'=H∧∀xs,dW K H a xs→xs[i]?=some x,fun i H=>∃xs,dW K H a xs∧xs.length≤i⟩
def jO(lo:Int)(n:Nat):It:=⟨fun i _=>i<n,fun i H x H'=>H'=H∧x=.int (lo+i),fun i _=>n≤i⟩
variable {K:ay}
theorem Jl(a it:Addr):Turn P w K tg (qh K a) [it] it (fun i h=>h.IsListIter it a i) where
 mem:=by simp
 obj:=fun i h st b hb=>by
  have e:b=it:=by simpa using hb
  subst e;obtain ⟨o,e,c,d⟩:=st;exact ⟨o,e,fun v z=>by rw [d] at z;cases z⟩
 keep:=fun i h h' st k=>st.at fun o e=>k it (by simp) o e
 item:=by
  intro X hP hw hK hc i pins s σ H E I hf st hg;subst hP hw hK;obtain ⟨xs,x,hq,hx⟩:=hg;obtain ⟨ag,rv,p,hz⟩:=I.list hq;obtain ⟨u,hu,ru⟩:=rv.get hx;obtain ⟨f0,f1,f2,f3,f4,f5⟩:=hf it (by simp)
  refine wpAny_pyNext_list_item st p.isList (x:=u) (by simpa using hu) fun h' gN sb=>?_
  have I1:Inv X pins σ H {s with heap:=h'}:=I.turned (t':=s.toks) (fun b o hb e=>(sb.2 b hb).trans e) f0 f1 f3 f4 f5;obtain ⟨o,e,c,d⟩:=id gN;exact ⟨u,rfl,uB (s:={s with heap:=h'}) e c d (by decide) ⟨x,H,I1,ru,⟨rfl,fun ys hy=>by rw [I.zm hy hq];exact hx⟩,gN,fun b hb=>(hf b hb).1⟩⟩
 done:=by
  intro X hP hw hK hc i pins s σ H E I hf st hg;subst hP hw hK;obtain ⟨xs,hq,hx⟩:=hg;obtain ⟨ag,rv,p,hz⟩:=I.list hq;obtain ⟨f0,f1,f2,f3,f4,f5⟩:=hf it (by simp)
  have hl:=rv.length;exact wpAny_pyNext_list_end (I.ok.hd hc) st p.isList (by simp;lia) fun h' eb=>⟨rfl,I.turned (t':=s.toks) (fun b o hb e=>eb b o hb e) f0 f1 f3 f4 f5⟩
 self:=fun _ _ _ _ _ st h=>wpAny_pyIter_listiter st h
theorem Jm(a it:Addr):Turn P w K tg (uC K a) [it] it (fun i h=>h.IsTupleIter it a i) where
 mem:=by simp
 obj:=fun i h st b hb=>by
  have e:b=it:=by simpa using hb
  subst e;obtain ⟨o,e,c,d⟩:=st;exact ⟨o,e,fun v z=>by rw [d] at z;cases z⟩
 keep:=fun i h h' st k=>st.at fun o e=>k it (by simp) o e
 item:=by
  intro X hP hw hK hc i pins s σ H E I hf st hg;subst hP hw hK;obtain ⟨xs,x,hq,hx⟩:=hg;obtain ⟨ag,rv,p,hz⟩:=I.tuple hq;obtain ⟨u,hu,ru⟩:=rv.get hx;obtain ⟨f0,f1,f2,f3,f4,f5⟩:=hf it (by simp)
  refine wpAny_pyNext_tuple_item st (show s.heap.IsTuple a ag.toArray from p) (x:=u) (by simpa using hu) fun h' gN sb=>?_
  have I1:Inv X pins σ H {s with heap:=h'}:=I.turned (t':=s.toks) (fun b o hb e=>(sb.2 b hb).trans e) f0 f1 f3 f4 f5;obtain ⟨o,e,c,d⟩:=id gN;exact ⟨u,rfl,uB (s:={s with heap:=h'}) e c d (by decide) ⟨x,H,I1,ru,⟨rfl,fun ys hy=>by rw [I.IW hy hq];exact hx⟩,gN,fun b hb=>(hf b hb).1⟩⟩
 done:=by
  intro X hP hw hK hc i pins s σ H E I hf st hg;subst hP hw hK;obtain ⟨xs,hq,hx⟩:=hg;obtain ⟨ag,rv,p,hz⟩:=I.tuple hq;obtain ⟨f0,f1,f2,f3,f4,f5⟩:=hf it (by simp)
  have hl:=rv.length;exact wpAny_pyNext_tuple_end (I.ok.hd hc) st (show s.heap.IsTuple a ag.toArray from p) (by simp;lia) fun h' eb=>⟨rfl,I.turned (t':=s.toks) (fun b o hb e=>eb b o hb e) f0 f1 f3 f4 f5⟩
 self:=fun _ _ _ _ _ st h=>wpAny_pyIter_tupleiter st h
theorem Jn(it:Addr)(lo:Int)(n:Nat):Turn P w K tg (jO lo n) [it] it (fun i h=>IsRangeIter h it (lo+(i:Nat)*1) ((n:Int)-(i:Nat)) 1) where
 mem:=by simp
 obj:=fun i h st b hb=>by
  have e:b=it:=by simpa using hb
  subst e;exact ⟨_,st,fun v z=>by have z':Data.fields _=Data.cell v:=z;cases z'⟩
 keep:=fun i h h' st k=>k it (by simp) _ st
 item:=by
  intro X hP hw hK hc i pins s σ H E I hf st hg;subst hP hw hK;obtain ⟨f0,f1,f2,f3,f4,f5⟩:=hf it (by simp)
  have W:=Walks.range (prog:=X.prog) (w:=X.w) (I.ok.hd hc) it lo 1 n;refine W.item i s _ _ hg st fun v h' tk hv gN kk=>?_;obtain ⟨t,rfl⟩:=hv;have I1:Inv X pins σ H {s with heap:=h',toks:=tk}:=I.turned (fun b o hb e=>kk b o (by simpa using hb) e) f0 f1 f3 f4 f5
  refine ⟨_,rfl,uB (s:={s with heap:=h',toks:=tk}) (n:="range_iterator") gN rfl rfl (by decide) ⟨.int (lo+i),H,I1,⟨t,?_⟩,⟨rfl,rfl⟩,gN,fun b hb=>(hf b hb).1⟩⟩
  rw [fh]
 done:=by
  intro X hP hw hK hc i pins s σ H E I hf st hg;subst hP hw hK;obtain ⟨f0,f1,f2,f3,f4,f5⟩:=hf it (by simp)
  exact wpAny_pyNext_range_end (I.ok.hd hc) st (by have:n≤i:=hg;lia) fun h' eb=>⟨rfl,I.turned (t':=s.toks) (fun b o hb e=>eb b o hb e) f0 f1 f3 f4 f5⟩
 self:=fun _ _ _ _ _ st h=>wpAny_pyIter_rangeiter st h
section
variable {X:Cx} {tg:Expr}
def C3(K:ay)(tl:TE):TI:=fun σ H R=>tl σ H fun x H1=>∃a,x=.ref a∧(∃xs,bC K H1 a xs)∧R (qh K a) H1
def Jo(K:ay)(tl:TE):TI:=fun σ H R=>tl σ H fun x H1=>∃a,x=.ref a∧(∃xs,dW K H1 a xs)∧R (uC K a) H1
variable {l:Expr} {tl:TE}
theorem gu(hl:PE X l tl):PI X tg l (C3 X.K tl):=by
 intro pins s σ H R I h;refine aE (hl pins s σ H _ I h) fun v s1 ⟨x,H1,I1,r1,q1⟩=>?_;obtain ⟨a,e,⟨xs,hq⟩,q⟩:=q1;subst e;cases r1;obtain ⟨ag,rv,p,hz⟩:=I1.list hq;refine vG p.isList ?_;refine ⟨s1.heap.objs.size,[s1.heap.objs.size],_,_,H1,rfl,I1.kept (t':=s1.toks) fun b o e=>bT _ e,Jl a _,⟨_,dS _ rfl,rfl,rfl⟩,fun b hb=>?_,q⟩;have e:b=s1.heap.objs.size:=by simpa using hb
 subst e;exact I1.qg (aD _) (I1.aw.fresh (aD _))
theorem Jp(hl:PE X l tl):PI X tg l (Jo X.K tl):=by
 intro pins s σ H R I h;refine aE (hl pins s σ H _ I h) fun v s1 ⟨x,H1,I1,r1,q1⟩=>?_;obtain ⟨a,e,⟨xs,hq⟩,q⟩:=q1;subst e;cases r1;obtain ⟨ag,rv,p,hz⟩:=I1.tuple hq;refine wpAny_pyIter_tuple (show s1.heap.IsTuple a ag.toArray from p) ?_;refine ⟨s1.heap.objs.size,[s1.heap.objs.size],_,_,H1,rfl,I1.kept (t':=s1.toks) fun b o e=>bT _ e,Jm a _,⟨_,dS _ rfl,rfl,rfl⟩,fun b hb=>?_,q⟩;have e:b=s1.heap.objs.size:=by simpa using hb
 subst e;exact I1.qg (aD _) (I1.aw.fresh (aD _))
variable {pins:aO}
theorem C4{R:It→Hp→Prop}{lo hi:Int}{t u v:Tok}{tk:Nat}(I:Inv X pins σ H s)(h1:-(2 ^ 62)≤lo)(h2:lo<2 ^ 62)(h3:-(2 ^ 62)≤hi)(h4:hi<2 ^ 62)
  (q:R (jO lo (hi-lo).toNat) H):wpAny (model X.prog X.w) X.A (pyIter (.ref s.heap.objs.size)) (zx X pins σ tg R) E {s with heap:=s.heap.push {cls:=.type "range",data:=.fields #[.int lo t,.int hi u,.int 1 v]},toks:=tk}:=by
 refine wpAny_pyIter_range (IsRange.new ..) (small_one h1 h2 h3 h4) ?_;have I1:Inv X pins σ H {s with heap:=s.heap.push {cls:=.type "range",data:=.fields #[.int lo t,.int hi u,.int 1 v]},toks:=tk}:=I.kept fun b o e=>bT _ e
 refine ⟨(s.heap.push {cls:=.type "range",data:=.fields #[.int lo t,.int hi u,.int 1 v]}).objs.size,[(s.heap.push {cls:=.type "range",data:=.fields #[.int lo t,.int hi u,.int 1 v]}).objs.size],_,_,H,rfl,
  I1.kept (t':=tk) fun b o e=>bT _ e,Jn _ lo (hi-lo).toNat,?_,fun b hb=>?_,q⟩
 ·have e1:lo+((0:Nat):Int)*1=lo:=by simp
  have e2:(((hi-lo).toNat:Nat):Int)-((0:Nat):Int)=Builtin.Range.rangeSize lo hi 1:=by rw [rangeSize_one];split <;> lia
  show IsRangeIter _ _ (lo+((0:Nat):Int)*1) ((((hi-lo).toNat:Nat):Int)-((0:Nat):Int)) 1;rw [e1,e2];exact dS _ rfl
 ·have e:b=(s.heap.push {cls:=.type "range",data:=.fields #[.int lo t,.int hi u,.int 1 v]}).objs.size:=by simpa using hb
  subst e;exact I1.qg (aD _) (I1.aw.fresh (aD _))
def Jq(ta:TA):TI:=fun σ H R=>ta σ H fun vs H1=>∃j:Int,vs=[.int j]∧-(2 ^ 62)≤j∧j<2 ^ 62∧R (jO 0 j.toNat) H1
def Jr(ta:TA):TI:=fun σ H R=>ta σ H fun vs H1=>∃i j:Int,vs=[.int i,.int j]∧(-(2 ^ 62)≤i∧i<2 ^ 62∧-(2 ^ 62)≤j∧j<2 ^ 62)∧R (jO i (j-i).toNat) H1
variable {ta:TA} {p pos:Pos}
theorem kJ{a:Expr}(hg:Gl X "range")(hm:X.mg "range"=none)(ha:PA X [a] ta)(hs:starEach [a] X.env=[(false,eval a X.env)]:=by rfl):PI X tg (.Call (.Name "range" p) [a] [] pos) (Jq ta):=by
 intro pins s σ H R I h;refine Call_ (mW I hg hm boot_range (t6 (aE (ha pos pins s σ H _ I h) fun us s1 ⟨vs,H1,I1,r1,q1⟩=>?_) hs rfl));obtain ⟨j,e,q1,q2,q⟩:=q1;subst e;cases r1 with
 | cons r rr=>cases rr;obtain ⟨t,rfl⟩:=r;exact call_range_1 (C4 I1 (by lia) (by lia) q1 q2 (by simpa using q))
theorem Js{a b:Expr}(hg:Gl X "range")(hm:X.mg "range"=none)(ha:PA X [a,b] ta)(hs:starEach [a,b] X.env=[(false,eval a X.env),(false,eval b X.env)]:=by rfl)(m7:starEach [b] X.env=[(false,eval b X.env)]:=by rfl) :
  PI X tg (.Call (.Name "range" p) [a,b] [] pos) (Jr ta):=by
 intro pins s σ H R I h;refine Call_ (mW I hg hm boot_range (t6 (aE (ha pos pins s σ H _ I h) fun us s1 ⟨vs,H1,I1,r1,q1⟩=>?_) (by rw [hs,m7]) (by rw [m7];rfl)))
 obtain ⟨i,j,e,⟨q1,q2,q3,q4⟩,q⟩:=q1;subst e;cases r1 with
 | cons r rr=>
  cases rr with
  | cons r' rr=>cases rr;obtain ⟨t,rfl⟩:=r;obtain ⟨t',rfl⟩:=r';exact call_range_2 (C4 I1 q1 q2 q3 q4 q)
def Jt(wi:TI)(g:TG)(tb:TS):TS:=fun D σ H=>wi σ H fun J H1=>∃W:Nat→Nat→St→Hp→Prop,(∃m,W 0 m σ H1)∧∀i m σ H,W i m σ H→
 (J.stop i H∧D.nx σ H)∨(J.go i H∧∃N:St→Hp→Prop,(∀σ' H',N σ' H'→∃m',m'<m∧W (i+1) m' σ' H')∧∀x H',J.dX i H x H'→g x σ H' fun σ2 H2=>tb {D with nx:=N,ct:=N,bk:=D.nx} σ2 H2)
def gO(fp:List Addr)(h:Heap):List (Addr×Obj):=fp.filterMap fun b=>(h.get? b).map fun o=>(b,o)
variable {fp:List Addr}
theorem iQ{o:Obj}(hb:b∈fp)(e:h.get? b=some o):(b,o)∈gO fp h:=List.mem_filterMap.mpr ⟨b,hb,by rw [e];rfl⟩
theorem Ju{p:Addr×Obj}(hp:p∈gO fp h):p.1∈fp∧h.get? p.1=some p.2:=by
 obtain ⟨b,hb,e⟩:=List.mem_filterMap.mp hp;cases q:h.get? b with
 | none=>rw [q] at e;cases e
 | some o=>rw [q] at e;have e':(b,o)=p:=Option.some.inj e;subst e';exact ⟨hb,q⟩
theorem Inv.pinned(I:Inv X pins σ H s)(hf:∀b∈fp,jd X pins H b)(ho:∀b∈fp,∃o,s.heap.get? b=some o∧∀v,o.data≠.cell v):Inv X (pins++gO fp s.heap) σ H s:=
 I.CM fun p hp=>(km.mp hp).elim (fun z=>I.pin p (cV _ z)) fun z=>by obtain ⟨hb,e⟩:=Ju z;obtain ⟨f0,f1,f2,_⟩:=hf p.1 hb;obtain ⟨o,e',d⟩:=ho p.1 hb;rw [e] at e';cases e';exact ⟨e,f0,f1,f2,d⟩
theorem Inv.lT{pl:aO}(I:Inv X (pins++pl) σ H s):Inv X pins σ H s:=I.CM fun p hp=>I.pin p (cV _ (List.mem_append_left _ hp))
theorem fo{iter:Expr}{body:List Stmt}{wi:TI}{g:TG}{tb:TS}(hp:PassesOwn (model X.prog X.w) X.A X.env X.xe)(hc:X.calm=true)(hi:PI X tg iter wi)(hg:PG X tg g)(hb:dJ X body tb)
  (hs:∀x,foldedSetIterable iter X.env x=pure x:=by intro _;rfl):PS X (.For tg iter body [] pos) (Jt wi g tb):=by
 intro pins s σ H D I h;refine wpAny_For (aE (hi pins s σ H _ I h) fun v s1 h1=>aE h1 fun m6 s2 h2=>?_) hs;obtain ⟨it,fp,tn,J,H2,e,I2,T,df,f2,W,⟨m0,w0⟩,turn⟩:=h2;subst e;have dM:∀{H':Hp},(∀b∈fp,H' b=none)→∀b∈fp,jd X pins H' b:=fun hn b hb=>⟨hn b hb,(f2 b hb).2⟩;refine codeAny_forLoop_any (fun n s'=>∃i σ' H',Inv X pins σ' H' s'∧tn i s'.heap∧(∀b∈fp,H' b=none)∧W i n σ' H') ?_ m0 ⟨0,σ,H2,I2,df,fun b hb=>(f2 b hb).1,w0⟩;rintro n s3 ⟨i,σ3,H3,I3,C5,C6,w3⟩;rcases turn i n σ3 H3 w3 with ⟨stop,qn⟩ | ⟨go,N,hN,step⟩
 ·refine mD hp (aE (T.done X rfl rfl rfl hc i pins s3 σ3 H3 X.xe I3 (dM C6) C5 stop) fun r s4 ⟨hr,I4⟩=>?_)
  subst hr;exact vF ⟨σ3,H3,I4,qn⟩
 ·refine mD hp (aE (T.item X rfl rfl rfl hc i pins s3 σ3 H3 X.xe I3 (dM C6) C5 go) fun r s4 ⟨u,hr,h4⟩=>?_)
  subst hr;refine mD hp (aE h4 fun _ s5 ⟨x,H5,I5,r5,y5,dN,je⟩=>?_);have jf:=I5.pinned (dM je) (T.obj _ _ dN);refine mD hp (aE (hg _ s5 σ3 H5 x u _ jf r5 (step x H5 y5)) fun _ s6 ⟨σ6,H6,I6,q6⟩=>?_);refine mD hp (aE (hb _ s6 σ6 H6 _ I6 q6) fun f s7 q7=>?_);have again:∀{σ7:St} {H7:Hp},Inv X (pins++gO fp s5.heap) σ7 H7 s7→N σ7 H7→∃m,m<n∧∃i σ' H',Inv X pins σ' H' s7∧tn i s7.heap∧(∀b∈fp,H' b=none)∧W i m σ' H':=fun{σ7 H7} I7 n7=>by obtain ⟨m',hm,w7⟩:=hN σ7 H7 n7;refine ⟨m',hm,i+1,σ7,H7,I7.lT,T.keep _ _ _ dN fun b hb o e=>(I7.pin (b,o) (cV _ (cV _ (iQ hb e)))).1,fun b hb=>?_,w7⟩;obtain ⟨o,e,d⟩:=T.obj _ _ dN b hb;exact (I7.pin (b,o) (cV _ (cV _ (iQ hb e)))).2.1
  cases f with
  | next=>obtain ⟨σ7,H7,I7,n7⟩:=q7;exact again I7 n7
  | cont=>obtain ⟨σ7,H7,I7,n7⟩:=q7;exact again I7 n7
  | brk=>obtain ⟨σ7,H7,I7,q7⟩:=q7;exact ⟨σ7,H7,I7.lT,q7⟩
  | ret v=>obtain ⟨x7,σ7,H7,I7,r7,q7⟩:=q7;exact ⟨x7,σ7,H7,I7.lT,r7,q7⟩
end
variable {g:TG} {tb:TS} {D:Ends}
theorem lU(Pv:Nat→St→Hp→Prop)(h0:Pv 0 σ H)(hl:∀i σ H,i≤xs.length→Pv i σ H→bC K H a xs)
  (hs:∀i x σ H,xs[i]?=some x→Pv i σ H→g x σ H fun σ2 H2=>tb {D with nx:=Pv (i+1),ct:=Pv (i+1),bk:=D.nx} σ2 H2) (hd:∀σ H,Pv xs.length σ H→D.nx σ H) :
  ∃W:Nat→Nat→St→Hp→Prop,(∃m,W 0 m σ H)∧∀i m σ H,W i m σ H→
   ((qh K a).stop i H∧D.nx σ H)∨((qh K a).go i H∧∃N:St→Hp→Prop,(∀σ' H',N σ' H'→∃m',m'<m∧W (i+1) m' σ' H')∧∀x H',(qh K a).dX i H x H'→g x σ H' fun σ2 H2=>tb {D with nx:=N,ct:=N,bk:=D.nx} σ2 H2):=by
 refine ⟨fun i m σ H=>m=xs.length-i∧i≤xs.length∧Pv i σ H,⟨xs.length,by simp,cu _,h0⟩,?_⟩
 rintro i m σ H ⟨rfl,hi,p⟩;have q:=hl i σ H hi p;by_cases bO:i<xs.length
 ·refine .inr ⟨⟨xs,xs[i],q,by simp [bO]⟩,Pv (i+1),fun σ' H' p'=>⟨xs.length-(i+1),by lia,rfl,bO,p'⟩,fun x H' y=>?_⟩
  obtain ⟨e,y⟩:=y;subst e;exact hs i x σ _ (y xs q) p
 ·have e:i=xs.length:=by lia
  subst e;exact .inl ⟨⟨xs,q,aD _⟩,hd σ H p⟩
theorem Jv(Pv:Nat→St→Hp→Prop)(h0:Pv 0 σ H)(hl:∀i σ H,i≤xs.length→Pv i σ H→dW K H a xs)
  (hs:∀i x σ H,xs[i]?=some x→Pv i σ H→g x σ H fun σ2 H2=>tb {D with nx:=Pv (i+1),ct:=Pv (i+1),bk:=D.nx} σ2 H2) (hd:∀σ H,Pv xs.length σ H→D.nx σ H) :
  ∃W:Nat→Nat→St→Hp→Prop,(∃m,W 0 m σ H)∧∀i m σ H,W i m σ H→
   ((uC K a).stop i H∧D.nx σ H)∨((uC K a).go i H∧∃N:St→Hp→Prop,(∀σ' H',N σ' H'→∃m',m'<m∧W (i+1) m' σ' H')∧∀x H',(uC K a).dX i H x H'→g x σ H' fun σ2 H2=>tb {D with nx:=N,ct:=N,bk:=D.nx} σ2 H2):=by
 refine ⟨fun i m σ H=>m=xs.length-i∧i≤xs.length∧Pv i σ H,⟨xs.length,by simp,cu _,h0⟩,?_⟩
 rintro i m σ H ⟨rfl,hi,p⟩;have q:=hl i σ H hi p;by_cases bO:i<xs.length
 ·refine .inr ⟨⟨xs,xs[i],q,by simp [bO]⟩,Pv (i+1),fun σ' H' p'=>⟨xs.length-(i+1),by lia,rfl,bO,p'⟩,fun x H' y=>?_⟩
  obtain ⟨e,y⟩:=y;subst e;exact hs i x σ _ (y xs q) p
 ·have e:i=xs.length:=by lia
  subst e;exact .inl ⟨⟨xs,q,aD _⟩,hd σ H p⟩
variable {n:Nat}
theorem qi{lo:Int}(Pv:Nat→St→Hp→Prop)(h0:Pv 0 σ H)
  (hs:∀i σ H,i<n→Pv i σ H→g (.int (lo+i)) σ H fun σ2 H2=>tb {D with nx:=Pv (i+1),ct:=Pv (i+1),bk:=D.nx} σ2 H2) (hd:∀σ H,Pv n σ H→D.nx σ H) :
  ∃W:Nat→Nat→St→Hp→Prop,(∃m,W 0 m σ H)∧∀i m σ H,W i m σ H→
   ((jO lo n).stop i H∧D.nx σ H)∨((jO lo n).go i H∧∃N:St→Hp→Prop,(∀σ' H',N σ' H'→∃m',m'<m∧W (i+1) m' σ' H')∧∀x H',(jO lo n).dX i H x H'→g x σ H' fun σ2 H2=>tb {D with nx:=N,ct:=N,bk:=D.nx} σ2 H2):=by
 refine ⟨fun i m σ H=>m=n-i∧i≤n∧Pv i σ H,⟨n,by simp,cu _,h0⟩,?_⟩
 rintro i m σ H ⟨rfl,hi,p⟩;by_cases bO:i<n
 ·refine .inr ⟨bO,Pv (i+1),fun σ' H' p'=>⟨n-(i+1),by lia,rfl,bO,p'⟩,fun x H' y=>?_⟩
  obtain ⟨e,y⟩:=y;subst e y;exact hs i σ _ bO p
 ·have e:i=n:=by lia
  subst e;exact .inl ⟨aD _,hd σ H p⟩
abbrev R2:=V→V→Hp→VK→Prop
def cg(X:Cx)(f:Value→Value→Sem Value)(r:R2):Prop:=
 ∀(pins:aO) (s:Shared) (σ:St) (H:Hp) (x y:V) (v u:Value) (Q:VK),Inv X pins σ H s→RelV x v→RelV y u→r x y H Q→
  wpAny (model X.prog X.w) X.A (f v u) (EP X pins σ Q) X.xe s
def zy(X:Cx)(f:Value→Sem Value)(r:V→Hp→VK→Prop):Prop:=
 ∀(pins:aO) (s:Shared) (σ:St) (H:Hp) (x:V) (v:Value) (Q:VK),Inv X pins σ H s→RelV x v→r x H Q→
  wpAny (model X.prog X.w) X.A (f v) (EP X pins σ Q) X.xe s
def gv(X:Cx)(f:Value)(r:List V→Hp→VK→Prop):Prop:=
 ∀(pins:aO) (s:Shared) (σ:St) (H:Hp) (xs:List V) (us:List Value) (Q:VK),Inv X pins σ H s→Vals xs us→r xs H Q→
  wpAny (model X.prog X.w) X.A (call f us) (EP X pins σ Q) X.xe s
def m8(r:R2)(ta tb:TE):TE:=fun σ H Q=>ta σ H fun x H1=>tb σ H1 fun y H2=>r x y H2 Q
def Jw(r:V→Hp→VK→Prop)(ta:TE):TE:=fun σ H Q=>ta σ H fun x H1=>r x H1 Q
def rI(C:Int→Int→Prop)(g:Int→Int→V):R2:=fun x y H Q=>∃i j,x=.int i∧y=.int j∧C i j∧Q (g i j) H
def lV(g:Int→Int→V):R2:=fun x y H Q=>∃i j,x=.int i∧y=.int j∧Q (g i j) H
def rU(g:Int→V):V→Hp→VK→Prop:=fun x H Q=>∃i,x=.int i∧Q (g i) H
section
variable {X:Cx} {a b c:Expr} {ta tb tc:TE} {pos:Pos}
variable {f:Value→Value→Sem Value}
theorem zA(ha:PE X a ta)(hb:PE X b tb){pins:aO}{R:V→V→Hp→Prop}(I:Inv X pins σ H s)
  (h:ta σ H fun x H1=>tb σ H1 fun y H2=>R x y H2) {Q:aI}
  (hf:∀v u s2 x y H2,Inv X pins σ H2 s2→RelV x v→RelV y u→R x y H2→wpAny (model X.prog X.w) X.A (f v u) Q X.xe s2) :
  wpAny (model X.prog X.w) X.A (eval a X.env) (fun v s₁=>wpAny (model X.prog X.w) X.A (eval b X.env) (fun u s₂=>wpAny (model X.prog X.w) X.A (f v u) Q X.xe s₂) X.xe s₁) X.xe s:=by
 refine aE (ha pins s σ H _ I h) fun v s1 ⟨x,H1,I1,r1,q1⟩=>?_;refine aE (hb pins s1 σ H1 _ I1 q1) fun u s2 ⟨y,H2,I2,r2,q2⟩=>?_;exact hf v u s2 x y H2 I2 r1 r2 q2
theorem aM{op:Operator}{r:R2}(ho:cg X (binaryOp op) r)(ha:PE X a ta)(hb:PE X b tb):PE X (.BinOp a op b pos) (m8 r ta tb):=by intro pins s σ H Q I h;exact wpAny_BinOp (zA ha hb I h fun v u s2 x y H2 I2 rx ry q=>ho pins s2 σ H2 x y v u Q I2 rx ry q)
theorem v9{op:UnaryOp}{r:V→Hp→VK→Prop}(ho:zy X (unaryOp op) r)(ha:PE X a ta):PE X (.UnaryOp op a pos) (Jw r ta):=by intro pins s σ H Q I h;exact UnaryOp_ (aE (ha pins s σ H _ I h) fun v s1 ⟨x,H1,I1,r1,q1⟩=>ho pins s1 σ H1 x v Q I1 r1 q1)
theorem m9{C:Int→Int→Prop}{g:Int→Int→Int}
  (rule:∀(i j:Int) (t u:Tok) (s:Shared) (Q:aI) (E:aI),C i j→Q (.int (g i j) s.toks) {s with toks:=s.toks+1}→wpAny (model X.prog X.w) X.A (f (.int i t) (.int j u)) Q E s) :
  cg X f (rI C fun i j=>.int (g i j)):=by
 intro pins s σ H x y v u Q I rx ry h;obtain ⟨i,j,rfl,rfl,hc,q⟩:=h;obtain ⟨t,rfl⟩:=rx;obtain ⟨t',rfl⟩:=ry;exact rule i j t t' s _ _ hc ⟨.int (g i j),H,I.tok _,⟨_,rfl⟩,q⟩
theorem C7{g:Int→Int→Int}
  (rule:∀(i j:Int) (t u:Tok) (s:Shared) (Q:aI) (E:aI),Q (.int (g i j) s.toks) {s with toks:=s.toks+1}→wpAny (model X.prog X.w) X.A (f (.int i t) (.int j u)) Q E s) :
  cg X f (lV fun i j=>.int (g i j)):=by
 intro pins s σ H x y v u Q I rx ry h;obtain ⟨i,j,rfl,rfl,q⟩:=h;obtain ⟨t,rfl⟩:=rx;obtain ⟨t',rfl⟩:=ry;exact rule i j t t' s _ _ ⟨.int (g i j),H,I.tok _,⟨_,rfl⟩,q⟩
theorem v_{g:Int→Int→Bool}
  (rule:∀(i j:Int) (t u:Tok) (s:Shared) (Q:aI) (E:aI),Q (.bool (g i j)) s→wpAny (model X.prog X.w) X.A (f (.int i t) (.int j u)) Q E s) :
  cg X f (lV fun i j=>.bl (g i j)):=by
 intro pins s σ H x y v u Q I rx ry h;obtain ⟨i,j,rfl,rfl,q⟩:=h;obtain ⟨t,rfl⟩:=rx;obtain ⟨t',rfl⟩:=ry;exact rule i j t t' s _ _ ⟨.bl (g i j),H,I,rfl,q⟩
def Jx(i j:Int):Prop:=0<j∧j<1073741824
def Jy(i j:Int):Prop:=0≤j∧j≤1000000∧i.natAbs<2 ^ 64
def zB(i j:Int):Prop:=(-(2 ^ 64)<i∧i<2 ^ 64)∨(-(2 ^ 64)<j∧j<2 ^ 64)
theorem zB.ok{i j:Int}(h:zB i j):IntMulOk i j:=by
 rcases h with ⟨h1,h2⟩ | ⟨h1,h2⟩;·exact .of_left (intBits_le_64 h1 h2)
 ·exact .of_right (intBits_le_64 h1 h2)
theorem fU:cg X (binaryOp .Add) (lV fun i j=>.int (i+j)):=C7 fun _ _ _ _ _ _ _ q=>add_int q
theorem qj:cg X (binaryOp .Sub) (lV fun i j=>.int (i-j)):=C7 fun _ _ _ _ _ _ _ q=>sub_int q
theorem fV:cg X (binaryOp .Mult) (rI zB fun i j=>.int (i*j)):=m9 fun _ _ _ _ _ _ _ hc q=>mul_int q hc.ok
theorem Jz:cg X (binaryOp .FloorDiv) (rI Jx fun i j=>.int (i / j)):=m9 fun i j _ _ _ _ _ hc q=>by have h1:(0:Int)<j:=hc.1;have h2:j<1073741824:=hc.2;exact floordiv_int (by lia) (by rw [Int.fdiv_eq_ediv_of_nonneg i (by lia)];exact q) (.inl (PyProof.noPylong_small (by lia)))
theorem fW:cg X (binaryOp .Mod) (rI (fun _ j=>0<j) fun i j=>.int (i % j)):=m9 fun i j _ _ _ _ _ hc q=>by have h1:(0:Int)<j:=hc;exact mod_int' (by lia) (by rw [Int.fmod_eq_emod_of_nonneg i (by lia)];exact q)
theorem JA:cg X (binaryOp .Pow) (rI Jy fun i j=>.int (i ^ j.toNat)):=m9 fun _ _ _ _ _ _ _ hc q=>pow_int_small hc.1 hc.2.1 hc.2.2 q
theorem JB{f:Value→Sem Value}{g:Int→Int}
  (rule:∀(i:Int) (t:Tok) (s:Shared) (Q:aI) (E:aI),Q (.int (g i) s.toks) {s with toks:=s.toks+1}→wpAny (model X.prog X.w) X.A (f (.int i t)) Q E s) :
  zy X f (rU fun i=>.int (g i)):=by
 intro pins s σ H x v Q I rx h;obtain ⟨i,rfl,q⟩:=h;obtain ⟨t,rfl⟩:=rx;exact rule i t s _ _ ⟨.int (g i),H,I.tok _,⟨_,rfl⟩,q⟩
theorem wa:zy X (unaryOp .USub) (rU fun i=>.int (-i)):=JB fun _ _ _ _ _ q=>neg_int q
end
def zC:V→V→Bool
 | .aH,.aH=>true | .aH,.int _=>true | .int _,.aH=>true | .aH,.bl _=>true | .bl _,.aH=>true | .aH,.str _=>true | .str _,.aH=>true
 | .int _,.int _=>true | .bl _,.bl _=>true | .str _,.str _=>true | .iO _,.iO _=>true
 | .int _,.str _=>true | .str _,.int _=>true | .bl _,.str _=>true | .str _,.bl _=>true
 | _,_=>false
def C8:R2:=fun x y H Q=>zC x y=true∧Q (.bl (decide (x=y))) H
def C9:R2:=fun x y H Q=>zC x y=true∧Q (.bl (!decide (x=y))) H
theorem C_{i j:Int}:decide (V.int i=V.int j)=(i == j):=by rw [mE];simp
theorem Dc{i j:Bool}:decide (V.bl i=V.bl j)=(i == j):=by rw [mE];simp
theorem Dd{i j:Str}:decide (V.str i=V.str j)=(i == j):=by rw [mE];simp
theorem De{i j:Array UInt8}:decide (V.iO i=V.iO j)=(i.toList == j.toList):=by rw [mE];cases i;cases j;simp
section
variable {X:Cx} {a b c:Expr} {ta tb tc:TE} {pos:Pos}
theorem cB{pins:aO}{Q:VK}{k k':Bool}(I:Inv X pins σ H s)(q:Q (.bl k) H)(e:k=k'):EP X pins σ Q (.bool k') s:=by subst e;exact ⟨.bl k,H,I,rfl,q⟩
theorem hX:cg X (compareOp .Eq) C8:=by
 intro pins s σ H x y v u Q I rx ry h;obtain ⟨hs,q⟩:=h;cases x with
 | aH=>
  cases rx;cases y with
  | aH=>cases ry;exact PySem.EqNone.eq_none_none (cB I q (by simp))
  | bl j=>cases ry;exact PySem.EqNone.eq_none_bool (cB I q (by simp))
  | int j=>obtain ⟨t',rfl⟩:=ry;exact PySem.EqNone.eq_none_int (cB I q (by simp))
  | str j=>obtain ⟨t',rfl⟩:=ry;exact PySem.EqNone.eq_none_str (cB I q (by simp))
  | _=>exact absurd (show false=true from hs) cU
 | bl i=>
  cases rx;cases y with
  | aH=>cases ry;exact PySem.EqNone.eq_bool_none (cB I q (by simp))
  | bl j=>cases ry;exact eq_bool (cB I q Dc)
  | str j=>obtain ⟨t',rfl⟩:=ry;exact PySem.EqMixed.eq_bool_str (cB I q (by simp))
  | _=>exact absurd (show false=true from hs) cU
 | int i=>
  obtain ⟨t,rfl⟩:=rx;cases y with
  | aH=>cases ry;exact PySem.EqNone.eq_int_none (cB I q (by simp))
  | int j=>obtain ⟨t',rfl⟩:=ry;exact eq_int (cB I q C_)
  | str j=>obtain ⟨t',rfl⟩:=ry;exact PySem.EqMixed.eq_int_str (cB I q (by simp))
  | _=>exact absurd (show false=true from hs) cU
 | str i=>
  obtain ⟨t,rfl⟩:=rx;cases y with
  | aH=>cases ry;exact PySem.EqNone.eq_str_none (cB I q (by simp))
  | bl j=>cases ry;exact PySem.EqMixed.eq_str_bool (cB I q (by simp))
  | int j=>obtain ⟨t',rfl⟩:=ry;exact PySem.EqMixed.eq_str_int (cB I q (by simp))
  | str j=>obtain ⟨t',rfl⟩:=ry;exact eq_str (cB I q Dd)
  | _=>exact absurd (show false=true from hs) cU
 | iO i=>
  obtain ⟨t,rfl⟩:=rx;cases y with
  | iO j=>obtain ⟨t',rfl⟩:=ry;exact PySem.W.eq_bytes (cB I q De)
  | _=>exact absurd (show false=true from hs) cU
 | _=>cases y <;> exact absurd (show false=true from hs) cU
theorem kK:cg X (compareOp .NotEq) C9:=by
 intro pins s σ H x y v u Q I rx ry h;obtain ⟨hs,q⟩:=h;cases x with
 | aH=>
  cases rx;cases y with
  | aH=>cases ry;exact PySem.EqNone.ne_none_none (cB I q (by simp))
  | bl j=>cases ry;exact PySem.EqNone.ne_none_bool (cB I q (by simp))
  | int j=>obtain ⟨t',rfl⟩:=ry;exact PySem.EqNone.ne_none_int (cB I q (by simp))
  | str j=>obtain ⟨t',rfl⟩:=ry;exact PySem.EqNone.ne_none_str (cB I q (by simp))
  | _=>exact absurd (show false=true from hs) cU
 | bl i=>
  cases rx;cases y with
  | aH=>cases ry;exact PySem.EqNone.ne_bool_none (cB I q (by simp))
  | bl j=>cases ry;exact ne_bool (cB I q (gh not Dc))
  | str j=>obtain ⟨t',rfl⟩:=ry;exact PySem.EqMixed.ne_bool_str (cB I q (by simp))
  | _=>exact absurd (show false=true from hs) cU
 | int i=>
  obtain ⟨t,rfl⟩:=rx;cases y with
  | aH=>cases ry;exact PySem.EqNone.ne_int_none (cB I q (by simp))
  | int j=>obtain ⟨t',rfl⟩:=ry;exact ne_int (cB I q (gh not C_))
  | str j=>obtain ⟨t',rfl⟩:=ry;exact PySem.EqMixed.ne_int_str (cB I q (by simp))
  | _=>exact absurd (show false=true from hs) cU
 | str i=>
  obtain ⟨t,rfl⟩:=rx;cases y with
  | aH=>cases ry;exact PySem.EqNone.ne_str_none (cB I q (by simp))
  | bl j=>cases ry;exact PySem.EqMixed.ne_str_bool (cB I q (by simp))
  | int j=>obtain ⟨t',rfl⟩:=ry;exact PySem.EqMixed.ne_str_int (cB I q (by simp))
  | str j=>obtain ⟨t',rfl⟩:=ry;exact ne_str (cB I q (gh not Dd))
  | _=>exact absurd (show false=true from hs) cU
 | iO i=>
  obtain ⟨t,rfl⟩:=rx;cases y with
  | iO j=>obtain ⟨t',rfl⟩:=ry;exact PySem.W.ne_bytes (cB I q (gh not De))
  | _=>exact absurd (show false=true from hs) cU
 | _=>cases y <;> exact absurd (show false=true from hs) cU
theorem qk:cg X (compareOp .Lt) (lV fun i j=>.bl (decide (i<j))):=v_ fun _ _ _ _ _ _ _ q=>lt_int q
theorem zD:cg X (compareOp .LtE) (lV fun i j=>.bl (decide (i≤j))):=v_ fun _ _ _ _ _ _ _ q=>le_int q
theorem uD:cg X (compareOp .Gt) (lV fun i j=>.bl (decide (j<i))):=v_ fun _ _ _ _ _ _ _ q=>gt_int q
theorem Df:cg X (compareOp .GtE) (lV fun i j=>.bl (decide (j≤i))):=v_ fun _ _ _ _ _ _ _ q=>ge_int q
theorem wb:cg X (compareOp .Is) (fun x y H Q=>y=.aH∧Q (.bl (decide (x=.aH))) H):=by
 intro pins s σ H x y v u Q I rx ry h;obtain ⟨rfl,q⟩:=h;cases ry;refine is_none_gen (cB I q ?_)
 cases x <;> first
  | (cases rx;rfl)
  | (obtain ⟨t,rfl⟩:=rx;rfl)
theorem Dg:cg X (compareOp .IsNot) (fun x y H Q=>y=.aH∧Q (.bl (!decide (x=.aH))) H):=by
 intro pins s σ H x y v u Q I rx ry h;obtain ⟨rfl,q⟩:=h;cases ry;refine isnot_none_gen (cB I q ?_)
 cases x <;> first
  | (cases rx;rfl)
  | (obtain ⟨t,rfl⟩:=rx;rfl)
variable {op:CmpOp}
theorem Dh(b:Expr)(h:op≠.In:=by decide)(h2:op≠.NotIn:=by decide):behindInMarks op b=false:=by
 have e1:(op == CmpOp.In)=false:=by cases op <;> first | rfl | exact absurd rfl h
 have e2:(op == CmpOp.NotIn)=false:=by cases op <;> first | rfl | exact absurd rfl h2
 cases b <;> simp [behindInMarks,e1,e2]
theorem JD{r:R2}(ho:cg X (compareOp op) r)(ha:PE X a ta)(hb:PE X b tb)(hm:behindInMarks op b=false):PE X (.Compare a [op] [b] pos) (m8 r ta tb):=by intro pins s σ H Q I h;exact wpAny_Compare1 (zA ha hb I h fun v u s2 x y H2 I2 rx ry q=>ho pins s2 σ H2 x y v u Q I2 rx ry q) hm
theorem ql{r:R2}(ho:cg X (compareOp op) r)(ha:PE X a ta)(hb:PE X b tb)(hm:behindInMarks op b=false:=by exact Dh _):PE X (.Compare a [op] [b] pos) (m8 r ta tb):=JD ho ha hb hm
def Di(t:TE):TT:=fun σ H Q=>t σ H fun x H'=>∃k,x=.bl k∧Q k H'
theorem JE{r:R2}(ho:cg X (compareOp op) r)(ha:PE X a ta)(hb:PE X b tb)(hm:behindInMarks op b=false):PT X (.Compare a [op] [b] pos) (Di (m8 r ta tb)):=by intro pins s σ H Q I h;refine wpAny_isTrue_Compare1 (aE (ha pins s σ H _ I h) fun v s1 ⟨x,H1,I1,r1,q1⟩=>aE (hb pins s1 σ H1 _ I1 q1) fun u s2 ⟨y,H2,I2,r2,q2⟩=>aE (ho pins s2 σ H2 x y v u _ I2 r1 r2 q2) fun c s3 ⟨z,H3,I3,r3,k,e,q3⟩=>?_) hm;subst e;cases r3;exact lJ ⟨H3,I3,q3⟩
theorem bM{r:R2}(ho:cg X (compareOp op) r)(ha:PE X a ta)(hb:PE X b tb)(hm:behindInMarks op b=false:=by exact Dh _):PT X (.Compare a [op] [b] pos) (Di (m8 r ta tb)):=JE ho ha hb hm
def JF(r r':R2)(ta tb tc:TE):TE:=fun σ H Q=>ta σ H fun x H1=>tb σ H1 fun y H2=>r x y H2 fun z H3=>∃k,z=.bl k ∧
 (if k=true then tc σ H3 fun w' H4=>r' y w' H4 Q else Q (.bl false) H3)
theorem JG{zF:CmpOp}{r r':R2}(ho:cg X (compareOp op) r)(jK:cg X (compareOp zF) r')(ha:PE X a ta)(hb:PE X b tb)(hc:PE X c tc)
  (hm:lastMarks [op,zF] [b,c]=false:=by with_unfolding_all rfl):PE X (.Compare a [op,zF] [b,c] pos) (JF r r' ta tb tc):=by
 intro pins s σ H Q I h;refine Compare_chain (aE (ha pins s σ H _ I h) fun v s1 ⟨x,H1,I1,r1,q1⟩=>chain_link (aE (hb pins s1 σ H1 _ I1 q1) fun u s2 ⟨y,H2,I2,r2,q2⟩=>aE (ho pins s2 σ H2 x y v u _ I2 r1 r2 q2) fun d s3 ⟨z,H3,I3,r3,k,e,q3⟩=>?_)) hm;subst e;cases r3;refine lJ ?_;cases k with
 | false=>exact ite_ff ⟨.bl false,H3,I3,rfl,q3⟩
 | true=>exact ite_tt (chain_last (aE (hc pins s3 σ H3 _ I3 q3) fun w' s4 ⟨z',H4,I4,r4,q4⟩=>jK pins s4 σ H4 y z' u w' Q I4 r2 r4 q4))
theorem wc:(sizeLine:Nat)<2 ^ 63:=by rw [sizeLine_eq];decide
theorem vals1(r:Vals [x] us):∃u,us=[u]∧RelV x u:=by
 cases r with
 | cons r1 r2=>cases r2;exact ⟨_,rfl,r1⟩
theorem vals2{y:V}(r:Vals [x,y] us):∃u w',us=[u,w']∧RelV x u∧RelV y w':=by
 cases r with
 | cons r1 r2=>
  cases r2 with
  | cons r3 r4=>cases r4;exact ⟨_,_,rfl,r1,r3⟩
theorem Dj:gv X (.builtin "abs") (fun xs H Q=>∃i,xs=[.int i]∧Q (.int (if i<0 then -i else i)) H):=by intro pins s σ H xs us Q I r h;obtain ⟨i,rfl,q⟩:=h;obtain ⟨u,rfl,t,rfl⟩:=vals1 r;exact call_abs_int fun u tk=>⟨.int (if i<0 then -i else i),H,I.tok _,⟨_,rfl⟩,q⟩
end
structure m_ (h:Heap) (x dx C:Addr) (mA:cJ):Prop where
 obj:h.get? x=some (PySem.W.instObj C dx)
 ns:h.Ns1 dx mA
 ne:dx≠x
variable {dx:Addr} {mA:cJ}
theorem JH(n:h.Ns1 dx mA):∃od,h.get? dx=some od∧∀name,PySem.W.lookIn name od=some (mA name):=by
 obtain ⟨o,es,ep,ho,hd,hk,_,hm⟩:=n;refine ⟨o,ho,fun name=>?_⟩;have e:=hm name;unfold nsFind findBy at e;rw [←Array.find?_toList] at e;unfold PySem.W.lookIn;rw [hd];dsimp only
 split
 ·rename_i y q
  rw [q] at e;exact gh some e
 ·rename_i q
  rw [q] at e;have a:es.toList.any (·.refKey)=false:=by rw [List.any_eq_false];intro y hy;obtain ⟨z,t,JI⟩:=hk y (Array.mem_toList_iff.mp hy);simp [DictEntry.refKey,JI]
  have a':¬es.toList.any (·.refKey)=true:=by rw [a];exact cU
  rw [ah a'];exact gh some e
variable {C:Addr}
theorem m_.look{x:Addr}(I:m_ h x dx C mA):∃od,PySem.W.InstAt h x (PySem.W.instObj C dx) C (some od)∧∀name,PySem.W.lookIn name od=some (mA name):=
 let ⟨od,ho,hl⟩:=JH I.ns
 ⟨od,⟨I.obj,rfl,rfl,ho⟩,hl⟩
section
variable {prog:Program} {w:World} {A:Around} {E:aI} {s:Shared} {K:ay} {x dx C f:Addr} {mA:cJ} {name:Str} {v:Value}
theorem get_map{expr:Bool}{Q:aI}(X:K.In s.heap)(I:m_ s.heap x dx C mA)(hg:PySem.W.plainGet K C name=true)(hh:PySem.W.hasDictIn K C=true)
  (ha:PySem.W.findIn K (.ref C) name=some none) (hv:mA name=some v) (fX:PySem.W.handedIn v=true) (h:Q v {s with toks:=s.toks+1}) :
  wpAny (model prog w) A (getAttr (.ref x) name expr) Q E s:=by
 obtain ⟨od,J,hl⟩:=I.look;exact PySem.W.get_value X J (PySem.W.plainGet_of hg).1 (PySem.W.findObj_own hh ha rfl (by rw [hl,hv])) fX h
theorem JJ{pl:Sem Bool}{Q:Value×List Value→Shared→Prop}(X:K.In s.heap)(I:m_ s.heap x dx C mA)(hg:PySem.W.plainGet K C name=true)
  (hf:PySem.W.findIn K (.ref C) name=some (some (.ref f))) (ht:PySem.W.isFn K (.ref f)=true) (hv:mA name=none) (h:Q (.ref f,[.ref x]) s) :
  wpAny (model prog w) A (getMethod (.ref x) name pl) Q E s:=by
 obtain ⟨od,J,hl⟩:=I.look;exact PySem.W.method_fn X J (PySem.W.plainGet_of hg).1 (PySem.W.plainGet_of hg).2 hf (jB.mp ht) (by show (PySem.W.lookIn name od).map (·.isSome)=some false;rw [hl,hv];rfl) h
theorem JK{ns:List Str}{Q:Unit→Shared→Prop}(X:K.In s.heap)(I:m_ s.heap x dx C mA)
  (hs:PySem.W.findIn K (.ref C) "__setattr__"=some (some (.builtin "object.__setattr__"))) (hp:PySem.W.plainOver K C=true) (ht:PySem.W.takerIn K C name=some none) (hh:PySem.W.hasDictIn K C=true)
  (hw:PySem.Within mA ns) (hsz:ns.length≤sizeLine)
  (h:∀h',m_ h' x dx C (fun y=>if y=name then some v else mA y)→Heap.SameBut dx s.heap h'→Q () {s with heap:=h',toks:=s.toks+2}) :
  wpAny (model prog w) A (setAttr (.ref x) name v) Q E s:=by
 obtain ⟨od,J,hl⟩:=I.look;refine PySem.W.set_plain X J hs (PySem.W.osa_open (s:={s with toks:=s.toks+1}) (r:=none) X J hp ht fun b=>?_);obtain ⟨cd,hc,zf⟩:=PySem.W.any_some hh;have hx:s.heap.get? x=some ⟨.ref C,some dx,.plain,#[]⟩:=I.obj;refine bL (dG (bL (bL (wpAny_loadPart hx (bL (PySem.W.Looks.here (s:={s with toks:=s.toks+1}) (PySem.W.looks_clsIn X hc) ?_))))));rw [zf];refine dG (a:=some dx) (bL (dG (bL ?_)));refine wpAny_nsSet1 (s:={s with toks:=s.toks+1}) I.ns fun h' qm m7=>?_;obtain ⟨oD,TB,TC,JL,JM,JN⟩:=qm.count (PySem.Within.cons name v hw);refine bL (wpAny_lookBehind JL (by rw [JM];exact pastItsLine_dict (aV JN (by rw [eE];lia))) ?_)
 exact dG (h _ ⟨(m7.2 _ (Ne.symm I.ne)).trans I.obj,qm,I.ne⟩ m7)
theorem JO{R:Result→Shared→Prop}{vs:List Value}{kw:List (Str×Value)}(X:K.In s.heap)(hm:PySem.W.makesIn K C=true)
  (hi:PySem.W.findIn K (.ref C) "__init__"=some (some (.ref f))) (hf:PySem.W.typeIn K (.ref f)=some (.type "function"))
  (h:codeAny (model prog w) (A.under (.builtin "type.__call__" ⟨.ref C::vs,kw⟩)) (.call (.ref f) ⟨.ref (s.heap.objs.size+1)::vs,kw⟩) (PySem.W.InitBack (s.heap.objs.size+1) R)
   {s with heap:=(s.heap.push PySem.W.emptyDict).push (PySem.W.instObj C s.heap.objs.size)}) :
  codeAny (model prog w) A (.call (.ref C) ⟨vs,kw⟩) R s:=by
 obtain ⟨hh,g,d,t,os⟩:=s;exact PySem.W.make_core (PySem.W.makes_of X hm) (vH X hi) (fun self=>PySem.W.bind_fn X self hf) (.inl rfl) h
end
def fY(f:Str)(v:V):List (Str×V)→List (Str×V)
 | []=>[(f,v)]
 | (g,x)::r=>if g=f then (g,v)::r else (g,x)::fY f v r
theorem Dk(f g:Str)(v:V):∀fs:List (Str×V),(fY f v fs).lookup g=if g=f then some v else fs.lookup g
 | []=>by
  show List.lookup g [(f,v)]=_;by_cases h:g=f
  ·have hb:(g == f)=true:=jB.mpr h
   simp only [List.lookup,hb,ao h]
  ·have hb:(g == f)=false:=kj.mpr h
   simp only [List.lookup,hb,ah h]
 | (k,x)::r=>by
  have ih:=Dk f g v r;rw [show fY f v ((k,x)::r)=(if k=f then (k,v)::r else (k,x)::fY f v r) from rfl]
  by_cases hk:k=f
  ·rw [ao hk]
   by_cases h:g=k
   ·have hb:(g == k)=true:=jB.mpr h
    simp only [List.lookup,hb,ao (h.trans hk)]
   ·have hb:(g == k)=false:=kj.mpr h
    simp only [List.lookup,hb,ah (fun e:g=f=>h (e.trans hk.symm))]
  ·rw [ah hk]
   by_cases h:g=k
   ·have hb:(g == k)=true:=jB.mpr h
    simp only [List.lookup,hb,ah (fun e:g=f=>hk (h.symm.trans e))]
   ·have hb:(g == k)=false:=kj.mpr h
    simp only [List.lookup,hb];exact ih
theorem zG(f:Str)(v:V):∀fs:List (Str×V),f∈(fY f v fs).map (·.1)∧∀g,g∈fs.map (·.1)→g∈(fY f v fs).map (·.1)
 | []=>⟨by simp [fY],fun g h=>by simp at h⟩
 | (k,x)::r=>by
  obtain ⟨i1,i2⟩:=zG f v r;rw [show fY f v ((k,x)::r)=(if k=f then (k,v)::r else (k,x)::fY f v r) from rfl]
  by_cases hk:k=f
  ·rw [ao hk]
   subst hk;exact ⟨by simp,fun g h=>by simpa using h⟩
  ·rw [ah hk]
   refine ⟨?_,fun g h=>?_⟩
   ·rw [cQ]
    exact fO _ i1
   ·rw [cQ] at h ⊢
    rcases cp.mp h with e | e;·exact cp.mpr (.inl e)
    ·exact fO _ (i2 g e)
theorem Dl(f:Str)(v:V):∀fs:List (Str×V),(fY f v fs).length≤fs.length+1
 | []=>by simp [fY]
 | (k,x)::r=>by
  have ih:=Dl f v r;rw [show fY f v ((k,x)::r)=(if k=f then (k,v)::r else (k,x)::fY f v r) from rfl]
  by_cases hk:k=f;·rw [ao hk,eE,eE];lia
  ·rw [ah hk,eE,eE];lia
variable {v:V}
theorem g9.some_of{o:Option Value}(r:g9 (some v) o):∃u,o=some u∧RelV v u:=by
 cases o with
 | none=>exact (show False from r).elim
 | some u=>exact ⟨u,rfl,r⟩
theorem g9.none_of{o:Option Value}(r:g9 none o):o=none:=by
 cases o with
 | none=>rfl
 | some u=>exact (show False from r).elim
theorem JP(r:RelV v u):PySem.W.handedIn u=true:=by
 cases v with
 | aH=>cases (show u=Value.none from r);rfl
 | bl b=>cases (show u=Value.bool b from r);rfl
 | int i=>obtain ⟨t,e⟩:=(show ∃t,u=Value.int i t from r);cases e;rfl
 | str x=>obtain ⟨t,e⟩:=(show ∃t,u=Value.str x t from r);cases e;rfl
 | iO b=>obtain ⟨t,e⟩:=(show ∃t,u=Value.bytes b t from r);cases e;rfl
 | mP b=>obtain ⟨t,e⟩:=(show ∃t,u=Value.float b t from r);cases e;rfl
 | ref a=>cases (show u=Value.ref a from r);rfl
 | ty n=>cases (show u=Value.type n from r);rfl
section
variable {P:Program} {w:World} {H H':Hp} {h h':Heap} {a C dx:Addr} {fs zd:List (Str×V)}
theorem we(aw:bU P w H h)(e:H a=some (.ins C dx fs)):∃mA,m_ h a dx C mA∧(∀f,g9 (fs.lookup f) (mA f))∧PySem.Within mA (fs.map (·.1))∧fs.length≤1000∧H dx=some (.own a):=by obtain ⟨d,z,ne,ob,mA,n,r,q⟩:=(show cz P w H h a (.ins C dx fs) from aw a _ e);exact ⟨mA,⟨ob,n,ne⟩,r,q,z,d⟩
end
structure jg (K:ay) (C:Addr):Prop where
 pg:PySem.W.plainGet K C Str.empty=true
 hd:PySem.W.hasDictIn K C=true
 po:PySem.W.plainOver K C=true
 sa:PySem.W.findIn K (.ref C) "__setattr__"=some (some (.builtin "object.__setattr__"))
theorem jg.get{K:ay}{C:Addr}(c:jg K C)(f:Str):PySem.W.plainGet K C f=true:=c.pg
def ng(K:ay)(C:Addr)(f:Str):Prop:=PySem.W.findIn K (.ref C) f=some none
theorem ng.JQ{f:Str}(n:ng K C f):PySem.W.takerIn K C f=some none:=by unfold PySem.W.takerIn;rw [show PySem.W.findIn K (.ref C) f=some none from n];rfl
structure Meth (K:ay) (C:Addr) (m:Str) (f:Addr):Prop where
 at_:PySem.W.findIn K (.ref C) m=some (some (.ref f))
 fn:PySem.W.isFn K (.ref f)=true
 kp:PySem.W.keepIn K (.ref f)=true
section
variable {X:Cx} {pins:aO} {σ:St} {H:Hp} {s:Shared} {a C dx:Addr} {fs:List (Str×V)} {f:Str} {v:V} {A:Around} {E:aI}
variable {Q:aI}
theorem JR{b:Bool}(I:Inv X pins σ H s)(e:H a=some (.ins C dx fs))(c:jg X.K C)(n:ng X.K C f)(l:fs.lookup f=some v)
  (h:∀u s',Inv X pins σ H s'→RelV v u→Q u s'):wpAny (model X.prog X.w) A (getAttr (.ref a) f b) Q E s:=by
 obtain ⟨mA,O,r,_,_,_⟩:=we I.aw e;obtain ⟨u,hu,ru⟩:=g9.some_of (v:=v) (o:=mA f) (by rw [←l];exact r f)
 exact get_map I.dc O (c.get f) c.hd n hu (JP ru) (h u _ (I.tok _) ru)
theorem Dm{m:Str}{g:Addr}{pl:Sem Bool}{Q:Value×List Value→Shared→Prop}(I:Inv X pins σ H s)(e:H a=some (.ins C dx fs))(c:jg X.K C)(k:Meth X.K C m g)(l:fs.lookup m=none)
  (h:Q (.ref g,[.ref a]) s):wpAny (model X.prog X.w) A (getMethod (.ref a) m pl) Q E s:=by
 obtain ⟨mA,O,r,_,_,_⟩:=we I.aw e;have hn:mA m=none:=g9.none_of (by rw [←l];exact r m)
 exact JJ I.dc O (c.get m) k.at_ k.fn hn h
theorem JS{y:V}{Q:Unit→Shared→Prop}(I:Inv X pins σ H s)(e:H a=some (.ins C dx fs))(c:jg X.K C)(n:ng X.K C f)(hl:fs.length<1000)(ry:RelV y u)
  (h:∀s',Inv X pins σ (upd H a (.ins C dx (fY f y fs))) s'→Q () s'):wpAny (model X.prog X.w) A (setAttr (.ref a) f u) Q E s:=by
 obtain ⟨mA,O,r,wi,_,ho⟩:=we I.aw e;have hz:(fs.map (·.1)).length≤sizeLine:=by rw [a8,sizeLine_eq];lia
 refine JK I.dc O c.sa c.po n.JQ c.hd wi hz fun h' O' sb=>h _ ?_;have hd:∃o,h'.get? dx=some o:=let ⟨o,_,_,e',_⟩:=O'.ns;⟨o,e'⟩
 refine I.write (x:=a) (e:=dx) (by rw [e];exact True.intro) (.inr ho) (fun b q hb z=>(sb.2 b hb).trans z) hd ?_
 refine ⟨by rw [aN O.ne];exact ho,?_,O.ne,O'.obj,_,O'.ns,fun g=>?_,fun g hg=>?_⟩
 ·have:=Dl f y fs;lia
 ·show g9 ((fY f y fs).lookup g) (if g=f then some u else mA g)
  rw [Dk];by_cases q:g=f;·rw [ao q,ao q];exact ry
  ·rw [ah q,ah q];exact r g
 ·by_cases q:g=f
  ·rw [q];exact (zG f y fs).1
  ·refine (zG f y fs).2 g (wi g fun z=>hg ?_)
   show (if g=f then some u else mA g)=none
   rw [ah q];exact z
theorem Inv.made(I:Inv X pins σ H s):Inv X pins σ (upd (upd H s.heap.objs.size (.own (s.heap.objs.size+1))) (s.heap.objs.size+1) (.ins C s.heap.objs.size []))
  {s with heap:=(s.heap.push PySem.W.emptyDict).push (PySem.W.instObj C s.heap.objs.size)}:=by
 have e1:(s.heap.push PySem.W.emptyDict).get? s.heap.objs.size=some PySem.W.emptyDict:=dS s.heap rfl;have e2:((s.heap.push PySem.W.emptyDict).push (PySem.W.instObj C s.heap.objs.size)).get? (s.heap.objs.size+1)=some (PySem.W.instObj C s.heap.objs.size):=by
  have:=dS (s.heap.push PySem.W.emptyDict) (o:=PySem.W.instObj C s.heap.objs.size) rfl
  rwa [t7] at this
 have e3:(s.heap.push PySem.W.emptyDict).Ns s.heap.objs.size (fun _=>none):=⟨PySem.W.emptyDict,#[],_,e1,rfl,(fun e he=>absurd he (by simp)),fun _=>rfl⟩
 have I1:=I.laid (a:=s.heap.objs.size) (o:=.own (s.heap.objs.size+1)) (h':=s.heap.push PySem.W.emptyDict) (t':=s.toks) (fun b u q=>bT _ q) (aD _) ⟨_,e1⟩;refine I1.laid (a:=s.heap.objs.size+1) (o:=.ins C s.heap.objs.size []) (t':=s.toks) (fun b u q=>bT _ q) (Nat.le_of_eq (t7 _ _)) ?_;have ne:s.heap.objs.size≠s.heap.objs.size+1:=cP (vI _);refine ⟨by rw [aN ne,ax],cu _,ne,e2,fun _=>none,(Heap.Ns1.of_empty e3).at fun o q=>bT _ q,fun _=>True.intro,fun y hy=>absurd rfl hy⟩
theorem JT{prog:Program}{env:Env}{e:Expr}{pos:Pos}(hb:attributeBase e f env (eval e env)=eval e env)
  (h:wpAny (model prog w) A (eval e env) (fun o s₁=>wpAny (model prog w) A (getAttr o f true) Q E s₁) E s):wpAny (model prog w) A (eval (.Attribute e f pos) env) Q E s:=
 Attribute_any_ h (by rw [arm_eval_Attribute,hb])
end
def JU(K:ay)(ta:TE)(f:Str):TE:=fun σ H Q=>ta σ H fun x H1=>∃a C dx fs v,x=.ref a∧H1 a=some (.ins C dx fs)∧jg K C∧ng K C f∧fs.lookup f=some v∧Q v H1
def JV(K:ay)(ta tv:TE)(f:Str):TS:=fun D σ H=>tv σ H fun y H1=>ta σ H1 fun x H2=>∃a C dx fs,x=.ref a∧H2 a=some (.ins C dx fs)∧jg K C∧ng K C f∧fs.length<1000 ∧
 D.nx σ (upd H2 a (.ins C dx (fY f y fs)))
section
variable {X:Cx} {o e value:Expr} {f:Str} {pos pos' wg:Pos} {ta tv:TE}
theorem jP(he:PE X e ta)(hb:attributeBase e f X.env (eval e X.env)=eval e X.env):PE X (.Attribute e f pos) (JU X.K ta f):=by intro pins s σ H Q I h;refine JT hb (aE (he pins s σ H _ I h) fun u s1 ⟨x,H1,I1,rx,a,C,dx,fs,v,ex,ea,c,n,l,q⟩=>?_);subst ex;obtain rfl:u=Value.ref a:=rx;exact JR I1 ea c n l fun u' s2 I2 ru=>⟨v,H1,I2,ru,q⟩
theorem Dn(ha:PE X o ta)(hv:PE X value tv)(hs:swapsWith value (some (.Attribute o f pos')) pos.line X.env=pure false):PS X (.Assign [.Attribute o f pos'] value pos) (JV X.K ta tv f):=by intro pins s σ H D I h;refine plainObj_wpAny_Assign_Attribute (aE (hv pins s σ H _ I h) fun u s1 ⟨y,H1,I1,ry,q⟩=>aE (ha pins s1 σ H1 _ I1 q) fun ov s2 ⟨x,H2,I2,rx,a,C,dx,fs,ex,ea,c,n,l,q2⟩=>?_) hs;subst ex;obtain rfl:ov=Value.ref a:=rx;exact JS I2 ea c n l ry fun s3 I3=>⟨σ,_,I3,q2⟩
theorem TK{pl:Sem Bool}{m:Str}{apos:Pos}{args:List Expr}{pins:aO}{Q:aI}{te:TE}(he:PE X e te)(I:Inv X pins σ H s)
  (h:te σ H fun x H1=>∃a C dx fs g,x=.ref a∧H1 a=some (.ins C dx fs)∧jg X.K C∧Meth X.K C m g∧fs.lookup m=none ∧
   ∀s1,Inv X pins σ H1 s1→wpAny (model X.prog X.w) X.A (callWith pos (.ref g) [.ref a] (backTo pos (starEach args X.env)) (backToKw pos (keywordEach [] X.env))) Q X.xe s1)
  (ht:eval (.Call (.Attribute e m apos) args [] pos) X.env=(do
   let ov ←eval e X.env
   standAt apos.atName
   let (f,first) ←holding [ov] (getMethod ov m pl)
   callWith pos f first (backTo pos (starEach args X.env)) (backToKw pos (keywordEach [] X.env)))) :
  wpAny (model X.prog X.w) X.A (eval (.Call (.Attribute e m apos) args [] pos) X.env) Q X.xe s:=by
 refine PySem.W.methodCall_KW (pl:=pl) (aE (he pins s σ H _ I h) fun u s1 ⟨x,H1,I1,rx,a,C,dx,fs,g,ex,ea,c,k,l,q⟩=>?_) ht
 subst ex
 obtain rfl:u=Value.ref a:=rx
 exact Dm I1 ea c k l (q s1 I1)
end
section
variable {X:Cx} {pins:aO} {σ:St} {H:Hp} {s:Shared} {A:Around} {E:aI} {Q:aI} {c:Value} {b:Bool}
inductive h_ (K:ay) (H:Hp):V→Value→Prop where
 | aH:h_ K H .aH (.type "NoneType")
 | bl (x:Bool):h_ K H (.bl x) (.type "bool")
 | int (i:Int):h_ K H (.int i) (.type "int")
 | str (x:Str):h_ K H (.str x) (.type "str")
 | mP (x:UInt64):h_ K H (.mP x) (.type "float")
 | lst {a:Addr} {xs:List V} (e:H a=some (.lst xs)):h_ K H (.ref a) (.type "list")
 | cb {a:Addr} {o:Obj} {xs:List V} (e:H a=some (.cb o (.lst xs))):h_ K H (.ref a) (.type "list")
 | tup {a:Addr} {xs:List V} (e:H a=some (.tup xs)):h_ K H (.ref a) (.type "tuple")
 | dK {a:Addr} {aj:List (Key×V)} (e:H a=some (.dK aj)):h_ K H (.ref a) (.type "dict")
 | dT {a:Addr} {aj:List (List Key×V)} (e:H a=some (.dT aj)):h_ K H (.ref a) (.type "dict")
 | ins {a C dx:Addr} {fs:List (Str×V)} (e:H a=some (.ins C dx fs)) (cl:jg K C) (ha:PySem.W.findIn K (.ref C) "__class__"=some (some (.builtin "object.__class__")))
   (hn:PySem.W.specialIn K (.builtin "object.__class__") "__get__"=some (some (.builtin "getset_descriptor.__get__"))) (Dp:PySem.W.takesIn K (.builtin "object.__class__")=some true)
   (hm:PySem.W.mroIn K C (.type "object")=some true):h_ K H (.ref a) (.ref C)
theorem JW{t:Value}(I:Inv X pins σ H s)(rx:RelV x u)(ty:h_ X.K H x t)(e:PySem.W.kitOne X.K t c=some b)(h:∀tk,Q (.bool b) {s with toks:=tk}) :
  wpAny (model X.prog X.w) A (call (.builtin "isinstance") [u,c]) Q E s:=by
 cases ty with
 | aH=>cases (show u=Value.none from rx);exact g6 PySem.W.kitx_none I.dc True.intro e (fun z=>nomatch z) h
 | bl y=>cases (show u=Value.bool y from rx);exact g6 PySem.W.kitx_bool I.dc True.intro e (fun z=>nomatch z) h
 | int i=>obtain ⟨t,q⟩:=(show ∃t,u=Value.int i t from rx);cases q;exact g6 PySem.W.kitx_int I.dc True.intro e (fun z=>nomatch z) h
 | str y=>obtain ⟨t,q⟩:=(show ∃t,u=Value.str y t from rx);cases q;exact g6 PySem.W.kitx_str I.dc True.intro e (fun z=>nomatch z) h
 | mP y=>obtain ⟨t,q⟩:=(show ∃t,u=Value.float y t from rx);cases q;exact g6 PySem.W.kitx_float I.dc True.intro e (fun z=>nomatch z) h
 | @lst a xs ea=>cases (show u=Value.ref a from rx);obtain ⟨_,_,n,_,h1⟩:=(show cz X.prog X.w H s.heap a (.lst xs) from I.aw a _ ea);exact g6 PySem.W.kitx_list I.dc ⟨_,h1,rfl⟩ e (fun z=>nomatch z) h
 | @cb a ob xs ea=>cases (show u=Value.ref a from rx);obtain ⟨_,_,_,n,_,h1⟩:=(show cz X.prog X.w H s.heap a (.cb ob (.lst xs)) from I.aw a _ ea);exact g6 PySem.W.kitx_list I.dc ⟨_,h1,rfl⟩ e (fun z=>nomatch z) h
 | @tup a xs ea=>cases (show u=Value.ref a from rx);obtain ⟨_,_,_,p⟩:=(show cz X.prog X.w H s.heap a (.tup xs) from I.aw a _ ea);obtain ⟨o,h1,h2,_⟩:=p;exact g6 PySem.W.kitx_tuple I.dc ⟨o,h1,h2⟩ e (fun z=>nomatch z) h
 | @dK a aj ea=>cases (show u=Value.ref a from rx);obtain ⟨_,_,vs,_,p⟩:=(show cz X.prog X.w H s.heap a (.dK aj) from I.aw a _ ea);obtain ⟨o,es,ep,h1,h2,_⟩:=p;exact g6 PySem.W.kitx_dict I.dc ⟨o,h1,h2.1⟩ e (fun z=>nomatch z) h
 | @dT a aj ea=>cases (show u=Value.ref a from rx);obtain ⟨_,_,xs,_,o,es,ep,h1,h2,_⟩:=(show cz X.prog X.w H s.heap a (.dT aj) from I.aw a _ ea);exact g6 PySem.W.kitx_dict I.dc ⟨o,h1,h2.1⟩ e (fun z=>nomatch z) h
 | @ins a C dx fs ea cl ha hn Dp hm=>cases (show u=Value.ref a from rx);obtain ⟨mA,O,_⟩:=we I.aw ea;obtain ⟨od,J,_⟩:=O.look;exact g6 (PySem.W.kitx_own (cl.get _) cl.hd ha hn Dp hm) I.dc J e (fun z=>nomatch z) h
end
structure cK (k:Nat) (A:Around):Prop where
 hd:A.handled=none
 dp:A.depth+3*k+5<recursionLimit
 un:A.units+16*k+200<cLine
variable {k:Nat}
theorem cK.mono{j:Nat}(r:cK k A)(h:j≤k):cK j A:=⟨r.hd,by have:=r.dp;lia,by have:=r.un;lia⟩
theorem cK.deeper(r:cK (k+1) A)(env:Env):cK k (A.deeper env):=
 ⟨r.hd,by have:=r.dp;show A.depth+1+3*k+5<_;lia,by have:=r.un;show A.units+3+16*k+200<_;lia⟩
variable {kw:List (Str×Value)}
theorem JX:(A.under (.builtin "type.__call__" ⟨.ref C::us,kw⟩)).depth=A.depth+1:=by first | rfl | simp [Around.under,Code.weight,Code.isCreation,Code.isGuard,Code.isCaller,Code.frames,Code.isFrame,guardIds]
theorem JY:(A.under (.builtin "type.__call__" ⟨.ref C::us,kw⟩)).units=A.units+1:=by first | rfl | simp [Around.under,Code.cUnits,Code.frames,Code.isFrame]
theorem cK.make(r:cK (k+1) A)(C:Addr)(us:List Value)(kw:List (Str×Value)):cK k (A.under (.builtin "type.__call__" ⟨.ref C::us,kw⟩)):=
 ⟨r.hd,by have:=r.dp;rw [JX];lia,by have:=r.un;rw [JY];lia⟩
theorem cK.depth(r:cK k A):A.depth<recursionLimit:=by have:=r.dp;lia
theorem cK.units(r:cK k A):A.units+64<cLine:=by have:=r.un;lia
theorem cK.wm(r:cK k A):A.units<cLine:=by have:=r.un;lia
def jQ:TA:=fun _ H Q=>Q [] H
def qo(ta:TE)(tr:TA):TA:=fun σ H Q=>ta σ H fun x H1=>tr σ H1 fun xs H2=>Q (x::xs) H2
section
variable {X:Cx} {e:Expr} {es:List Expr} {te:TE} {t:TA} {pos:Pos}
theorem af:PA X [] jQ:=fun _ _ _ _ H Q I h=>Calls.spliced_nil ⟨[],H,I,.nil,h⟩
theorem JZ(ha:PE X e te)(hr:PA X es t)(hs:starEach (e::es) X.env=(false,eval e X.env)::starEach es X.env:=by rfl):PA X (e::es) (qo te t):=by intro pos pins s σ H Q I h;rw [hs];show wpAny _ _ (spliced ((false,eval e X.env)::backTo pos (starEach es X.env))) _ _ s;refine Calls.spliced_cons (aE (ha pins s σ H _ I h) fun u s1 ⟨x,H1,I1,r1,q1⟩=>?_);exact aE (hr pos pins s1 σ H1 _ I1 q1) fun us s2 ⟨xs,H2,I2,r2,q2⟩=>⟨x::xs,H2,I2,.cons r1 r2,q2⟩
def J0(t:TA):TE:=fun σ H Q=>t σ H fun xs H1=>xs.length≤sizeLine∧∀p,H1 p=none→Q (.ref p) (upd H1 p (.tup xs))
def J1(t:TA):TE:=fun σ H Q=>t σ H fun xs H1=>xs.length≤sizeLine∧∀p,H1 p=none→Q (.ref p) (upd H1 p (.lst xs))
theorem d7{x1}(h:PA X es t):PE X (.Tuple es x1 pos) (J0 t):=by
 intro pins s σ H Q I hq;refine wpAny_Tuple_spliced (aE (h pos pins s σ H _ I hq) fun us s1 ⟨xs,H1,I1,r,z,q⟩=>⟨by rw [←r.length];exact z,?_⟩)
 have hf:H1 s1.heap.objs.size=none:=I1.aw.fresh (aD _);refine ⟨.ref s1.heap.objs.size,upd H1 s1.heap.objs.size (.tup xs),I1.laid (t':=s1.toks) (fun b u e=>bT _ e) (aD _) ?_,rfl,q _ hf⟩;exact ⟨z,us,r,⟨_,dS _ rfl,rfl,_,rfl⟩⟩
theorem lW(h:PA X es t):PE X (.List es pos) (J1 t):=by
 intro pins s σ H Q I hq;refine wpAny_List_spliced (aE (h pos pins s σ H _ I hq) fun us s1 ⟨xs,H1,I1,r,z,q⟩=>⟨by rw [←r.length];exact z,?_⟩)
 have hf:H1 s1.heap.objs.size=none:=I1.aw.fresh (aD _);refine ⟨.ref s1.heap.objs.size,upd H1 s1.heap.objs.size (.lst xs),I1.laid (t':=s1.toks) (fun b u e=>bT _ e) (aD _) ?_,rfl,q _ hf⟩;exact ⟨z,us,0,r,dS _ rfl⟩
end
abbrev Sp:=List V→Hp→VK→XK→Prop
abbrev gw:=List Env→Hp→Shared→XK→Value→Shared→Prop
structure nh (P:Program) (w:World) (K:ay) (mg:cJ) (base:Heap) (A:Around) (outer:List Env) (s:Shared) (H:Hp):Prop where
 frames:A.frames=some outer
 mod:Mod K mg base
 bs:∀b o,base.get? b=some o→s.heap.get? b=some o∧H b=none
 fI:base.objs.size≤s.heap.objs.size
 iP:s.heap.FunFrames base outer
 kG:∀b∈cf outer,H b=none
 aw:bU P w H s.heap
 bare:AllBare s.gens
def CE(outer:List Env)(P:Program)(w:World)(H:Hp)(s:Shared)(Q:VK)(u:Value)(s':Shared):Prop:=
 ∃v H',s'.os=s.os∧AllBare s'.gens∧Un (cf outer) [] H H' s.heap s'.heap∧bU P w H' s'.heap∧RelV v u∧Q v H'
def CR(CX:gw)(outer:List Env)(P:Program)(w:World)(H:Hp)(s:Shared)(Q:VK)(E:XK)(r:Result)(s':Shared):Prop:=
 match r with
 | .ok (.ret u)=>CE outer P w H s Q u s'
 | .ok _=>False
 | .error e=>CX outer H s E e s'
structure aT (P:Program) (w:World) (K:ay) (mg:cJ) (base:Heap) (CX:gw) (k:Nat) (f:Addr) (fd:FuncData) (ps:List Str) (sp:Sp):Prop where
 len:∀vs H Q E,sp vs H Q E→vs.length=ps.length
 run:∀(A:Around) (outer:List Env) (s:Shared) (H:Hp) (args:Args) (us:List Value) (vs:List V) (Q:VK) (E:XK),cK k A→nh P w K mg base A outer s H→BindsTo s fd args (ps.zip us)→Vals vs us→sp vs H Q E→
  codeAny (model P w) A (.call (.ref f) args) (CR CX outer P w H s Q E) s
variable {mg:cJ} {base:Heap} {outer:List Env}
theorem nh.make(e:nh P w K mg base A outer s H)(C:Addr)(us:List Value)(kw:List (Str×Value)) :
  nh P w K mg base (A.under (.builtin "type.__call__" ⟨.ref C::us,kw⟩)) outer s H:=⟨by first | exact e.frames | (simpa [Around.under,Code.envs,Code.isFrame,pushEnvs] using e.frames),e.mod,e.bs,e.fI,e.iP,e.kG,e.aw,e.bare⟩
section
variable {X:Cx} {pins:aO} {σ:St} {H:Hp} {s s':Shared}
theorem Inv.Dq(I:Inv X pins σ H s):nh X.prog X.w X.K X.mg X.base X.A X.stack s H:=
 ⟨I.ok.frames,I.ok.mod,I.bs,aV I.ok.fI I.sz,I.stack,I.mV,I.aw,I.bare⟩
theorem Inv.after{Q:VK}(I:Inv X pins σ H s)(h:CE X.stack X.prog X.w H s Q u s'):EP X pins σ Q u s':=by obtain ⟨v,H',os,bare,un,aw,r,q⟩:=h;obtain ⟨hh,g,d,t,J2⟩:=s';obtain rfl:J2=s.os:=os;exact ⟨v,H',I.call (h':=hh) (g':=g) (d':=d) (t':=t) (ch:=[]) un aw bare (fun b z=>absurd z (by simp)),r,q⟩
end
def Dr(sp:Sp)(d8:List V)(E:XK)(t:TA):TE:=fun σ H Q=>t σ H fun vs H1=>sp (vs++d8) H1 Q E
def J3(C:Addr)(m:Str)(sp:Sp)(d8:List V)(E:XK)(ta:TE)(t:TA):TE:=fun σ H Q=>ta σ H fun x H1=>∃a dx fs,x=.ref a∧H1 a=some (.ins C dx fs)∧fs.lookup m=none ∧
 t σ H1 fun vs H2=>sp (x::(vs++d8)) H2 Q E
def J4(C:Addr)(sp:Sp)(d8:List V)(E:XK)(t:TA):TE:=fun σ H Q=>t σ H fun vs H1=>∀x dx,H1 x=none→H1 dx=none→dx≠x→
 sp (.ref x::(vs++d8)) (upd (upd H1 dx (.own x)) x (.ins C dx [])) (fun v H2=>v=.aH∧Q (.ref x) H2) E
def Binds(K:ay)(fd:FuncData)(ps:List Str)(ds:List Value):Prop:=
 ∀(s:Shared) (us:List Value),K.In s.heap→(us++ds).length=ps.length→BindsTo s fd ⟨us,[]⟩ (ps.zip (us++ds))
variable {ps:List Str}
theorem Binds.all{fd:FuncData}(h:∀us:List Value,us.length=ps.length→bindArgs fd ⟨us,[]⟩=pure (ps.zip us)):Binds K fd ps []:=fun s us _ hl=>by rw [t8] at hl ⊢;exact .of_eq (h us hl)
def Passes(CX:gw)(X:Cx)(E:XK):Prop:=∀(pins:aO) (σ:St) (H:Hp) (s:Shared) (e:Value) (s':Shared),Inv X pins σ H s→CX X.stack H s E e s'→X.xe e s'
section
variable {X:Cx} {CX:gw} {k:Nat} {f C:Addr} {fd:FuncData} {ps:List Str} {sp:Sp} {d8:List V} {ds:List Value} {E:XK} {x m:Str} {p pos apos:Pos} {e o:Expr} {es:List Expr} {ta:TE} {t:TA}
variable {pins:aO} {Q:VK}
theorem Ds{vs:List V}(F:aT X.prog X.w X.K X.mg X.base CX k f fd ps sp)(hr:cK k X.A)(hb:Binds X.K fd ps ds)(hd:Vals d8 ds)(hx:Passes CX X E)
  (I:Inv X pins σ H s) (r:Vals vs us) (h:sp (vs++d8) H Q E):wpAny (model X.prog X.w) X.A (call (.ref f) us) (EP X pins σ Q) X.xe s:=by
 have r2:Vals (vs++d8) (us++ds):=r.append hd;have hl:(us++ds).length=ps.length:=by rw [←r2.length];exact F.len _ _ _ _ h
 refine wpAny_call (codeAny_mono (F.run X.A X.stack s H ⟨us,[]⟩ (us++ds) (vs++d8) Q E hr I.Dq (hb s us I.dc hl) r2 h) fun r s' hq=>?_);cases r with
 | error e=>exact hx pins σ H s e s' I hq
 | ok fl=>
  cases fl with
  | ret u=>exact I.after hq
  | next=>exact False.elim hq
  | brk=>exact False.elim hq
  | cont=>exact False.elim hq
theorem Dt(F:aT X.prog X.w X.K X.mg X.base CX k f fd ps sp)(hr:cK k X.A)(hg:Gl X x)(hm:X.mg x=some (.ref f))(hk:PySem.W.keepIn X.K (.ref f)=true)(hb:Binds X.K fd ps ds)(hd:Vals d8 ds)(hx:Passes CX X E)
  (ha:PA X (e::es) t) (kL:(x == ("__debug__":Str))=false:=by decide) (he:starEach (e::es) X.env=(false,eval e X.env)::starEach es X.env:=by rfl) (iR:(backTo pos (starEach es X.env)).any (·.1)=false:=by rfl) :
  PE X (.Call (.Name x p) (e::es) [] pos) (Dr sp d8 E t):=by
 intro pins s σ H Q I h;refine vJ (vV I hg hm ?_ kL);refine PySem.W.callWith_K (h₀:=X.base) I.ok.mod.cF hk (aE (ha pos pins s σ H _ I h) fun us s1 ⟨vs,H1,I1,r,q⟩=>⟨I1.dc,?_⟩) he iR;exact Ds F hr hb hd hx I1 r q
theorem aU{j:Nat}(F:aT X.prog X.w X.K X.mg X.base CX k f fd ps sp)(hr:cK j X.A)(hm:X.mg x=some (.ref f))(hk:PySem.W.keepIn X.K (.ref f)=true)(hb:Binds X.K fd ps [])(hx:Passes CX X E)
  (ha:PA X (e::es) t) (hj:k≤j:=by decide) (hg:Gl X x:=by exact rfl) (kL:(x == ("__debug__":Str))=false:=by decide) (he:starEach (e::es) X.env=(false,eval e X.env)::starEach es X.env:=by rfl) (iR:(backTo pos (starEach es X.env)).any (·.1)=false:=by rfl) :
  PE X (.Call (.Name x p) (e::es) [] pos) (Dr sp [] E t):=Dt F (hr.mono hj) hg hm hk hb .nil hx ha kL he iR
theorem fq{pl:Sem Bool}(he:PE X o ta)(c:jg X.K C)(hm:Meth X.K C m f)(F:aT X.prog X.w X.K X.mg X.base CX k f fd ps sp)(hr:cK k X.A)(hb:Binds X.K fd ps ds)(hd:Vals d8 ds)(hx:Passes CX X E)(ha:PA X (e::es) t)
  (zu:starEach (e::es) X.env=(false,eval e X.env)::starEach es X.env:=by rfl) (iR:(backTo pos (starEach es X.env)).any (·.1)=false:=by rfl)
  (ht:eval (.Call (.Attribute o m apos) (e::es) [] pos) X.env=(do
   let ov ←eval o X.env
   standAt apos.atName
   let (f,first) ←holding [ov] (getMethod ov m pl)
   callWith pos f first (backTo pos (starEach (e::es) X.env)) (backToKw pos (keywordEach [] X.env))):=by rfl) :
  PE X (.Call (.Attribute o m apos) (e::es) [] pos) (J3 C m sp d8 E ta t):=by
 intro pins s σ H Q I h
 refine PySem.W.methodCall_KW (pl:=pl) (aE (he pins s σ H _ I h) fun u s1 ⟨x,H1,I1,rx,a,dx,fs,ex,ea,l,q⟩=>?_) ht
 subst ex
 obtain rfl:u=Value.ref a:=rx
 refine Dm I1 ea c hm l ?_
 refine PySem.W.callWith_K (first:=[.ref a]) (h₀:=X.base) I.ok.mod.cF hm.kp (aE (ha pos pins s1 σ H1 _ I1 q) fun us s2 ⟨vs,H2,I2,r,q2⟩=>⟨I2.dc,?_⟩) zu iR
 exact Ds (us:=.ref a::us) (vs:=.ref a::vs) F hr hb hd hx I2 (.cons rfl r) q2
structure Mk (K:ay) (C f:Addr):Prop where
 makes:PySem.W.makesIn K C=true
 init:PySem.W.findIn K (.ref C) "__init__"=some (some (.ref f))
 fn:PySem.W.isFn K (.ref f)=true
 kp:PySem.W.keepIn K (.ref C)=true
theorem J5{vs:List V}(M:Mk X.K C f)(F:aT X.prog X.w X.K X.mg X.base CX k f fd ps sp)(hr:cK (k+1) X.A)(hb:Binds X.K fd ps ds)(hd:Vals d8 ds)
  (hx:Passes CX X E) (I:Inv X pins σ H s) (r:Vals vs us)
  (h:∀x dx,H x=none→H dx=none→dx≠x→sp (.ref x::(vs++d8)) (upd (upd H dx (.own x)) x (.ins C dx [])) (fun v H2=>v=.aH∧Q (.ref x) H2) E) :
  wpAny (model X.prog X.w) X.A (call (.ref C) us) (EP X pins σ Q) X.xe s:=by
 have hq:=h (s.heap.objs.size+1) s.heap.objs.size (I.aw.fresh (jC _)) (I.aw.fresh (aD _)) (cP (vI _));have I2:=Inv.made (C:=C) I;have r2:Vals (V.ref (s.heap.objs.size+1)::(vs++d8)) (Value.ref (s.heap.objs.size+1)::(us++ds)):=.cons rfl (r.append hd);have hl:(Value.ref (s.heap.objs.size+1)::us++ds).length=ps.length:=by have e:=r2.length;rw [F.len _ _ _ _ hq] at e;exact e.symm
 refine wpAny_call (JO (f:=f) I.dc M.makes M.init (jB.mp M.fn) (codeAny_mono (F.run _ X.stack _ _ ⟨Value.ref (s.heap.objs.size+1)::us,[]⟩ (Value.ref (s.heap.objs.size+1)::(us++ds)) _ _ E (hr.make C us [])
  (I2.Dq.make C us []) (hb _ (Value.ref (s.heap.objs.size+1)::us) I2.dc hl) r2 hq) fun r s' fZ=>?_))
 cases r with
 | error e=>exact hx pins σ _ _ e s' I2 fZ
 | ok fl=>
  cases fl with
  | ret u=>obtain ⟨v,H',I3,rv,ev,q3⟩:=I2.after fZ;subst ev;exact ⟨rv,⟨V.ref (s.heap.objs.size+1),H',I3,rfl,q3⟩⟩
  | next=>exact False.elim fZ
  | brk=>exact False.elim fZ
  | cont=>exact False.elim fZ
theorem J6(M:Mk X.K C f)(F:aT X.prog X.w X.K X.mg X.base CX k f fd ps sp)(hr:cK (k+1) X.A)(hg:Gl X x)(hm:X.mg x=some (.ref C))(hb:Binds X.K fd ps ds)(hd:Vals d8 ds)(hx:Passes CX X E)
  (ha:PA X (e::es) t) (kL:(x == ("__debug__":Str))=false:=by decide) (he:starEach (e::es) X.env=(false,eval e X.env)::starEach es X.env:=by rfl) (iR:(backTo pos (starEach es X.env)).any (·.1)=false:=by rfl) :
  PE X (.Call (.Name x p) (e::es) [] pos) (J4 C sp d8 E t):=by
 intro pins s σ H Q I h;refine vJ (vV I hg hm ?_ kL);refine PySem.W.callWith_K (h₀:=X.base) I.ok.mod.cF M.kp (aE (ha pos pins s σ H _ I h) fun us s1 ⟨vs,H1,I1,r,q⟩=>⟨I1.dc,?_⟩) he iR;exact J5 M F hr hb hd hx I1 r q
end
section
variable {X:Cx} {CX:gw} {k:Nat} {f C:Addr} {fd:FuncData} {ps ks:List Str} {sp:Sp} {E:XK} {x m:Str} {p pos apos Du:Pos} {e o:Expr} {es:List Expr} {J7:List Keyword} {te ta:TE} {t tk:TA} {nm:Option Str}
variable {g:List Value→List Value→List Value} {gV:List V→List V→List V}
end
structure a9 (N P:List Str) (sc:Scope):Prop where
 kind:sc.kind=.function
 co:sc.isCoroutine=false
 gen:sc.isGenerator=false
 nd:N.Nodup
 pre:N.take P.length=P
 par:∀x∈P,sc.names.lookup x=some .local∨sc.names.lookup x=some .cell
 J8:∀y∈sc.names,y.2≠.free
variable {N:List Str} {sc:Scope}
theorem bD{P:List Str}(h1:sc.kind=.function:=by rfl)(h2:sc.isCoroutine=false:=by rfl)(h3:sc.isGenerator=false:=by rfl)(h4:N.Nodup:=by decide +kernel)(h5:N.take P.length=P:=by rfl)(h6:∀x∈P,sc.names.lookup x=some .local∨sc.names.lookup x=some .cell:=by decide +kernel)(h7:∀y∈sc.names,y.2≠.free:=by decide +kernel):a9 N P sc:=⟨h1,h2,h3,h4,h5,h6,h7⟩
theorem Dv{kindOf:Str→Option NameKind}{x:Str}:∀{binds:List (Str×Value)} {m:cJ},(∀v,(x,v)∉binds)→bindL kindOf binds m x=m x
 | [],_,_=>rfl
 | (n,v)::r,m,h=>by
  unfold bindL;rw [Dv fun w hw=>h w (fO _ hw)]
  split
  ·have:x≠n:=by rintro rfl;exact h v gg
   simp [this]
  ·rfl
theorem Dw{kindOf:Str→Option NameKind}{x:Str}:∀{binds:List (Str×Value)} {m:cJ},(∀v,(x,v)∉binds)→bindC kindOf binds m x=m x
 | [],_,_=>rfl
 | (n,v)::r,m,h=>by
  unfold bindC;rw [Dw fun w hw=>h w (fO _ hw)]
  split
  ·rfl
  ·have:x≠n:=by rintro rfl;exact h v gg
   simp [this]
theorem Dx{kindOf:Str→Option NameKind}{x:Str}{v:Value}:∀{P:List Str} {vs:List Value} {i:Nat} {m:cJ},P.Nodup→P[i]?=some x→vs[i]?=some v→kindOf x=some .local→
  bindL kindOf (P.zip vs) m x=some v
 | [],_,_,_,_,h,_,_=>by simp at h
 | _::_,[],_,_,_,_,h,_=>by simp at h
 | p::P,w::vs,0,m,nd,h1,h2,hk=>by simp at h1 h2;subst h1;subst h2;show bindL kindOf ((p,w)::P.zip vs) m p=_;unfold bindL;rw [Dv fun v hv=>(jD.mp nd).1 (List.of_mem_zip hv).1,ao hk];simp
 | p::P,w::vs,i+1,m,nd,h1,h2,hk=>by show bindL kindOf ((p,w)::P.zip vs) m x=_;unfold bindL;exact Dx (i:=i) (jD.mp nd).2 (by simpa using h1) (by simpa using h2) hk
theorem Dy{kindOf:Str→Option NameKind}{x:Str}{v:Value}:∀{P:List Str} {vs:List Value} {i:Nat} {m:cJ},P.Nodup→P[i]?=some x→vs[i]?=some v→kindOf x≠some .local→
  bindC kindOf (P.zip vs) m x=some v
 | [],_,_,_,_,h,_,_=>by simp at h
 | _::_,[],_,_,_,_,h,_=>by simp at h
 | p::P,w::vs,0,m,nd,h1,h2,hk=>by simp at h1 h2;subst h1;subst h2;show bindC kindOf ((p,w)::P.zip vs) m p=_;unfold bindC;rw [Dw fun v hv=>(jD.mp nd).1 (List.of_mem_zip hv).1,ah hk];simp
 | p::P,w::vs,i+1,m,nd,h1,h2,hk=>by show bindC kindOf ((p,w)::P.zip vs) m x=_;unfold bindC;exact Dy (i:=i) (jD.mp nd).2 (by simpa using h1) (by simpa using h2) hk
def start(N:List Str)(vs:List V):St:=vs.map some++List.replicate (N.length-vs.length) none
def ic(CX:gw)(P:Program)(w:World)(K:ay)(mg:cJ)(base:Heap)(N:List Str)(qual:Str)(scope:Scope)(f:Addr)(cd:Value)(A:Around)(outer:List Env)(s:Shared)(H:Hp)(E:XK):Cx where
 prog:=P
 w:=w
 K:=K
 mg:=mg
 base:=base
 A:=A.deeper (envOfC qual scope s.heap.objs.size f cd)
 N:=N
 s₀:=s
 H₀:=H
 env:=envOfC qual scope s.heap.objs.size f cd
 outer:=outer
 stack:=envOfC qual scope s.heap.objs.size f cd::outer
 ex:=[]
 calm:=true
 fn:=fun _=>true
 pn:=[]
 xe:=fun e s'=>wpAny (model P w) (A.deeper (envOfC qual scope s.heap.objs.size f cd)) (leaving (envOfC qual scope s.heap.objs.size f cd) e) (fun _ ie=>CX outer H s E e ie) (fun e' ie=>CX outer H s E e' ie) s'
theorem Dz{x:Str}(h:sc.names.lookup x=some .cell):∃c,(cellsFrom n sc.names []).lookup x=some c:=by have q:=PySem.W.cellsFrom_some sc.names n [] (.inl h);exact y1.mp q
variable {CX:gw} {qual:Str} {scope:Scope} {f:Addr}
theorem J9{cd:Value}{s1:Shared}{E:XK}{vs:List V}
  (S:a9 N ps scope) (hd:A.handled=none) (e0:nh P w K mg base A outer s H) (hl:vs.length=ps.length) (r:Vals vs us)
  (x:InCallC s s.heap.objs.size (bindL (envOfC qual scope s.heap.objs.size f cd).kindOf (ps.zip us) fun _=>none) (cellsFrom (s.heap.objs.size+1) scope.names []) (bindC (envOfC qual scope s.heap.objs.size f cd).kindOf (ps.zip us) fun _=>none) s1) :
  Inv (ic CX P w K mg base N qual scope f cd A outer s H E) [] (start N vs) H s1:=by
 have iR:ps.length≤N.length:=by have:=gh List.length S.pre;rw [lK] at this;lia
 obtain ⟨h1,tk,rfl,hk⟩:=x.done;have uE:∀b:Addr,b∉(ic CX P w K mg base N qual scope f cd A outer s H E).ex:=fun b z=>absurd (show b∈([]:List Addr) from z) (by simp)
 refine ⟨⟨e0.mod,S.kind,rfl,rfl,aD _,fun y z c h1 h2=>?_,fun y hy=>?_,fun y c _ h=>?_,fun _=>hd,Around.frames_deeper e0.frames,.inr ⟨rfl,rfl⟩,fun b z=>absurd z (uE b),e0.bs,e0.fI,fun b _ _=>uE b,fun b z=>absurd z (uE b),e0.iP,e0.kG⟩,
  rfl,e0.bare,Un.kept hk,⟨_,x.toInCall.ns,fun i y v h1 h2 h3=>?_⟩,fun y c h=>⟨_,x.cell y c h⟩,e0.aw.fresh (aD _),fun y c h=>?_,fun p hp=>absurd (show p∈([]:aO) from hp) (by simp),e0.aw.kept hk,?_⟩
 ·exact name_of_addr x.apart (iJ h1) (iJ h2)
 ·have hy:scope.names.lookup y=some .cell∨scope.names.lookup y=some .free:=hy
  rcases hy with hy | hy;·exact Dz hy
  ·exact absurd rfl (S.J8 _ (iJ hy))
 ·exact Nat.le_of_lt (x.above y c (iJ h))
 ·have hi:i<vs.length:=by
   unfold start at h2;by_cases hi:i<vs.length;·exact hi
   ·rw [lL (by simpa using hi)] at h2
    rw [List.getElem?_replicate] at h2
    split at h2 <;> cases h2
  have ha:vs[i]?=some v:=by
   unfold start at h2;rw [lM (by simpa using hi),cE] at h2
   cases e:vs[i]? with
   | none=>rw [e] at h2;cases h2
   | some a=>rw [e] at h2;cases h2;rfl
  obtain ⟨u,hu,rv⟩:=r.get ha;have hp:ps[i]?=some y:=by rw [←S.pre,List.getElem?_take_of_lt (by lia)];exact h1
  have DA:ps.Nodup:=by rw [←S.pre];exact S.nd.sublist (vK _ _)
  refine ⟨u,rv,?_⟩;rcases S.par y (g7 hp) with k | k;·exact .inl ⟨k,Dx DA hp hu k⟩
  ·obtain ⟨c,e⟩:=Dz (n:=s.heap.objs.size+1) k
   refine .inr ⟨.inl k,c,e,?_⟩;have q:=x.cell y c e;rw [Dy DA hp hu (by show scope.names.lookup y≠_;rw [k];decide)] at q
   exact q
 ·exact e0.aw.fresh (Nat.le_of_lt (x.above y c (iJ h)))
 ·unfold start
  show _=N.length;rw [iK,a8,List.length_replicate];lia
theorem zH{name:Str}{params:Arguments}{body:List Stmt}{dV kV doc pm aR ct oc:Value}{an od:Option Addr}
  {eV:Array (Option Value)} {sp:Sp} (lk:K.lookup f=some ⟨oc,od,.func (PySem.W.fnOf name qual params body scope dV kV doc pm an aR ct),eV⟩) (eS:PySem.W.codeIn K aR qual=true) (S:a9 N ps scope)
  (len:∀vs H Q E,sp vs H Q E→vs.length=ps.length)
  (jh:∀(A:Around) (outer:List Env) (s:Shared) (H:Hp) (vs:List V) (Q:VK) (E:XK),cK k (A.deeper (envOfC qual scope s.heap.objs.size f aR))→sp vs H Q E→
   ∃t,dJ (ic CX P w K mg base N qual scope f aR A outer s H E) body t∧t {nx:=fun _ H'=>Q .aH H',rt:=Q} (start N vs) H) :
  aT P w K mg base CX (k+1) f (PySem.W.fnOf name qual params body scope dV kV doc pm an aR ct) ps sp:=by
 refine ⟨len,fun A outer s H args us vs Q E hr e0 hb r iS=>?_⟩;have hl:=len _ _ _ _ iS;have KX:K.In s.heap:=e0.mod.cF.keeps fun b o e=>(e0.bs b o e).1;have lim:s.heap.NoLimit:=e0.mod.nolimit.keeps fun b o e=>(e0.bs b o e).1;have J_:∀y∈ps.zip us,scope.names.lookup y.1=some .local∨(scope.names.lookup y.1=some .cell∧((cellsFrom (s.heap.objs.size+1) scope.names []).lookup y.1).isSome=true):=fun⟨n,v⟩ hy=>by
  rcases S.par n (List.of_mem_zip hy).1 with q | q;·exact .inl q
  ·exact .inr ⟨q,PySem.W.cellsFrom_some _ _ _ (.inl q)⟩
 refine codeAny_call_function hr.depth (KX _ _ lk) rfl S.co S.gen rfl (PySem.W.codeRec_of KX eS) (hb _ _ _ _ ?_);refine wpAny_newFunctionEnv_cells S.kind J_ fun env he s1 x=>?_;subst he;refine ⟨lim.keeps x.toInCall.keep,codeAny_func ?_⟩;obtain ⟨t,ht,hq⟩:=jh A outer s H vs Q E (hr.deeper _) iS;have I:Inv (ic CX P w K mg base N qual scope f aR A outer s H E) [] (start N vs) H s1:=J9 S hr.hd e0 hl r x;refine bF (ht [] s1 (start N vs) H _ I hq) (fun fl s' hs=>?_) fun e s' hs=>hs;have fin:∀{σ':St} {H':Hp} {v:V} {u:Value},Inv (ic CX P w K mg base N qual scope f aR A outer s H E) [] σ' H' s'→RelV v u→Q v H'→CE outer P w H s Q u s':=
  fun{σ' H' v u} J rv q=>⟨v,H',J.os,J.bare,J.base,J.aw,rv,q⟩
 cases fl with
 | ret u=>obtain ⟨v,σ',H',J,rv,q⟩:=hs;exact fin J rv q
 | next=>obtain ⟨σ',H',J,q⟩:=hs;exact fin (v:=V.aH) (u:=Value.none) J rfl q
 | brk=>obtain ⟨_,_,_,q⟩:=hs;exact False.elim q
 | cont=>obtain ⟨_,_,_,q⟩:=hs;exact False.elim q
section
variable {X:Cx} {x:Str} {p pos:Pos} {e:Expr} {es:List Expr} {t:TA} {id T:String} {r:List V→Hp→VK→Prop}
def wo(r:List V→Hp→VK→Prop)(t:TA):TE:=fun σ H Q=>t σ H fun vs H1=>r vs H1 Q
theorem cC(hc:gv X (.builtin id) r)(hg:Gl X x)(hm:X.mg x=none)(hv:bootBuiltins x=some (.builtin id))(ha:PA X (e::es) t)(hn:x ≠ "__name__":=by decide)(kL:(x == ("__debug__":Str))=false:=by decide)
  (he:starEach (e::es) X.env=(false,eval e X.env)::starEach es X.env:=by rfl) (iR:(backTo pos (starEach es X.env)).any (·.1)=false:=by rfl):PE X (.Call (.Name x p) (e::es) [] pos) (wo r t):=by
 intro pins s σ H Q I h;refine vJ (mW I hg hm hv ?_ hn kL);exact PyProof.Rows.callWith_builtin1 (aE (ha pos pins s σ H _ I h) fun us s1 ⟨vs,H1,I1,r1,q1⟩=>hc pins s1 σ H1 vs us Q I1 r1 q1) he iR
theorem ji(hc:gv X (.type T) r)(hg:Gl X x)(hm:X.mg x=none)(hv:bootBuiltins x=some (.type T))(ha:PA X (e::es) t)(hn:x ≠ "__name__":=by decide)(kL:(x == ("__debug__":Str))=false:=by decide)
  (he:starEach (e::es) X.env=(false,eval e X.env)::starEach es X.env:=by rfl) (iR:(backTo pos (starEach es X.env)).any (·.1)=false:=by rfl):PE X (.Call (.Name x p) (e::es) [] pos) (wo r t):=by
 intro pins s σ H Q I h;refine vJ (mW I hg hm hv ?_ hn kL);exact t6 (aE (ha pos pins s σ H _ I h) fun us s1 ⟨vs,H1,I1,r1,q1⟩=>hc pins s1 σ H1 vs us Q I1 r1 q1) he iR
end
end L2
namespace HT
open PySem PyProof.Rows
section
open PySem.SeqAt
open PySem.AutoSeq1 (wpAny_loadPart')
open PySem.MeetsSeq PySem.MeetsSeq2 PySem.MeetsSeq3
end
section
variable {prog:Program} {w:World} {A:Around} {E:aI} {s:Shared}
def fJ(n d:Nat):Option Int→Nat
 | none=>d
 | some v=>if v<0 then (v+(n:Int)).toNat else min v.toNat n
theorem Ka(n d:Nat):fJ n d none=d:=rfl
theorem Kb(n d k:Nat):fJ n d (some (k:Int))=min k n:=by
 show (if (k:Int)<0 then ((k:Int)+(n:Int)).toNat else min (k:Int).toNat n)=min k n
 rw [ah (by lia),fj]
end
end HT
namespace L2
open PySem PySem.Spec PyProof.Rows
abbrev TO:=St→Hp→(Option Int→Hp→Prop)→Prop
def PO(X:Cx)(e:Option Expr)(t:TO):Prop:=
 ∀(pins:aO) (s:Shared) (σ:St) (H:Hp) (Q:Option Int→Hp→Prop),Inv X pins σ H s→t σ H Q→
  wpAny (model X.prog X.w) X.A (evalPart e X.env) (fun u s'=>∃o H',Inv X pins σ H' s'∧IsPart u o∧Q o H') X.xe s
def Ke:TO:=fun _ H Q=>Q none H
def Ki(t:TE):TO:=fun σ H Q=>t σ H fun x H1=>∃i,x=.int i∧Q (some i) H1
theorem intsAre_of{ns:List Int}:∀{us:List Value},Vals (ns.map V.int) us→IntsAre us ns:=by
 induction ns with
 | nil=>intro us r;rw [List.map_nil] at r;cases r;exact .nil
 | cons n ns ih=>
  intro us r;rw [cQ] at r;cases r with
  | cons r1 r2=>obtain ⟨t,e⟩:=r1;subst e;exact .cons n t (ih r2)
section
variable {X:Cx} {e:Expr} {te:TE} {lo hi:Option Expr} {tl th:TO} {pos p2:Pos}
theorem Kj:PO X none Ke:=by intro pins s σ H Q I h;rw [evalPart_none];exact dG ⟨none,H,I,.none,h⟩
theorem Kk(h:PE X e te):PO X (some e) (Ki te):=by intro pins s σ H Q I hw;rw [evalPart_some];refine aE (h pins s σ H _ I hw) fun u s1 ⟨x,H1,I1,r1,q1⟩=>?_;obtain ⟨i,rfl,q⟩:=q1;obtain ⟨t,rfl⟩:=r1;exact ⟨some i,H1,I1,.int i t,q⟩
def DB(X:Cx)(r:V→Option Int→Option Int→Hp→VK→Prop):Prop:=
 ∀(pins:aO) (s:Shared) (σ:St) (H:Hp) (x:V) (v vl vu:Value) (lo hi:Option Int) (sl:Addr) (Q:VK),Inv X pins σ H s→RelV x v→s.heap.IsSliceOf sl vl vu .none→IsPart vl lo→IsPart vu hi→r x lo hi H Q→
  ∃T id,typeLookup (.type T) "__getitem__"=pure (some (.builtin id))∧s.TypeIs v T∧wpAny (model X.prog X.w) X.A (getItem v (.ref sl)) (EP X pins σ Q) X.xe s
def Kl(r:V→Option Int→Option Int→Hp→VK→Prop)(te:TE)(tl th:TO):TE:=fun σ H Q=>te σ H fun x H1=>tl σ H1 fun l H2=>th σ H2 fun u H3=>r x l u H3 Q
theorem Km{r:V→Option Int→Option Int→Hp→VK→Prop}(hr:DB X r)(he:PE X e te)(hl:PO X lo tl)(hu:PO X hi th):PE X (.Subscript e (.Slice lo hi none p2) pos) (Kl r te tl th):=by intro pins s σ H Q I h;refine Subscript_ (aE (he pins s σ H _ I h) fun v s1 ⟨x,H1,I1,r1,q1⟩=>?_);refine wpAny_Slice (aE (hl pins s1 σ H1 _ I1 q1) fun vl s2 ⟨l,H2,I2,pl,q2⟩=>aE (hu pins s2 σ H2 _ I2 q2) fun vu s3 ⟨u,H3,I3,pu,q3⟩=>?_);rw [evalPart_none];refine dG ?_;have I4:Inv X pins σ H3 {s3 with heap:=s3.heap.push {cls:=.type "slice",data:=.fields #[vl,vu,.none]}}:=I3.kept (t':=s3.toks) fun b ob q=>bT _ q;obtain ⟨T,id,hT,ht,hg⟩:=hr pins {s3 with heap:=s3.heap.push {cls:=.type "slice",data:=.fields #[vl,vu,.none]}} σ H3 x v vl vu l u s3.heap.objs.size Q I4 r1 (Heap.IsSliceOf.new ..) pl pu q3;show wpAny (model X.prog X.w) X.A (subscriptTail e (.Slice lo hi none p2) v (.ref s3.heap.objs.size)) (EP X pins σ Q) X.xe {s3 with heap:=s3.heap.push {cls:=.type "slice",data:=.fields #[vl,vu,.none]}};exact tail_any (ops:=[.ref s3.heap.objs.size,v]) ht hT hg (by with_unfolding_all rfl)
def ni(xs:List V)(lo hi:Option Int):List V:=(xs.drop (HT.fJ xs.length 0 lo)).take (HT.fJ xs.length xs.length hi-HT.fJ xs.length 0 lo)
theorem Kn(xs:List V)(lo hi:Option Int):(ni xs lo hi).length≤xs.length:=by unfold ni;rw [lK,List.length_drop];lia
end
def kM(n:Nat)(i:Int):Option Nat:=if 0≤i then (if i<n then some i.toNat else none) else if -(n:Int)≤i then some (i+n).toNat else none
def iT{α:Type}(xs:List α)(i:Int):Option α:=(kM xs.length i).bind fun j=>xs[j]?
variable {i:Int} {j:Nat}
theorem DC{n:Nat}(h:kM n i=some j):seqIndex? i n=some j∧j<n∧-(n:Int)≤i∧i<n:=by
 unfold kM at h;by_cases h0:0≤i
 ·rw [ao h0] at h
  by_cases h1:i<n
  ·rw [ao h1] at h
   have e:i.toNat=j:=Option.some.inj h;exact ⟨by rw [seqIndex_of h0 h1,e],by lia,by lia,h1⟩
  ·rw [ah h1] at h;cases h
 ·rw [ah h0] at h
  by_cases h1:-(n:Int)≤i
  ·rw [ao h1] at h
   have e:(i+n).toNat=j:=Option.some.inj h;exact ⟨by rw [seqIndex_neg (by lia) h1,e],by lia,h1,by lia⟩
  ·rw [ah h1] at h;cases h
theorem DD{α:Type}{xs:List α}{v:α}(h:iT xs i=some v):∃j,seqIndex? i xs.length=some j∧xs[j]?=some v∧j<xs.length∧-(xs.length:Int)≤i∧i<xs.length:=by
 unfold iT at h;cases e:kM xs.length i with
 | none=>rw [e] at h;cases h
 | some j=>rw [e] at h;obtain ⟨h1,h2,h3,h4⟩:=DC e;exact ⟨j,h1,h,h2,h3,h4⟩
theorem kN{α:Type}{xs:List α}{v:α}(h:xs[j]?=some v):iT xs (j:Int)=some v:=by
 have hj:j<xs.length:=(cq.mp h).1;have e:kM xs.length (j:Int)=some j:=by unfold kM;rw [ao (by lia),ao (by lia)];simp
 unfold iT;rw [e];exact h
def DE(b:Expr):Prop:=∀o i,subscripted b false o i=operate [o,i] (getItem o i)
def uF(X:Cx)(r:R2):Prop:=
 ∀(value slice:Expr) (pins:aO) (s:Shared) (σ:St) (H:Hp) (x y:V) (v u:Value) (Q:VK),Inv X pins σ H s→RelV x v→RelV y u→r x y H Q→
  subscripted slice false v u=operate [v,u] (getItem v u)→wpAny (model X.prog X.w) X.A (subscriptTail value slice v u) (EP X pins σ Q) X.xe s
def zI(X:Cx)(id:String)(r:V→List V→Hp→VK→Prop):Prop:=
 ∀(pins:aO) (s:Shared) (σ:St) (H:Hp) (x:V) (xs:List V) (v:Value) (us:List Value) (Q:VK),Inv X pins σ H s→RelV x v→Vals xs us→r x xs H Q→
  wpAny (model X.prog X.w) X.A (call (.builtin id) (v::us)) (EP X pins σ Q) X.xe s
section
variable {X:Cx} {a b:Expr} {ta tb:TE} {pos:Pos}
theorem DF{r:R2}(hr:uF X r)(ha:PE X a ta)(hb:PE X b tb)(hs:DE b):PE X (.Subscript a b pos) (m8 r ta tb):=by intro pins s σ H Q I h;exact Subscript_ (zA ha hb I h fun v u s2 x y H2 I2 rx ry q=>hr a b pins s2 σ H2 x y v u Q I2 rx ry q (hs _ _))
theorem aq{r:R2}(hr:uF X r)(ha:PE X a ta)(hb:PE X b tb)(hs:DE b:=by exact fun _ _=>rfl):PE X (.Subscript a b pos) (m8 r ta tb):=DF hr ha hb hs
def DG(K:ay):R2:=fun x y H Q=>∃p xs i v,x=.ref p∧y=.int i∧bC K H p xs∧iT xs i=some v∧Q v H
def Ko(K:ay):R2:=fun x y H Q=>∃p xs i v,x=.ref p∧y=.int i∧dW K H p xs∧iT xs i=some v∧Q v H
theorem a_:uF X (DG X.K):=by
 intro value slice pins s σ H x y v u Q I rx ry h hs;obtain ⟨p,xs,i,z,rfl,rfl,hq,he,q⟩:=h;cases rx;obtain ⟨t,rfl⟩:=ry;obtain ⟨ag,r,pl,hz⟩:=I.list hq;obtain ⟨j,h1,h2,h3,h4,h5⟩:=DD he;obtain ⟨w,ew,m4⟩:=r.get h2;have hl:=r.length;have hn:=wc;have fin:EP X pins σ Q w s:=⟨z,H,I,m4,q⟩;by_cases h0:0≤i
 ·have hj:i.toNat=j:=by rw [seqIndex_of h0 h5] at h1;exact Option.some.inj h1
  exact item_listR pl.isList h0 (by lia) (by rw [hj];simpa using ew) fin hs
 ·have hj:(i+(ag.toArray.size:Int)).toNat=j:=by
   rw [seqIndex_neg (by lia) h4] at h1
   rw [cW,←hl];exact Option.some.inj h1
  exact subscriptTail_builtinR (x:=w) pl.isList.typeIs slot_list_getitem.lookup
   (wpAny_getItem_list_neg (Q:=fun r s'=>r=w∧EP X pins σ Q r s') pl.isList (by lia) (by rw [cW] <;> lia) (by lia) (by rw [hj];simpa using ew) ⟨rfl,fin⟩) hs
theorem ba:uF X (Ko X.K):=by
 intro value slice pins s σ H x y v u Q I rx ry h hs;obtain ⟨p,xs,i,z,rfl,rfl,hq,he,q⟩:=h;cases rx;obtain ⟨t,rfl⟩:=ry;obtain ⟨ag,r,pl,hz⟩:=I.tuple hq;obtain ⟨j,h1,h2,h3,h4,h5⟩:=DD he;obtain ⟨w,ew,m4⟩:=r.get h2;have hl:=r.length;have hn:=wc;have fin:EP X pins σ Q w s:=⟨z,H,I,m4,q⟩
 exact subscriptTail_builtinR (x:=w) pl.typeIs slot_tuple_getitem.lookup
  (getItem_tuple (j:=j) (Q:=fun r s'=>r=w∧EP X pins σ Q r s') pl (by lia) (by lia) (by rw [cW,←hl];exact h1) (by simpa using ew) ⟨rfl,fin⟩) hs
theorem Kp(ag:List Value)(n j:Nat)(u:Value):Obj.mapSeq (·.setIfInBounds j u) {cls:=.type "list",data:=.seq ag.toArray n}={cls:=.type "list",data:=.seq (ag.set j u).toArray n}:=by simp [Obj.mapSeq]
theorem Inv.lst{pins:aO}{σ:St}{H:Hp}{s:Shared}{p:Addr}{xs:List V}(I:Inv X pins σ H s)(h:H p=some (.lst xs)) :
  ∃(ag:List Value) (n:Nat),Vals xs ag∧s.heap.get? p=some {cls:=.type "list",data:=.seq ag.toArray n}∧xs.length≤sizeLine:=by
 obtain ⟨z,ag,n,r,e⟩:=I.aw p _ h;exact ⟨ag,n,r,e,z⟩
variable {pins:aO} {σ:St} {H:Hp} {s:Shared}
theorem Inv.Kq{p:Addr}{xs ys:List V}{ag its':List Value}{n n':Nat}{f:Obj→Obj}(I:Inv X pins σ H s)(h:H p=some (.lst xs))
  (ho:s.heap.get? p=some {cls:=.type "list",data:=.seq ag.toArray n}) (hf:f {cls:=.type "list",data:=.seq ag.toArray n}={cls:=.type "list",data:=.seq its'.toArray n'}) (r:Vals ys its') (hz:ys.length≤sizeLine) (t:Nat) :
  Inv X pins σ (upd H p (.lst ys)) {s with heap:=s.heap.update p f,toks:=t}:=by
 have e:(s.heap.update p f).get? p=some {cls:=.type "list",data:=.seq its'.toArray n'}:=by rw [Heap.get?_update_self f ho (by rw [hf] <;> rfl),hf]
 refine I.write (x:=p) (e:=p) (by rw [h];trivial) (.inl rfl) (fun b u hb q=>(Heap.get?_update_other _ _ (Ne.symm hb)).trans q) ⟨_,e⟩ ?_
 exact ⟨hz,its',n',r,e⟩
def Kr:V→V→V→Hp→(Hp→Prop)→Prop:=fun o i v H Q=>∃p xs k j,o=.ref p∧i=.int k∧H p=some (.lst xs)∧kM xs.length k=some j∧Q (upd H p (.lst (xs.set j v)))
theorem set_list:C1 X Kr:=by
 intro pins s σ H o i v ov iv u Q I ro ri rv h;obtain ⟨p,xs,k,j,rfl,rfl,hp,hj,q⟩:=h;cases ro;obtain ⟨t,rfl⟩:=ri;obtain ⟨ag,n,r,ho,hz⟩:=I.lst hp;obtain ⟨h1,h2,h3,h4⟩:=DC hj;have hl:=r.length;have hn:=wc;have I':Inv X pins σ (upd H p (.lst (xs.set j v))) {s with heap:=s.heap.update p (Obj.mapSeq (·.setIfInBounds j u))}:=
  I.Kq hp ho (Kp ag n j u) (r.set rv j) (by rw [List.length_set];exact hz) s.toks
 by_cases h0:0≤k
 ·have hk:k.toNat=j:=by rw [seqIndex_of h0 h4] at h1;exact Option.some.inj h1
  exact PySem.W.ki_setAt ho h0 (by lia) (by rw [cW,←hl];exact h4) (by rw [hk];exact ⟨_,I',q⟩)
 ·have hk:(k+(ag.toArray.size:Int)).toNat=j:=by
   rw [seqIndex_neg (by lia) h3] at h1
   rw [cW,←hl];exact Option.some.inj h1
  exact PySem.W.ki_setBack ho (by lia) (by rw [cW,←hl];exact h3) (by lia) (by rw [hk];exact ⟨_,I',q⟩)
theorem Ks(lo hi:Option Int)(n:Nat):(sliceBounds lo hi none n).1=((HT.fJ n 0 lo:Nat):Int)∧(sliceBounds lo hi none n).2.1=((HT.fJ n n hi:Nat):Int)∧(sliceBounds lo hi none n).2.2=1:=by
 refine ⟨?_,?_,rfl⟩
 ·cases lo with
  | none=>simp [sliceBounds,HT.fJ]
  | some i=>
   simp only [sliceBounds,HT.fJ,Option.getD_none,show (1:Int)>0 by decide,if_true]
   by_cases h:i<0;·simp only [h,if_true] <;> lia
   ·simp only [h,if_false] <;> lia
 ·cases hi with
  | none=>simp [sliceBounds,HT.fJ]
  | some i=>
   simp only [sliceBounds,HT.fJ,Option.getD_none,show (1:Int)>0 by decide,if_true]
   by_cases h:i<0;·simp only [h,if_true] <;> lia
   ·simp only [h,if_false] <;> lia
theorem Kt(ag:List Value)(lo hi:Option Int):slicePick ag.toArray lo hi none=((ag.drop (HT.fJ ag.length 0 lo)).take (HT.fJ ag.length ag.length hi-HT.fJ ag.length 0 lo)).toArray:=by obtain ⟨h1,h2,h3⟩:=Ks lo hi ag.toArray.size;unfold slicePick;rw [h1,h2,h3];simp only [sliceRange_one,pick_run,cW] <;> rfl
def Ku(K:ay):V→Option Int→Option Int→Hp→VK→Prop:=fun x lo hi H Q=>∃a xs,x=.ref a∧bC K H a xs∧∀p,H p=none→Q (.ref p) (upd H p (.lst (ni xs lo hi)))
theorem Kv:DB X (Ku X.K):=by
 intro pins s σ H x v vl vu lo hi sl Q I rx hs pl pu h;obtain ⟨a,xs,rfl,hx,q⟩:=h;cases rx;obtain ⟨ag,r,ht,hz⟩:=I.list hx;have hlen:=r.length;refine ⟨"list",_,slot_list_getitem.lookup,ht.isList.typeIs,?_⟩;refine wpAny_getItem_list_slice ht.isList hs pl pu .none (by simp) ?_ (by rw [cW] <;> lia)
 rw [Kt,←hlen];refine ⟨.ref s.heap.objs.size,_,I.laid (t':=s.toks) (o:=.lst (ni xs lo hi)) (fun b ob q=>bT _ q) (aD _) ?_,rfl,q _ (I.aw.fresh (aD _))⟩;exact ⟨aV (Kn xs lo hi) hz,_,0,(r.drop (HT.fJ xs.length 0 lo)).take (HT.fJ xs.length xs.length hi-HT.fJ xs.length 0 lo),dS _ rfl⟩
def nk:V→Bool
 | .aH=>true
 | .bl _=>true
 | .int _=>true
 | .str _=>true
 | _=>false
def kP:V→V→Bool
 | .aH,.aH=>true
 | .bl a,.bl b=>a == b
 | .bl a,.int b=>(if a then 1 else 0) == b
 | .int a,.bl b=>a == (if b then 1 else 0)
 | .int a,.int b=>a == b
 | .str a,.str b=>a == b
 | _,_=>false
variable {x:V} {v:Value}
theorem DH{A:Around}{y:V}{u:Value}(ry:RelV y u)(rx:RelV x v)(fy:nk y=true)(fx:nk x=true):SeqAt.EqAt A s u v (kP y x):=by
 cases y with
 | aH=>
  cases ry;cases x with
  | aH=>cases rx;exact SeqAt.EqAt.same _
  | bl b=>cases rx;exact SeqAt.EqAt.none_bool b
  | int b=>obtain ⟨t,rfl⟩:=rx;exact SeqAt.EqAt.none_int b t
  | str b=>obtain ⟨t,rfl⟩:=rx;exact SeqAt.EqAt.none_str b t
  | _=>exact absurd (show false=true from fx) cU
 | bl a=>
  cases ry;cases x with
  | aH=>cases rx;exact SeqAt.EqAt.bool_none a
  | bl b=>cases rx;exact SeqAt.EqAt.bool_bool a b
  | int b=>obtain ⟨t,rfl⟩:=rx;exact SeqAt.EqAt.bool_int a b t
  | str b=>obtain ⟨t,rfl⟩:=rx;exact SeqAt.EqAt.bool_str a b t
  | _=>exact absurd (show false=true from fx) cU
 | int a=>
  obtain ⟨t',rfl⟩:=ry;cases x with
  | aH=>cases rx;exact SeqAt.EqAt.int_none a t'
  | bl b=>cases rx;exact SeqAt.EqAt.int_bool a t' b
  | int b=>obtain ⟨t,rfl⟩:=rx;exact SeqAt.EqAt.int_int a t' b t
  | str b=>obtain ⟨t,rfl⟩:=rx;exact SeqAt.EqAt.int_str a t' b t
  | _=>exact absurd (show false=true from fx) cU
 | str a=>
  obtain ⟨t',rfl⟩:=ry;cases x with
  | aH=>cases rx;exact SeqAt.EqAt.str_none a t'
  | bl b=>cases rx;exact SeqAt.EqAt.str_bool a t' b
  | int b=>obtain ⟨t,rfl⟩:=rx;exact SeqAt.EqAt.str_int a t' b t
  | str b=>obtain ⟨t,rfl⟩:=rx;exact SeqAt.EqAt.str_str a t' b t
  | _=>exact absurd (show false=true from fx) cU
 | _=>exact absurd (show false=true from fy) cU
theorem eW:gv X (.builtin "len") (fun xs H Q=>∃p ys,xs=[.ref p]∧(bC X.K H p ys∨dW X.K H p ys)∧Q (.int ys.length) H):=by
 intro pins s σ H xs us Q I r h;obtain ⟨p,ys,rfl,hq,q⟩:=h;obtain ⟨u,rfl,rx⟩:=vals1 r;cases rx;have hn:=wc;rcases hq with hq | hq
 ·obtain ⟨ag,r',pl,hz⟩:=I.list hq
  have hlen:=r'.length;exact Calls.call_len_list pl.isList (by simp only [cW] <;> lia) ⟨.int ys.length,H,I.tok _,⟨s.toks+1,by rw [cW,hlen]⟩,q⟩
 ·obtain ⟨ag,r',pl,hz⟩:=I.tuple hq
  have hlen:=r'.length;exact len_tuple pl (by simp only [cW] <;> lia) ⟨.int ys.length,H,I.tok _,⟨s.toks+1,by rw [cW,hlen]⟩,q⟩
theorem wq:gv X (.type "list") (fun xs H Q=>∃p ys,xs=[.ref p]∧(bC X.K H p ys∨dW X.K H p ys)∧∀l,H l=none→Q (.ref l) (upd H l (.lst ys))):=by
 intro pins s σ H xs us Q I r h;obtain ⟨p,ys,rfl,hq,q⟩:=h;obtain ⟨u,rfl,rx⟩:=vals1 r;cases rx
 have fin:∀(ag:List Value),Vals ys ag→ys.length≤sizeLine→∀(h':Heap) (c':Nat),(∀b o',s.heap.get? b=some o'→h'.get? b=some o')→
   h'.get? s.heap.objs.size=some {cls:=.type "list",dict:=none,data:=.seq ag.toArray c',slots:=#[]}→EP X pins σ Q (.ref s.heap.objs.size) {s with heap:=h'}:=fun ag r' hz h' c' kp e=>
  ⟨.ref s.heap.objs.size,_,I.laid (t':=s.toks) kp (aD _) (show cz X.prog X.w _ h' _ (.lst ys) from ⟨hz,ag,c',r',e⟩),rfl,q _ (I.aw.fresh (aD _))⟩
 rcases hq with hq | hq
 ·obtain ⟨ag,r',pl,hz⟩:=I.list hq
  have hlen:=r'.length;obtain ⟨o,ho,hc,n,hd⟩:=pl.isList;exact call_list_seq p (.inl rfl) ho hc hd (fun h' c' kp e=>fin ag r' hz h' c' kp e) (by simp only [cW] <;> lia)
 ·obtain ⟨ag,r',pl,hz⟩:=I.tuple hq
  have hlen:=r'.length;obtain ⟨o,ho,hc,n,hd⟩:=pl;exact call_list_seq p (.inr rfl) ho hc hd (fun h' c' kp e=>fin ag r' hz h' c' kp e) (by simp only [cW] <;> lia)
theorem Kw:gv X (.type "tuple") (fun xs H Q=>∃p ys,xs=[.ref p]∧((bC X.K H p ys∧∀l,H l=none→Q (.ref l) (upd H l (.tup ys)))∨(dW X.K H p ys∧Q (.ref p) H))):=by
 intro pins s σ H xs us Q I r h;obtain ⟨p,ys,rfl,h⟩:=h;obtain ⟨u,rfl,rx⟩:=vals1 r;cases rx;rcases h with ⟨hq,q⟩ | ⟨hq,q⟩
 ·obtain ⟨ag,r',pl,hz⟩:=I.list hq
  have hlen:=r'.length;refine call_tuple_list pl.isList (fun h' kp=>?_) (by simp only [cW] <;> lia)
  have I1:Inv X pins σ H {s with heap:=h'}:=I.kept (t':=s.toks) kp;have I2:Inv X pins σ (upd H h'.objs.size (.tup ys)) {s with heap:=h'.push {cls:=.type "tuple",data:=.seq ag.toArray}}:=
   I1.laid (t':=s.toks) (fun b o e=>bT _ e) (aD _) (show cz X.prog X.w _ _ _ (.tup ys) from ⟨hz,ag,r',IsTup.new _ _⟩)
  exact ⟨.ref h'.objs.size,_,I2,rfl,q _ (I1.aw.fresh (aD _))⟩
 ·obtain ⟨ag,r',pl,hz⟩:=I.tuple hq
  exact call_tuple_same pl ⟨.ref p,H,I,rfl,q⟩
def zJ(K:ay)(T:String)(x:V)(H:Hp):Prop:=match x with
 | .str _=>T="str"
 | .int _=>T="int"
 | .ref p=>(T="list"∧∃xs,bC K H p xs)∨(T="tuple"∧∃o,K.lookup p=some o∧o.cls=.type "tuple"∧o.dict=none) ∨
   (T="dict"∧((∃aj,H p=some (.dK aj))∨∃aj,H p=some (.dT aj)))∨(T="set"∧∃S n,H p=some (.set S n))
 | _=>False
theorem DI{T:String}(I:Inv X pins σ H s)(r:RelV x v)(ty:zJ X.K T x H) :
  s.TypeIs v T∧∀a,v=.ref a→∃ob,s.heap.get? a=some ob∧ob.dict=none:=by
 cases x with
 | str z=>obtain ⟨t,rfl⟩:=r;cases (show T="str" from ty);exact ⟨typeIs_str s z t,fun _ e=>nomatch e⟩
 | int i=>obtain ⟨t,rfl⟩:=r;cases (show T="int" from ty);exact ⟨typeIs_int s i t,fun _ e=>nomatch e⟩
 | ref p=>
  cases r;rcases ty with ⟨rfl,xs,hq⟩ | ⟨rfl,o,hk,hc,hd⟩ | ⟨rfl,hk⟩ | ⟨rfl,S,n,hk⟩
  ·obtain ⟨ag,_,pl,_⟩:=I.list hq
   refine ⟨pl.isList.typeIs,fun a e=>?_⟩;cases e;obtain ⟨o,n,e,c,hd,_⟩:=pl;exact ⟨o,e,hd⟩
  ·refine ⟨⟨o,I.dc p o hk,hc⟩,fun a e=>?_⟩
   cases e;exact ⟨o,I.dc _ o hk,hd⟩
  ·have z:∃o,s.heap.get? p=some o∧o.ExactDict:=by
    rcases hk with ⟨aj,hk⟩ | ⟨aj,hk⟩
    ·obtain ⟨_,_,_,_,o,_,_,e,ex,_⟩:=I.aw p _ hk
     exact ⟨o,e,ex⟩
    ·obtain ⟨_,_,_,_,o,_,_,e,ex,_⟩:=I.aw p _ hk
     exact ⟨o,e,ex⟩
   obtain ⟨o,e,ex⟩:=z;refine ⟨⟨o,e,ex.1⟩,fun a e2=>?_⟩;cases e2;exact ⟨o,e,ex.2.1⟩
  ·obtain ⟨o,_,_,_,e,ex,_⟩:=I.aw p _ hk
   refine ⟨⟨o,e,ex.1⟩,fun a e2=>?_⟩;cases e2;exact ⟨o,e,ex.2.1⟩
 | _=>exact False.elim ty
def Kx(K:ay)(T:String)(r:V→List V→Hp→VK→Prop)(to:TE):TE:=fun σ H Q=>to σ H fun x H1=>zJ K T x H1∧r x [] H1 Q
def Ky(K:ay)(T:String)(r:V→List V→Hp→VK→Prop)(to:TE)(t:TA):TE:=fun σ H Q=>to σ H fun x H1=>zJ K T x H1∧t σ H1 fun xs H2=>r x xs H2 Q
variable {o e:Expr} {es:List Expr} {to:TE} {t:TA} {name:Str} {apos gz:Pos} {T id:String} {r:V→List V→Hp→VK→Prop}
theorem Kz(pa:PlainAttrs T)(slot:Slot T name id)(zK:typeOf (.builtin id)=pure (.type "method_descriptor"))(hm:zI X id r)(ho:PE X o to)
  (zL:attributeBase o name X.env (eval o X.env)=eval o X.env:=by rfl) (zM:(apos.endLine == gz.line)=true:=by rfl):PE X (.Call (.Attribute o name apos) [] [] gz) (Kx X.K T r to):=by
 intro pins s σ H Q I h;refine wpAny_Call_method0_late zL zM (aE (ho pins s σ H _ I h) fun v s1 ⟨x,H1,I1,r1,ty,q1⟩=>?_);obtain ⟨h1,h2⟩:=DI I1 r1 ty;exact ⟨T,id,pa,slot,zK,h1,h2,Calls.callWith_builtin rfl (PySem.evalArgs_none (hm pins s1 σ H1 x [] v [] Q I1 r1 .nil q1))⟩
theorem zN(pa:PlainAttrs T)(slot:Slot T name id)(zK:typeOf (.builtin id)=pure (.type "method_descriptor"))(hm:zI X id r)(ho:PE X o to)(ha:PA X (e::es) t)
  (zL:attributeBase o name X.env (eval o X.env)=eval o X.env:=by rfl)
  (KA:((backTo gz (starEach (e::es) X.env)).all (fun x=>!x.1) && (backToKw gz (keywordEach [] X.env)).all (fun x=>x.1.isSome)
   && decide ((e::es).length+([]:List Keyword).length+(if ([]:List Keyword).isEmpty then 0 else 1)<30))=true:=by rfl)
  (zM:(apos.endLine == gz.line)=true:=by rfl) (hs:starEach (e::es) X.env=(false,eval e X.env)::starEach es X.env:=by rfl) (KC:(backTo gz (starEach es X.env)).any (·.1)=false:=by rfl) :
  PE X (.Call (.Attribute o name apos) (e::es) [] gz) (Ky X.K T r to t):=by
 intro pins s σ H Q I h;refine wpAny_Call_method_late zL KA zM rfl (aE (ho pins s σ H _ I h) fun v s1 ⟨x,H1,I1,r1,ty,q1⟩=>?_);obtain ⟨h1,h2⟩:=DI I1 r1 ty;refine ⟨T,id,pa,slot,zK,h1,h2,?_⟩;have hA:=ha gz pins s1 σ H1 _ I1 q1;rw [hs] at hA ⊢;refine Calls.callWith_builtin (by show (false || (backTo gz (starEach es X.env)).any (·.1))=false;rw [KC] <;> rfl) (Calls.evalArgs_plain ?_)
 exact aE hA fun us s2 ⟨vs,H2,I2,r2,q2⟩=>hm pins s2 σ H2 x vs v us Q I2 r1 r2 q2
end
def zO(X:Cx)(id:String)(r:V→List V→Hp→VK→Prop):Prop:=
 ∀(pins:aO) (s:Shared) (σ:St) (H:Hp) (x:V) (xs:List V) (v:Value) (us:List Value) (Q:VK),Inv X pins σ H s→RelV x v→Vals xs us→r x xs H Q→
  wpAny (model X.prog X.w) X.A (call (.builtin id) (v::us)) (EP X pins σ Q) X.xe s
theorem Vals.one:∀{x:V} {us:List Value},Vals [x] us→∃u,us=[u]∧RelV x u
 | _,_,.cons r .nil=>⟨_,rfl,r⟩
theorem Vals.zero:∀{us:List Value},Vals [] us→us=[]
 | _,.nil=>rfl
theorem Vals.eraseIdx:∀{xs:List V} {us:List Value} (i:Nat),Vals xs us→Vals (xs.eraseIdx i) (us.eraseIdx i)
 | _,_,_,.nil=>.nil
 | _,_,0,.cons _ t=>t
 | _,_,i+1,.cons r t=>.cons r (Vals.eraseIdx i t)
theorem Vals.rep{xs:List V}{us:List Value}(h:Vals xs us):∀k:Nat,Vals (List.replicate k xs).flatten (List.replicate k us).flatten
 | 0=>.nil
 | k+1=>by rw [pZ,pZ,t9,t9];exact Vals.append h (Vals.rep h k)
theorem DJ{α:Type}:∀(l:List α) (i:Nat),(l.eraseIdx i).length≤l.length
 | [],_=>aD _
 | _::_,0=>jC _
 | _::r,i+1=>Nat.succ_le_succ (DJ r i)
theorem foldl_rep(ag:List Value):∀(k:Nat) (acc:List Value),
  List.foldl (fun x1 x2=>x1++x2) acc.toArray (List.replicate k ag.toArray)=(acc++(List.replicate k ag).flatten).toArray
 | 0,acc=>by simp
 | k+1,acc=>by
  have e:acc.toArray++ag.toArray=(acc++ag).toArray:=by simp
  have e2:(acc++ag)++(List.replicate k ag).flatten=acc++(List.replicate (k+1) ag).flatten:=by rw [pZ,t9,List.append_assoc]
  rw [←e2,←foldl_rep ag k (acc++ag),←e,pZ,List.foldl_cons]
section
variable {X:Cx} {pins:aO} {σ:St} {H:Hp} {s:Shared} {l b:Addr} {xs ys zs:List V}
variable {ag:List Value} {n t':Nat}
theorem Inv.zP{its':List Value}{f:Array Value→Array Value}(I:Inv X pins σ H s)(hH:H l=some (.lst xs))
  (e:s.heap.get? l=some {cls:=.type "list",data:=.seq ag.toArray n}) (hf:f ag.toArray=its'.toArray) (hv:Vals ys its') (hz:ys.length≤sizeLine) :
  Inv X pins σ (upd H l (.lst ys)) {s with heap:=s.heap.update l (Obj.mapSeq f),toks:=t'}:=by
 have q:=PySem.IsL.update e f;rw [hf] at q;refine I.write (x:=l) (e:=l) (by rw [hH];exact trivial) (.inl rfl) (fun b' u hb hu=>(Heap.get?_update_other s.heap (Obj.mapSeq f) (Ne.symm hb)).trans hu) ⟨_,q⟩ ?_
 exact ⟨hz,its',_,hv,q⟩
theorem Inv.KD(I:Inv X pins σ H s)(hv:Vals ys ag)(hz:ys.length≤sizeLine) :
  Inv X pins σ (upd H s.heap.objs.size (.lst ys)) {s with heap:=s.heap.push {cls:=.type "list",data:=.seq ag.toArray},toks:=t'}:=
 I.laid (fun _ _ q=>bT _ q) (aD _) ⟨hz,ag,0,hv,dS _ rfl⟩
theorem Inv.fresh(I:Inv X pins σ H s):H s.heap.objs.size=none:=I.aw.fresh (aD _)
theorem Inv.uH(I:Inv X pins σ H s)(hH:H l=some (.lst xs)):xs.length≤sizeLine∧∃(ag:List Value) (n:Nat),Vals xs ag∧xs.length=ag.length∧s.heap.get? l=some {cls:=.type "list",data:=.seq ag.toArray n}:=by obtain ⟨z,ag,n,r,e⟩:=I.aw l _ hH;exact ⟨z,ag,n,r,r.length,e⟩
theorem DK(h:n≤sizeLine):Builtin.List.listTooLong n=false:=by unfold Builtin.List.listTooLong;exact dA (by lia)
end
section
variable {X:Cx}
def KG:V→List V→Hp→VK→Prop:=fun x vs H Q=>∃l xs y,x=.ref l∧vs=[y]∧H l=some (.lst xs)∧xs.length<sizeLine∧Q .aH (upd H l (.lst (xs++[y])))
theorem qp:zO X "list.append" KG:=by
 intro pins s σ H x vs v us Q I rx rv h;obtain ⟨l,xs,y,rfl,rfl,hH,hz,q⟩:=h;cases rx;obtain ⟨u,rfl,ru⟩:=rv.one;obtain ⟨z,ag,n,r,hl,e⟩:=I.uH hH;refine call_meets F.slot_list_append ⟨_,e,rfl⟩ F.entry_list_append (F.args_list_append_2 _ _) (PySem.list_append l ag.toArray n u (by rw [cW];lia)) ⟨e,?_⟩
 refine ⟨.aH,_,I.zP (its':=ag++[u]) hH e (by simp) (r.append (.cons ru .nil)) ?_,rfl,q⟩
 rw [iK,List.length_singleton];lia
def KH:V→List V→Hp→VK→Prop:=fun x vs H Q=>∃l b xs zs,x=.ref l∧vs=[.ref b]∧H l=some (.lst xs)∧H b=some (.lst zs)∧xs.length+zs.length≤sizeLine∧Q .aH (upd H l (.lst (xs++zs)))
theorem KI:zO X "list.extend" KH:=by
 intro pins s σ H x vs v us Q I rx rv h;obtain ⟨l,b,xs,zs,rfl,rfl,hH,hB,hz,q⟩:=h;cases rx;obtain ⟨u,rfl,ru⟩:=rv.one;cases ru;obtain ⟨z,ag,n,r,hl,e⟩:=I.uH hH;obtain ⟨z2,wx,n2,r2,T1,e2⟩:=I.uH hB;have hsz:ag.toArray.size+wx.toArray.size≤sizeLine:=by rw [cW,cW];lia
 have zQ:¬(!ag.toArray.isEmpty && Builtin.List.listTooLong (ag.toArray.size+wx.toArray.size))=true:=by rw [DK hsz,Bool.and_false];exact cU
 refine call_meets F.slot_list_extend ⟨_,e,rfl⟩ F.entry_list_extend (F.args_list_extend_2 _ _)
  (AutoSeq1.list_extend_list_list_0 l ag.toArray n b wx.toArray n2 zQ (by rw [cW];lia) (by lia)) ⟨e,e2,?_⟩
 refine ⟨.aH,_,I.zP (its':=ag++wx) hH e (by simp) (r.append r2) ?_,rfl,q⟩
 rw [iK];lia
def KJ:V→List V→Hp→VK→Prop:=fun x vs H Q=>∃l xs i k y,x=.ref l∧vs=[.int i]∧H l=some (.lst xs)∧-(2 ^ 63)≤i∧i<2 ^ 63∧seqIndex? i xs.length=some k∧xs[k]?=some y∧Q y (upd H l (.lst (xs.eraseIdx k)))
theorem KN:zO X "list.pop" KJ:=by
 intro pins s σ H x vs v us Q I rx rv h;obtain ⟨l,xs,i,k,y,rfl,rfl,hH,h1,h2,hk,hy,q⟩:=h;cases rx;obtain ⟨u,rfl,ru⟩:=rv.one;obtain ⟨t,rfl⟩:=ru;obtain ⟨z,ag,n,r,hl,e⟩:=I.uH hH;obtain ⟨w,hw,m4⟩:=r.get hy
 refine call_meets F.slot_list_pop ⟨_,e,rfl⟩ F.entry_list_pop (F.args_list_pop_2 _ _)
  (MeetsSeq.list_pop_at l ag.toArray n i t k w (fitsIndex_both h1 h2) (by rw [cW,←hl];exact hk) (by rw [←Array.getElem?_toList];exact hw) (by rw [cW];lia)) ⟨e,?_⟩
 refine ⟨y,_,I.zP (its':=ag.eraseIdx k) hH e ?_ (r.eraseIdx k) ?_,m4,q⟩
 ·show ag.toArray.eraseIdxIfInBounds k=(ag.eraseIdx k).toArray
  rw [List.eraseIdxIfInBounds_toArray]
 ·have:=DJ xs k
  lia
def KO:R2:=fun x y H Q=>∃l k xs,x=.ref l∧y=.int k∧H l=some (.lst xs)∧-(2 ^ 63)≤k∧k<2 ^ 63∧xs.length*k.toNat≤sizeLine ∧
 ∀p,H p=none→Q (.ref p) (upd H p (.lst (List.replicate k.toNat xs).flatten))
theorem len_rep{α:Type}(xs:List α)(k:Nat):(List.replicate k xs).flatten.length=k*xs.length:=by
 induction k with
 | zero=>simp
 | succ k ih=>rw [pZ,t9,iK,ih,Nat.succ_mul,Nat.add_comm]
theorem DL:cg X (binaryOp .Mult) KO:=by
 intro pins s σ H x y v u Q I rx ry h;obtain ⟨l,k,xs,rfl,rfl,hH,h1,h2,hz,q⟩:=h;cases rx;obtain ⟨t,rfl⟩:=ry;obtain ⟨z,ag,n,r,hl,e⟩:=I.uH hH;have hlen:ag.toArray.size*k.toNat≤sizeLine:=by rw [cW,←hl];exact hz
 have KP:¬ag.toArray.size*k.toNat>(2 ^ 63-1) / 8:=by
  have:(sizeLine:Nat)≤(2 ^ 63-1) / 8:=by decide
  lia
 have KQ:¬(!Builtin.List.listFitsIndex k)=true:=by rw [fitsIndex_both h1 h2];exact cU
 have zQ:¬Builtin.List.listTooLong (ag.toArray.size*k.toNat)=true:=by rw [DK hlen];exact cU
 have KR:List.foldl (fun x1 x2=>x1++x2) #[] (List.replicate (if ag.toArray.isEmpty=true then 0 else k.toNat) ag.toArray)=(List.replicate k.toNat ag).flatten.toArray:=by
  have f0:∀m:Nat,List.foldl (fun x1 x2=>x1++x2) #[] (List.replicate m ag.toArray)=(List.replicate m ag).flatten.toArray:=fun m=>by have:=foldl_rep ag m [];rw [List.nil_append] at this;exact this
  rw [f0];cases ag with
  | nil=>simp
  | cons a r'=>rw [ah (by simp)]
 refine wpAny_binaryOp_repeat_ref (T:="list") (U:="int") (by decide) ⟨_,e,rfl⟩ (fun s'=>typeIs_int s' k t) noFill_list_mul F.fills_int_mul F.slot_int_rmul repeat_list F.slot_int_index.lookup
  (call_meets F.slot_int_rmul (typeIs_int s k t) F.entry_int_rmul (F.args_int_rmul_2 _ _) (int___rmul___int_list k t l ag.toArray n)
   ⟨e,rfl,⟨_,e,rfl⟩,call_meets F.slot_list_mul ⟨_,e,rfl⟩ F.entry_list_mul (F.args_list_mul_2 _ _) (AutoListH.list___mul___list_int_3 l ag.toArray n k t KQ KP zQ) ⟨e,?_⟩⟩)
 rw [KR];exact ⟨.ref _,_,I.KD (t':=s.toks) (r.rep k.toNat) (by rw [len_rep,Nat.mul_comm];exact hz),rfl,q _ I.fresh⟩
end
section
variable {prog:Program} {w:World} {A:Around} {E:aI} {s:Shared}
end
section
variable {X:Cx}
end
end L2
namespace Att
open PySem PySem.W PySem.Calls PyProof.Rows
variable {P:Params} {h:Heap}
theorem KS:∀(ns:List Int) (vs:List Value),WellAll P h vs (ns.map WData.int)→IntsAre vs ns:=by
 intro ns
 induction ns with
 | nil=>intro vs w;rw [List.map_nil] at w;cases w;exact .nil
 | cons n ns ih=>
  intro vs w;rw [cQ] at w;cases w with
  | cons a b=>cases a;exact .cons _ _ (ih _ b)
variable {l:OpenLaw} {n:Nat}
theorem KU(hn:l.most=some n){args:List WData}{vals:List Value}
  (wy:l.row.toRowW.claim.pre args=true) (zR:WellAll P h vals args) :
  ∃a vs ns,vals=[Value.ref a]∧args=[WData.list (ns.map WData.int)]∧h.get? a=some {cls:=.type "list",data:=.seq vs.toArray}∧IntsAre vs ns∧ns.length≤n:=by
 have KW:WShape.hasAll [] args [.list .int]=true:=(pre_splitW wy).1;have hc:l.pre.holds [] {args:=args}=true:=(pre_splitW wy).2;obtain ⟨d,r,rfl,h1,h2⟩:=hasAllW_cons KW;obtain rfl:=hasAllW_nil h2;obtain ⟨xs,rfl,h3⟩:=hasW_list h1;obtain ⟨ns,rfl⟩:=items_int h3;have hlen:ns.length≤n:=by
  unfold OpenLaw.pre at hc;have h4:(WTm.not (.lt (.lit (.int (n:Int))) (.len (.arg 0)))).holds [] {args:=[.list (ns.map .int)]}=true:=by have h4:=(holds_andW hc).1;rw [hn] at h4;exact h4
  have h5:=condW_of h4 (w_not (w_lt w_lit (w_len_list (w_arg rfl))));rw [a8] at h5;refine Nat.le_of_not_lt fun q=>?_;have q':(n:Int)<((ns.length:Nat):Int):=by lia
  first
   | (rw [cX q'] at h5;exact absurd h5 (by decide))
   | (simp at h5;lia)
 cases zR with
 | cons w1 w2=>
  cases w2;cases w1 with
  | list ho KY=>exact ⟨_,_,ns,rfl,rfl,ho,KS ns _ KY,hlen⟩
theorem KZ(l:OpenLaw)(args:List WData):l.row.toRowW.claim.post args (.bool true) args=true:=
 postW_of (r:=l.row.toRowW) (X:=(true == true))
  (show WShape.has [] (.bool true) .bool=true by first | rfl | decide | simp [WShape.has,WShape.arms,WShape.armsAll])
  (show (WTm.eq .res (.lit (.bool true))).value [] {args:=args,res:=some (.bool true),after:=args}=some (.bool (true == true)) from w_eq_bool (w_res rfl) w_lit) rfl
theorem K6{q:Program}{loose:List Str}{XP:(Str→Option Value)→Heap→Prop}{YP:World→Heap→Prop}{d:DefRec}
  (hn:l.most=some n) (uI:d.params.defaults=[])
  (call:∀(w:World) (s₀ s₁:Shared) (mg mb:cJ) (fa:Addr) (o:Obj) (pm cd doc:Value) (a:Addr) (vs:List Value) (ns:List Int),
   Ground q loose [] XP w s₀ mg mb s₁.heap→YP w s₁.heap→
   s₁.heap.get? fa=some o→o.data=.func (docDef d.name d.params d.body d.scope pm cd doc)→s₁.heap.CodeRec cd d.name→mg d.name=some (.ref fa)→
   s₁.heap.get? a=some {cls:=.type "list",data:=.seq vs.toArray}→IntsAre vs ns→ns.length≤n→s₁.gens = #[]→
   codeAny (model l.prog w) callerA (.call (.ref fa) ⟨[.ref a],[]⟩) (fun r s'=>r=.ok (.ret (.bool true))∧OldK s₁.heap s'.heap∧s'.os=s₁.os∧AllBare s'.gens) s₁) :
  WalkO q loose XP YP l.row.toRowW d [] (fun f vs=>PySem.call f vs):=by
 intro w s₀ s₁ mg mb G Y fa o pm cd doc dV kV ho hd eS hD uJ hg args vals as wy T2 U2 zR Xi;obtain rfl:dV=.none:=Dflts.none hD uI;obtain rfl:kV=.none:=Dflts.noKw hD;obtain ⟨a,vs,ns,rfl,rfl,zS,hints,hlen⟩:=KU hn wy zR;refine enter_call (codeAny_mono (call w s₀ s₁ mg mb fa o pm cd doc a vs ns G Y ho (fd_plain hd) eS uJ zS hints hlen hg) fun r s' hq=>?_);obtain ⟨rfl,h2,h3,h4⟩:=hq;exact ⟨.inl ⟨.bool true,.bool true,[],rfl,fun _=>rfl,.bool true,KZ l _,fun _=>⟨List.Pairwise.nil,fun _ hm=>(nomatch hm)⟩⟩,h2,h3,h4⟩
section
variable {prog:Program} {w:World} {A:Around} {E:aI} {s:Shared} {K:Frag}
end
end Att
namespace L2
open PySem PySem.Spec PyProof.Rows
theorem DM:∀{vs:List Value} {ns:List Int},IntsAre vs ns→Vals (ns.map V.int) vs
 | _,_,.nil=>.nil
 | _,_,.cons n t h=>.cons ⟨t,rfl⟩ (DM h)
def zT(H:Hp):Prop:=∀b,H b=none∨∃o xs,H b=some (.cb o (.lst xs))
variable {K:ay} {k:Nat} {a:Addr} {x:Str}
theorem K7{P:Program}{w:World}{mg mb:cJ}{CX:gw}{fa:Addr}{fd:FuncData}{sp:Sp}{s₁:Shared}{vs:List Value}{ns:List Int}
  (KX:K.In s₁.heap) (DN:s₁.heap.Ns mainGlobals mg) (hb:s₁.heap.Ns builtinsNs mb) (K8:∀x:Str,x ≠ "__name__"→mb x=bootBuiltins x) (K9:s₁.heap.NoLimit) (hg:s₁.gens = #[])
  (ha:s₁.heap.get? a=some {cls:=.type "list",data:=.seq vs.toArray}) (hi:IntsAre vs ns) (hl:ns.length≤sizeLine) (hr:cK k callerA)
  (F:∀base:Heap,K.In base→base.Ns mainGlobals mg→aT P w K mg base CX k fa fd [x] sp) (K_:∀(s:Shared) (u:Value),BindsTo s fd ⟨[u],[]⟩ [(x,u)])
  (iS:∀H:Hp,zT H→bC K H a (ns.map V.int)→sp [.ref a] H (fun v _=>v=.bl true) fun _ _ _=>False)
  (zU:∀H e s',CX [] H s₁ (fun _ _ _=>False) e s'→False) :
  codeAny (model P w) callerA (.call (.ref fa) ⟨[.ref a],[]⟩) (fun r s'=>r=.ok (.ret (.bool true))∧OldK s₁.heap s'.heap∧s'.os=s₁.os∧AllBare s'.gens) s₁:=by
 have rv:=DM hi;have La:=hi.length
 have core:∀H:Hp,zT H→bC K H a (ns.map V.int)→bU P w H s₁.heap→(∀b,H b≠none→b=a)→(H a≠none→K.lookup a=none)→
   codeAny (model P w) callerA (.call (.ref fa) ⟨[.ref a],[]⟩) (fun r s'=>r=.ok (.ret (.bool true))∧OldK s₁.heap s'.heap∧s'.os=s₁.os∧AllBare s'.gens) s₁:=by
  intro H hO hS aw hA hK;have DO:∀{b:Addr} {o:Obj},s₁.heap.get? b=some o→H b=none→(kA s₁.heap H).get? b=some o:=fun e n=>ID e n;have uE:∀{b:Addr} {o:Obj} {es:Array DictEntry} {ep:Nat},s₁.heap.get? b=some o→o.data=.dict es ep→H b=none:=fun{b o es ep} e d=>by
   cases q:H b with
   | none=>rfl
   | some u=>
    have e':b=a:=hA b (by rw [q];simp)
    subst e';rw [ha] at e;cases e;have d':Data.seq vs.toArray _=Data.dict es ep:=d;cases d'
  have wz:∀{b:Addr} {m:cJ},s₁.heap.Ns b m→(kA s₁.heap H).Ns b m:=fun{b m} ⟨o,es,ep,e,d,r⟩=>⟨o,es,ep,DO e (uE e d),d,r⟩;have DQ:K.In (kA s₁.heap H):=fun b o e=>DO (KX b o e) (by
   cases q:H b with
   | none=>rfl
   | some u=>
    have e':b=a:=hA b (by rw [q];simp)
    subst e';rw [hK (by rw [q];simp)] at e;cases e)
  have hM:Mod K mg (kA s₁.heap H):=⟨DQ,wz DN,⟨mb,wz hb,K8⟩,let ⟨mc,h1,h2⟩:=K9;⟨mc,wz h1,h2⟩⟩
  have e0:nh P w K mg (kA s₁.heap H) callerA [] s₁ H:=⟨rfl,hM,fun b o e=>IE e,Nat.le_of_eq (IC _ _),trivial,fun b hb=>absurd (show b∈([]:List Addr) from hb) (by simp),aw,.of_eq hg⟩
  refine codeAny_mono ((F _ DQ (wz DN)).run callerA [] s₁ H ⟨[.ref a],[]⟩ [.ref a] [.ref a] _ _ hr e0 (K_ s₁ (.ref a)) (.cons rfl .nil) (iS H hO hS)) fun r s' h=>?_;cases r with
  | error e=>exact (zU H e s' h).elim
  | ok fl=>
   cases fl with
   | next=>exact False.elim h
   | brk=>exact False.elim h
   | cont=>exact False.elim h
   | ret u=>
    obtain ⟨v,H',os,bare,un,Lb,r',q⟩:=h;have q':v=.bl true:=q;subst q';obtain rfl:u=Value.bool true:=r';refine ⟨rfl,OldK.of_keep fun b o e=>?_,os,bare⟩;cases q:H b with
    | none=>exact un.keep b o e q (by intro z;exact absurd (show b∈([]:List Addr) from z) (by simp)) (by simp)
    | some u=>
     rcases hO b with z | ⟨ob,xs,z⟩;·rw [q] at z;cases z
     ·have z2:=un.fm b ob _ z
      obtain ⟨e1,_⟩:=aw b _ z;obtain ⟨e2,_⟩:=Lb b _ z2;rw [e] at e1;cases e1;exact e2
 cases hk:K.lookup a with
 | some o=>have e:=KX a o hk;rw [ha] at e;cases e;refine core (fun _=>none) (fun _=>.inl rfl) (.inr ⟨_,vs.toArray,_,hk,rfl,rfl,rfl,by rw [cW,La];exact hl,by simpa using rv⟩) (fun b u z=>by have z':(none:Option HO)=some u:=z;cases z') (fun b z=>absurd rfl z) fun z=>absurd rfl z
 | none=>
  refine core (fun b=>if b=a then some (.cb {cls:=.type "list",data:=.seq vs.toArray} (.lst (ns.map V.int))) else none) (fun b=>?_) (.inl (.inr ⟨{cls:=.type "list",data:=.seq vs.toArray},ao rfl⟩)) (fun b u z=>?_) (fun b z=>?_) fun _=>hk
  ·by_cases hb:b=a
   ·exact .inr ⟨_,_,ao hb⟩
   ·exact .inl (ah hb)
  ·by_cases hb:b=a
   ·have z':=(ao hb).symm.trans z
    cases z';subst hb;exact ⟨ha,by rw [a8];exact hl,vs,_,rv,ha⟩
   ·have z':=(ah hb).symm.trans z
    cases z'
  ·by_cases hb:b=a
   ·exact hb
   ·exact absurd (ah hb) z
abbrev DR {K:ay} {h:Heap} (_:K.In h):PySem.W.Frag:=K
variable {n:Nat}
theorem Lc{l:PySem.W.OpenLaw}{q:Program}{loose:List Str}{XP:(Str→Option Value)→Heap→Prop}{YP:World→Heap→Prop}{d:DefRec}{K:Params→PySem.W.Frag}{CX:World→gw}{sp:World→Sp}
  (hn:l.most=some n) (qm:n≤sizeLine) (uI:d.params.defaults=[]) (hr:cK k callerA)
  (hY:∀(w:World) (h:Heap),YP w h→(K w.params).In h)
  (F:∀(w:World) (mg:cJ) (fa:Addr) (h:Heap),(K w.params).In h→h.Ns mainGlobals mg→mg d.name=some (.ref fa)→
   ∃fd:FuncData,(∀(s:Shared) (u:Value),BindsTo s fd ⟨[u],[]⟩ [(x,u)]) ∧
    ∀base:Heap,(K w.params).In base→base.Ns mainGlobals mg→aT l.prog w (K w.params) mg base (CX w) k fa fd [x] (sp w))
  (iS:∀(w:World) (H:Hp) (a:Addr) (ns:List Int),ns.length≤n→zT H→bC (K w.params) H a (ns.map V.int)→sp w [.ref a] H (fun v _=>v=.bl true) fun _ _ _=>False)
  (zU:∀(w:World) (H:Hp) (s:Shared) (e:Value) (s':Shared),CX w [] H s (fun _ _ _=>False) e s'→False) :
  PySem.W.WalkO q loose XP YP l.row.toRowW d [] (fun f vs=>PySem.call f vs):=by
 refine Att.K6 hn uI fun w s₀ s₁ mg mb fa o pm cd doc a vs ns G Y ho hd eS uJ zS hints hlen hg=>?_;have KX:=hY w _ Y;obtain ⟨fd,hb,hF⟩:=F w mg fa _ KX G.T.g uJ;exact K7 KX G.T.g G.T.b G.T.builtins G.T.nolimit hg zS hints (aV hlen qm) hr hF hb (fun H hO hS=>iS w H a ns hlen hO hS) fun H e s'=>zU w H s₁ e s'
def inClass(s:Stmt)(j:Nat):Stmt:=match s with
 | .ClassDef _ _ _ body _ _ _ _ _ _ _=>body.getD j (.Pass ⟨0,0,0,0⟩)
 | _=>.Pass ⟨0,0,0,0⟩
def ig(s:Stmt):Arguments:=match s with
 | .FunctionDef _ a _ _ _ _ _ _ _ _=>a
 | _=>{posonlyargs:=[],args:=[],vararg:=none,kwonlyargs:=[],kw_defaults:=[],kwarg:=none,defaults:=[]}
def ft(s:Stmt):List Stmt:=match s with
 | .FunctionDef _ _ b _ _ _ _ _ _ _=>b
 | _=>[]
def aJ(s:Stmt):Scope:=match s with
 | .FunctionDef _ _ _ _ _ _ sc _ _ _=>sc
 | _=>{kind:=.function,names:=[],isGenerator:=false,isCoroutine:=false}
abbrev bI:gw:=fun _ _ _ _ _ _=>False
abbrev E0:XK:=fun _ _ _=>False
theorem aY{X:Cx}:Passes bI X E0:=fun _ _ _ _ _ _ _ h=>h.elim
structure dC (K:ay) (x qual:Str) (st:Stmt) (f:Addr) (fd:FuncData):Prop where
 ex:∃(oc:Value) (od:Option Addr) (kV doc pm:Value) (an:Option Addr) (aR ct:Value) (eV:Array (Option Value)),
  fd=PySem.W.fnOf x qual (ig st) (ft st) (aJ st) .none kV doc pm an aR ct∧K.lookup f=some ⟨oc,od,.func fd,eV⟩∧PySem.W.codeIn K aR qual=true
 kp:PySem.W.keepIn K (.ref f)=true
abbrev aC (K:ay) (x:Str) (st:Stmt) (f:Addr) (fd:FuncData):Prop:=dC K x x st f fd
section
variable {P:Program} {w:World} {K:ay} {mg:cJ} {base:Heap}
variable {qual:Str} {st:Stmt} {f:Addr} {fd:FuncData} {N ps:List Str} {sp:Sp}
theorem dC.ok(F:dC K x qual st f fd)(S:a9 N ps (aJ st))(len:∀vs H Q E,sp vs H Q E→vs.length=ps.length)
  (jh:∀(aR:Value) (A:Around) (outer:List Env) (s:Shared) (H:Hp) (vs:List V) (Q:VK) (E:XK),cK k (A.deeper (envOfC qual (aJ st) s.heap.objs.size f aR))→sp vs H Q E→
   ∃t,dJ (ic bI P w K mg base N qual (aJ st) f aR A outer s H E).jN (ft st) t∧t {nx:=fun _ H'=>Q .aH H',rt:=Q} (start N vs) H):aT P w K mg base bI (k+1) f fd ps sp:=by
 obtain ⟨oc,od,kV,doc,pm,an,aR,ct,eV,rfl,lk,eS⟩:=F.ex;refine zH lk eS S len fun A outer s H vs Q E hr iS=>?_;obtain ⟨t,h,q⟩:=jh aR A outer s H vs Q E hr iS;exact ⟨t,h.jN,q⟩
theorem dC.b9(F:dC K x qual st f fd)(S:a9 N ps (aJ st))
  (jh:∀(aR:Value) (A:Around) (outer:List Env) (s:Shared) (H:Hp) (vs:List V) (Q:VK) (E:XK),cK k (A.deeper (envOfC qual (aJ st) s.heap.objs.size f aR))→sp vs H Q E→
   ∃t,dJ (ic bI P w K mg base N qual (aJ st) f aR A outer s H E).jN (ft st) t∧t {nx:=fun _ H'=>Q .aH H',rt:=Q} (start N vs) H)
  (len:∀vs H Q E,sp vs H Q E→vs.length=ps.length:=by intro vs H Q E h;repeat first | (obtain ⟨rfl,_⟩:=h;rfl) | (subst h;rfl) | obtain ⟨_,h⟩:=h):aT P w K mg base bI (k+1) f fd ps sp:=F.ok S len jh
theorem dC.binds(F:dC K x qual st f fd)
  (h:∀(kV doc pm:Value) (an:Option Addr) (aR ct:Value) (us:List Value),us.length=ps.length→bindArgs (PySem.W.fnOf x qual (ig st) (ft st) (aJ st) .none kV doc pm an aR ct) ⟨us,[]⟩=pure (ps.zip us)):Binds K fd ps []:=by
 obtain ⟨oc,od,kV,doc,pm,an,aR,ct,eV,rfl,lk,eS⟩:=F.ex;exact .all (h kV doc pm an aR ct)
theorem dC.bq(F:dC K x qual st f fd)
  (h:∀(kV doc pm:Value) (an:Option Addr) (aR ct:Value) (us:List Value),us.length=ps.length→bindArgs (PySem.W.fnOf x qual (ig st) (ft st) (aJ st) .none kV doc pm an aR ct) ⟨us,[]⟩=pure (ps.zip us):=by intro _ _ _ _ _ _ us hl;rcases us with _ | ⟨_,_ | ⟨_,_ | ⟨_,_ | ⟨_,_ | ⟨_,_ | ⟨_,_ | ⟨_,_⟩⟩⟩⟩⟩⟩⟩ <;> first | rfl | (simp at hl;done)):Binds K fd ps []:=F.binds h
theorem bw{oc:Value}{od an:Option Addr}{eV:Array (Option Value)}{kV doc pm aR ct:Value}(l:K.lookup f=some ⟨oc,od,.func (PySem.W.fnOf x qual (ig st) (ft st) (aJ st) .none kV doc pm an aR ct),eV⟩)
  (c:PySem.W.codeIn K aR qual=true) (k:PySem.W.keepIn K (.ref f)=true):dC K x qual st f (PySem.W.fnOf x qual (ig st) (ft st) (aJ st) .none kV doc pm an aR ct):=⟨⟨oc,od,kV,doc,pm,an,aR,ct,eV,rfl,l,c⟩,k⟩
end
theorem fK(h:n≤1000):n<sizeLine:=jE h (by decide)
section
variable {X:Cx}
theorem pv(i:Nat){pos:Pos}(hN:X.N[i]?=some x:=by rfl)(hv:kB X.env.scope x:=by first | exact Or.inl rfl | exact Or.inr (Or.inl rfl) | exact Or.inr (Or.inr rfl))(hd:(x == ("__debug__":Str))=false:=by decide)
  (eS:(x == ("__classdict__":Str))=false:=by decide):PE X (.Name x pos) (CU i):=IM hN hv hd eS
end
variable {A B:Prop}
theorem dY(h:B):if false=true then A else B:=by rw [ah cU];exact h
theorem iq(h:A):if true=true then A else B:=by rw [ao rfl];exact h
theorem cG{c:Prop}[Decidable c](h1:c→A)(h2:¬c→B):if c then A else B:=by
 by_cases h:c
 ·rw [ao h]
  exact h1 h
 ·rw [ah h]
  exact h2 h
def ae(H H':Hp):Prop:=∀b o,H b=some o→H' b=some o
theorem ae.refl(H:Hp):ae H H:=fun _ _ h=>h
variable {H:Hp}
theorem ae.trans{H1 H2:Hp}(a:ae H H1)(b:ae H1 H2):ae H H2:=fun c o h=>b c o (a c o h)
theorem ae.seq{H':Hp}{xs:List V}(e:ae H H')(h:bC K H a xs):bC K H' a xs:=by
 rcases h with (h | ⟨o,h⟩) | h;·exact .inl (.inl (e _ _ h))
 ·exact .inl (.inr ⟨o,e _ _ h⟩)
 ·exact .inr h
end L2
set_option maxHeartbeats 4000000
namespace L2
open PySem PySem.Spec PyProof.Rows
structure wA (P:Program) (w:World) (outer:List Env) (H:Hp) (s:Shared) (H':Hp) (ea C:Addr) (B:Heap) (t:Addr) (s':Shared):Prop where
 os:s'.os=s.os
 bare:AllBare s'.gens
 fl:Heap.FlyingW B outer ea (.ref C) (.ref t) s'.heap
 aw:bU P w H' B
 kb:∀b o,s.heap.get? b=some o→H b=none→b∉cf outer→B.get? b=some o
 tb:∀b o,s.heap.get? b=some o→b∉cf outer→∃o',B.get? b=some o'
 sl:∀b o,s.heap.get? b=some o→H b=none→b∈cf outer→∃l,s'.heap.get? b=some {o with slots:=l}
 Xj:∀b∈cf outer,H b=none
 Ld:∀b o,s.heap.get? b=some o→H b=none→H' b=none
 fG:∀b xs,H b=some (.tup xs)→H' b=some (.tup xs)
 fm:∀b o u,H b=some (.cb o u)→H' b=some (.cb o u)
 fH:∀b ps,H b=some (.kz ps)→∃more,H' b=some (.kz (ps++more))
def de(P:Program)(w:World):gw:=fun outer H s E e s'=>∃ea C H' B t,e=.ref ea∧wA P w outer H s H' ea C B t s'∧E (.ref C) none H'
section
variable {P:Program} {w:World} {outer:List Env} {H H':Hp} {s s':Shared} {ea C t:Addr} {B:Heap}
def ExcAt(ea C:Addr)(h:Heap):Prop:=∃oe,h.get? ea=some oe∧oe.cls=.ref C∧PySem.W.notCls oe=true
def Le(ea C:Addr):HO:=.ext (ExcAt ea C)
end
section
variable {X:Cx} {pins:aO} {σ:St} {H H':Hp} {s s':Shared} {ea C t:Addr} {B:Heap}
structure qr (X:Cx) (E:XK):Prop where
 hJ:X.stack=X.env::X.outer
 fr:X.env.frame=some X.env.locals
 ex:X.ex=[]
 xe:X.xe=fun e s'=>wpAny (model X.prog X.w) X.A (leaving X.env e) (fun _ ie=>de X.prog X.w X.outer X.H₀ X.s₀ E e ie) (fun e' ie=>de X.prog X.w X.outer X.H₀ X.s₀ E e' ie) s'
theorem wB{env:Env}{outer:List Env}{L:Addr}(h:env.frame=some L):cf (env::outer)=L::cf outer:=by unfold cf;rw [vE,h]
variable {E:XK}
theorem wA.leave(L:qr X E)(I:Inv X pins σ H s)(f:wA X.prog X.w X.stack H s H' ea C B t s'){h:Heap}(x:Heap.FlyingW B X.outer ea (.ref C) (.ref t) h)(up:s'.heap.UpToSlots h):wA X.prog X.w X.outer X.H₀ X.s₀ H' ea C B t {s' with heap:=h}:=by
 have nL:∀b o,X.s₀.heap.get? b=some o→b≠X.env.locals:=fun b o e=>cP (dB (bg e) I.ok.above);have ns:∀b o,X.s₀.heap.get? b=some o→b∉cf X.outer→b∉cf X.stack:=fun b o e nb z=>by
  rw [L.hJ,wB L.fr] at z;rcases cp.mp z with z | z;·exact nL b o e z
  ·exact nb z
 have nx:∀b:Addr,b∉X.ex:=fun b z=>by rw [L.ex] at z;cases z
 refine ⟨f.os.trans I.os,f.bare,x,f.aw,fun b o e n nb=>?_,fun b o e nb=>?_,fun b o e n hb=>?_,I.ok.kG,fun b o e n=>?_,fun b xs e=>f.fG b xs (I.base.fG b xs e),fun b o u e=>f.fm b o u (I.base.fm b o u e),fun b ps e=>?_⟩;·exact f.kb b o (I.base.keep b o e n nb (nx b)) (I.base.free b o e n (nx b)) (ns b o e nb)
 ·obtain ⟨o',e'⟩:=I.base.there b o e (nx b)
  exact f.tb b o' e' (ns b o e nb)
 ·obtain ⟨l,q⟩:=I.base.slot b o e n hb (nx b)
  have hs:b∈cf X.stack:=by rw [L.hJ,wB L.fr];exact fO _ hb
  obtain ⟨l2,q2⟩:=f.sl b _ q (I.base.free b o e n (nx b)) hs;obtain ⟨_,o2,q3,nf⟩:=f.fl.2.2.1.mem hs;rw [q2] at q3;cases q3;obtain ⟨l3,q4⟩:=up b _ q2 nf;exact ⟨l3,q4⟩
 ·obtain ⟨o',e'⟩:=I.base.there b o e (nx b)
  exact f.Ld b o' e' (I.base.free b o e n (nx b))
 ·obtain ⟨m1,e1⟩:=I.base.fH b ps e
  obtain ⟨m2,e2⟩:=f.fH b _ e1;exact ⟨m1++m2,by rw [e2,Array.append_assoc]⟩
theorem gA:Passes (de X.prog X.w) X (fun _ _ _=>False):=fun pins σ H s e s' I h=>by obtain ⟨_,_,_,_,_,_,_,q⟩:=h;exact q.elim
theorem lX(L:qr X E):Passes (de X.prog X.w) X E:=fun pins σ H s e s' I h=>by
 obtain ⟨ea,C,H',B,t,rfl,f,q⟩:=h;rw [L.xe];refine wpAny_leaves_onW (by rw [I.ok.frames,L.hJ]) L.fr (by have z:=f.fl;rw [L.hJ] at z;exact z) fun h' x up=>?_
 exact ⟨ea,C,H',B,t,rfl,f.leave L I x up,q⟩
end
variable {K:ay} {h:Heap}
theorem Lf{C:Addr}{qt:List Value}{newId:String}(cF:K.In h)(hq:PySem.W.excIn K C qt newId=true) :
  ∃bm N nm qn bs hdct sn sub ab col dd k0 k1 k2 k3 k5 mN,h.get? C=some (excClassObj nm qn C N bs bm hdct sn sub ab col dd k0 k1 k2 k3 k5 newId)∧h.Ns N mN∧mN "__init__"=none∧OwnTail h qt bm∧PySem.W.mroIn K C=fun b=>some ((Value.ref C::bm).contains b):=by
 unfold PySem.W.excIn at hq
 split at hq
 ·rename_i qu cls slt look
  split at hq
  ·rename_i CC rest a0 a1 a2 a3 nn a5 em es
   simp only [Bool.and_eq_true,jB,Bool.not_eq_true'] at hq;obtain ⟨⟨⟨⟨⟨e1,e2⟩,e3⟩,e4⟩,e5⟩,e6⟩:=hq;subst e1 e2;have Lg:PySem.W.mroIn K CC=fun b=>some ((Value.ref CC::rest).contains b):=by
    funext b
    unfold PySem.W.mroIn PySem.W.clsIn;rw [look];simp [em]
   obtain ⟨c1,c2,c3,c4,c5,c6,c7,c8,c9,Lh,Xk⟩:=cls;dsimp only at em e3 e5 e6;subst em e3;have Li:slt = #[a0,a1,a2,a3,some (.builtin nn),a5]:=by obtain ⟨ll⟩:=slt;simp only at es;rw [es]
   subst Li;exact ⟨rest,c4,c1,c5,c2,c6,c7,c8,c9,Lh,qu,a0,a1,a2,a3,a5,_,cF _ _ look,.of_isNs (PySem.W.isNs_of_in cF e5),PySem.W.nsMap_none_of_in cF e5 e6,PySem.W.tail_of_in cF e4,Lg⟩
  ·cases hq
 ·cases hq
section
variable {X:Cx} {E:XK} {x:Str} {C:Addr} {np gz pos:Pos} {e:Expr} {es:List Expr} {ta:TA} {B newId Lj:String} {qt:List Value}
def Ll(C:Addr)(E:XK)(ta:TA):TS:=fun _ σ H=>ta σ H fun vs H1=>vs.length≤sizeLine∧E (.ref C) none H1
theorem lY(L:qr X E)(hc:X.calm=true)(FB:ExcBaseFacts B newId Lj qt)(hq:PySem.W.excIn X.K C qt newId=true)(hg:Gl X x)(hm:X.mg x=some (.ref C))(ha:PA X (e::es) ta)
  (hs:starEach (e::es) X.env=(false,eval e X.env)::starEach es X.env:=by rfl) (hp:(backTo gz (starEach es X.env)).any (·.1)=false:=by rfl) (hd:(x == ("__debug__":Str))=false:=by decide) :
  PS X (.Raise (some (.Call (.Name x np) (e::es) [] gz)) none pos) (Ll C E ta):=by
 intro pins s σ H D I h;obtain ⟨bm,N,nm,qn,bs,hdct,sn,sub,ab,col,dd,k0,k1,k2,k3,k5,mN,hC,hN,Lm,T,_⟩:=Lf I.ok.mod.cF hq
 refine wpAny_Raise_call_subT (C:=C) (nm:=nm) (q:=qn) (N:=N) (bs:=bs) (bm:=bm) (hdct:=hdct) (sn:=sn) (sub:=sub) (ab:=ab) (col:=col) (dd:=dd) (k0:=k0) (k1:=k1) (k2:=k2) (k3:=k3) (k5:=k5) FB (mN:=mN) (T.hasType FB.hasBase) (I.ok.hd hc)
  (by rw [hs];show (false || (backTo gz (starEach es X.env)).any (·.1))=false;rw [hp];rfl) Lm (vV I hg hm ⟨rfl,?_⟩ hd)
 have h1:=ha gz pins s σ H _ I h;rw [hs] at h1 ⊢;refine Calls.evalArgs_plain (aE h1 fun us s2 ⟨vs,H1,I1,r,hl,q⟩=>⟨rfl,by rw [←r.length];exact hl,I1.bk _ _ hC,hN.keeps I1.bk,T.keeps I1.bk,fun h' ea mk=>?_⟩)
 rw [L.xe];have nL:∀b o,X.s₀.heap.get? b=some o→b≠X.env.locals:=fun b o q=>cP (dB (bg q) I1.ok.above);have ns:∀b o,X.s₀.heap.get? b=some o→b∉cf X.outer→b∉cf X.stack:=fun b o q nb z=>by
  rw [L.hJ,wB L.fr] at z;rcases cp.mp z with z | z;·exact nL b o q z
  ·exact nb z
 have nx:∀b:Addr,b∉X.ex:=fun b z=>by rw [L.ex] at z;cases z
 have ff:s2.heap.FunFrames (PySem.W.hideAll s2.heap (cf X.stack)) (X.env::X.outer):=by have z:=I1.stack;rw [←L.hJ];exact PySem.W.funFrames_hide z fun env he a hf=>List.mem_filterMap.mpr ⟨env,he,hf⟩
 refine wpAny_leaves_madeW (base:=PySem.W.hideAll s2.heap (cf X.stack)) (h:=s2.heap) (by rw [I1.ok.frames,L.hJ]) L.fr (fun b o q=>PySem.W.of_hideAll _ q) ff mk fun h2 t fl _ _ up=>?_
 refine ⟨ea,C,H1,_,t,rfl,⟨I1.os,I1.bare,fl,fun a o e1=>?_,fun b o e1 n nb=>?_,fun b o e1 nb=>?_,fun b o e1 n hb=>?_,I1.ok.kG,fun b o e1 n=>?_,I1.base.fG,I1.base.fm,I1.base.fH⟩,q⟩
 ·refine (I1.aw a o e1).hE (fun b u hb e2=>vD _ e2 fun z=>?_) (fun _ z=>z) fun _ _ z=>z
  have n0:=I1.mV b z;rcases hb with hb | hb
  ·subst hb
   rw [e1] at n0;cases n0
  ·rw [hb] at n0
   cases n0
 ·exact vD _ (I1.base.keep b o e1 n nb (nx b)) (ns b o e1 nb)
 ·obtain ⟨o',e2⟩:=I1.base.there b o e1 (nx b)
  exact ⟨o',vD _ e2 (ns b o e1 nb)⟩
 ·obtain ⟨l,e2⟩:=I1.base.slot b o e1 n hb (nx b)
  have m7:b∈cf X.stack:=by rw [L.hJ,wB L.fr];exact fO _ hb
  obtain ⟨_,o2,e3,nf⟩:=I1.stack.mem m7;rw [e2] at e3;cases e3;obtain ⟨l2,e4⟩:=up b _ (mk.keeps _ _ e2) nf;exact ⟨l2,e4⟩
 ·obtain ⟨o',e2⟩:=I1.base.there b o e1 (nx b)
  exact I1.base.free b o e1 n (nx b)
end
section
variable {X:Cx} {k:Nat} {f C:Addr} {fd:FuncData} {ps:List Str} {sp:Sp} {d8:List V} {ds:List Value} {x m:Str} {p pos apos:Pos} {e o:Expr} {es:List Expr} {ta:TE} {t:TA}
variable {te:TX} {i:Nat} {pos':Pos}
end
section
variable {X:Cx} {pins:aO} {σ:St} {H:Hp} {s:Shared} {ea:Addr}
end
section
variable {M:Model} {A:Around} {E:aI} {h:Heap} {g:Array GenState} {d:Drawn} {t:Nat} {os:OsState} {e:Addr} {oe:Obj} {Q:Bool→Shared→Prop}
variable {nm q Xl q':Str} {C N D N':Addr} {bs bm Xm wC:List Value} {hdct Xn:Bool} {sn Xo:List Str} {sub Xp:List Value} {ab Xq:Bool} {col Xr:Option Bool} {dd uK:Option Addr} {k0 k1 k2 k3 k5 j0 j1 j2 j3 j5:Option Value} {newId Xs:String}
end
section
variable {X:Cx} {body:List Stmt} {b₀:Stmt} {Xt:List Stmt} {np Xu pos:Pos} {x n:Str} {D:Addr} {tb:Xv} {ts:TS} {qt:List Value} {newId:String} {i:Nat}
end
section
variable {P:Program} {w:World} {K:ay} {mg:cJ} {base:Heap}
variable {x qual:Str} {st:Stmt} {f:Addr} {fd:FuncData} {N ps:List Str} {k:Nat} {sp:Sp}
theorem dC.zV(F:dC K x qual st f fd)(S:a9 N ps (aJ st))(len:∀vs H Q E,sp vs H Q E→vs.length=ps.length)
  (jh:∀(aR:Value) (A:Around) (outer:List Env) (s:Shared) (H:Hp) (vs:List V) (Q:VK) (E:XK),cK k (A.deeper (envOfC qual (aJ st) s.heap.objs.size f aR))→sp vs H Q E→
   qr (ic (de P w) P w K mg base N qual (aJ st) f aR A outer s H E) E→
   ∃t,dJ (ic (de P w) P w K mg base N qual (aJ st) f aR A outer s H E) (ft st) t∧t {nx:=fun _ H'=>Q .aH H',rt:=Q} (start N vs) H):aT P w K mg base (de P w) (k+1) f fd ps sp:=by
 obtain ⟨oc,od,kV,doc,pm,an,aR,ct,eV,rfl,lk,eS⟩:=F.ex;exact zH lk eS S len fun A outer s H vs Q E hr iS=>jh aR A outer s H vs Q E hr iS ⟨rfl,rfl,rfl,rfl⟩
theorem dC.cY(F:dC K x qual st f fd)(S:a9 N ps (aJ st))
  (jh:∀(aR:Value) (A:Around) (outer:List Env) (s:Shared) (H:Hp) (vs:List V) (Q:VK) (E:XK),cK k (A.deeper (envOfC qual (aJ st) s.heap.objs.size f aR))→sp vs H Q E→
   qr (ic (de P w) P w K mg base N qual (aJ st) f aR A outer s H E) E→
   ∃t,dJ (ic (de P w) P w K mg base N qual (aJ st) f aR A outer s H E) (ft st) t∧t {nx:=fun _ H'=>Q .aH H',rt:=Q} (start N vs) H)
  (len:∀vs H Q E,sp vs H Q E→vs.length=ps.length:=by intro vs H Q E h;repeat first | (obtain ⟨rfl,_⟩:=h;rfl) | (subst h;rfl) | obtain ⟨_,h⟩:=h):aT P w K mg base (de P w) (k+1) f fd ps sp:=F.zV S len jh
end
structure nq (K:ay) (C:Addr):Prop where
 ci:PySem.W.hasDictIn K C=true
 ga:PySem.W.findIn K (.ref C) "__getattribute__"=some (some (.builtin "BaseException.__getattribute__"))
 gn:PySem.W.findIn K (.ref C) "__getattr__"=some none
 ca:PySem.W.findIn K (.ref C) "__class__"=some (some (.builtin "object.__class__"))
 mo:PySem.W.mroIn K C (.type "object")=some true
 mb:PySem.W.mroIn K C (.type "BaseException")=some true
section
variable {prog:Program} {w:World} {A:Around} {E:aI} {h:Heap} {g:Array GenState} {d:Drawn} {t:Nat} {os:OsState} {K:ay} {a C:Addr} {o:Obj}
theorem Ln{R:Result→Shared→Prop}(cF:K.In h)(c:nq K C)(hx:h.get? a=some o)(hc:o.cls=.ref C)(hq:R (.ok (.ret (.ref C))) ⟨h,g,d,t,os⟩) :
  codeAny (model prog w) A (.call (.builtin "getset_descriptor.__get__") ⟨[.builtin "object.__class__",.ref a,.ref C],[]⟩) R ⟨h,g,d,t,os⟩:=by
 have DS:(⟨h,g,d,t,os⟩:Shared).TypeIs (.builtin "object.__class__") "getset_descriptor":=y2;have L1:=PySem.W.looks_mroIn (M:=model prog w) cF c.mo;have ow:=F.owner_object_class;refine codeAny_call_builtin F.slot_gs_get.plain F.entry_gs_get (F.slot_gs_get.check _ _ _ _ _ _ _ _ DS (F.args_gs_get _ _ _) ?_)
 repeat (any_goals (first | assumption | (with_reducible refine t_ hx ?_;rw [hc]) | (rw [ow];with_reducible refine L1.at ?_) | wp_step))
 refine ⟨Code.quiet_builtin _ (by decide +kernel),codeAny_builtin F.entry_object_class ?_⟩
 repeat (any_goals (first | assumption | (with_reducible refine t_ hx ?_;rw [hc]) | wp_step))
variable {tk:Tok}
theorem Lo{Q:Fin→Shared→Prop}(cF:K.In h)(c:nq K C)(hx:h.get? a=some o)(hc:o.cls=.ref C)(hq:Q (.done (.ret (.ref C))) ⟨h,g,d,t,os⟩) :
  wpAny (model prog w) A (Builtin.«object.__getattribute__» ⟨[.ref a,.str "__class__" tk],[]⟩) Q E ⟨h,g,d,t,os⟩:=by
 have DS:(⟨h,g,d,t,os⟩:Shared).TypeIs (.builtin "object.__class__") "getset_descriptor":=y2;have L1:=vH (M:=model prog w) cF c.ca;have f5:=y2;have f6:=F.slot_gs_get.lookup;have f7:=F.slot_gs_set.lookup
 repeat (any_goals (first | assumption | (with_reducible refine t_ hx ?_;rw [hc]) | with_reducible refine L1.at ?_ | wp_step))
 refine Ln cF c hx hc ?_
 repeat (any_goals (first | assumption | wp_step))
theorem Lp{M:Model}{nv:Value}{Q:Unit→Shared→Prop}(cF:K.In h)(c:nq K C)(hx:h.get? a=some o)(hc:o.cls=.ref C)(hq:Q () ⟨h,g,d,t,os⟩) :
  wpAny M A (checkBuiltinCall "BaseException.__getattribute__" ⟨[.ref a,nv],[]⟩) Q E ⟨h,g,d,t,os⟩:=by
 have hk:builtinKind "BaseException.__getattribute__"=some .slot:=by decide +kernel
 have hs:splitId "BaseException.__getattribute__"=some ("BaseException","__getattribute__"):=by decide +kernel
 have L1:=PySem.W.looks_mroIn (M:=M) cF c.mb;have ha:=F.args_bexc_ga (.ref a) nv;simp only [checkBuiltinCall,hk,hs];refine bL ?_;unfold isInstance
 repeat (first | (with_reducible refine t_ hx ?_;rw [hc]) | with_reducible refine L1.at ?_ | wp_step)
 exact hq
theorem Lq{fill expr:Bool}{Q:aI}(cF:K.In h)(c:nq K C)(hx:h.get? a=some o)(hc:o.cls=.ref C)(hq:Q (.ref C) ⟨h,g,d,t,os⟩) :
  wpAny (model prog w) A (getAttrBy (.ref a) (.str "__class__" tk) fill expr) Q E ⟨h,g,d,t,os⟩:=by
 have f3:=F.attrBase_ValueError.ga.bind (.ref a);have z0:(expr && onTheHeap (Value.builtin "BaseException.__getattribute__"))=false:=by cases expr <;> rfl
 have z2:(Value.builtin "BaseException.__getattribute__" == Value.builtin "object.__getattribute__")=false:=by decide +kernel
 have z1:(onTheHeap (Value.ref C) && Value.builtin "BaseException.__getattribute__" == Value.builtin "object.__getattribute__")=false:=by rw [z2];rfl
 have L1:=vH (M:=model prog w) cF c.ga;have L2:=vH (M:=model prog w) cF c.gn
 repeat (any_goals (first | assumption | (with_reducible refine t_ hx ?_;rw [hc]) | with_reducible refine L1.at ?_ | with_reducible refine L2.at ?_ | wp_step))
 refine codeAny_call_builtin F.attrBase_ValueError.ga.plain F.entry_bexc_ga (Lp cF c hx hc (Lo cF c hx hc ?_))
 repeat (any_goals (first | assumption | wp_step))
theorem Lr{Q:Option Value→Shared→Prop}(cF:K.In h)(c:nq K C)(hx:h.get? a=some o)(hc:o.cls=.ref C)(hq:Q (some (.ref C)) ⟨h,g,d,t+1,os⟩) :
  wpAny (model prog w) A (getAttr? (.ref a) "__class__") Q E ⟨h,g,d,t,os⟩:=by
 unfold getAttr? getAttrBy?
 repeat (any_goals (first | assumption | with_reducible apply Lq cF c hx hc | wp_step))
theorem Ls(c:nq K C):PySem.W.KitX K (.ref a) (.ref C) (ExcAt a C) where
 ty:=fun M h _ k=>by obtain ⟨oe,e1,e2,_⟩:=k;exact e2▸(PySem.W.Looks.ld e1).andThen .now
 it:=fun M h cF _=>by
  obtain ⟨cd,hc,_⟩:=PySem.W.any_some c.ci;unfold PySem.W.clsIn at hc
  split at hc
  ·rename_i look
   intro A' Q' E' s' k q;unfold isType loadHead;exact bL (wpAny_loadPart (k _ _ (cF _ _ look)) (dG q))
  ·cases hc
 ne:=fun h tp dd ag n sl cF Lu=>by
  obtain ⟨cd,hc,_⟩:=PySem.W.any_some c.ci;refine Bool.eq_false_iff.mpr fun q=>?_;have e:C=tp:=Value.ref.inj (jB.mp q);subst e;unfold PySem.W.clsIn at hc
  split at hc
  ·rename_i look
   have z:=(cF _ _ look).symm.trans Lu;cases z
  ·cases hc
 ca:=fun{prog w A E Q s} cF k z=>by obtain ⟨oe,e1,e2,_⟩:=k;obtain ⟨h,g,d,t,os⟩:=s;exact Lr cF c e1 e2 z
end
def wD(a:Addr)(h:Heap):Prop:=∃o ep,h.get? a=some o∧o.ExactDict∧o.data=.dict #[] ep∧(a == sysModules)=false
theorem wD.zW{a:Addr}(e:wD a h):PySem.W.KitAt a "dict" h:=by obtain ⟨o,_,e,c,_⟩:=e;exact ⟨o,e,c.1⟩
def DT(a:Addr):HO:=.ext (wD a)
inductive uM (K:ay) (H:Hp):V→Value→Prop where
 | of {x:V} {t:Value} (h:h_ K H x t):uM K H x t
 | exc {a C:Addr} (e:H a=some (Le a C)) (c:nq K C):uM K H (.ref a) (.ref C)
 | qu {a:Addr} (e:H a=some (DT a)):uM K H (.ref a) (.type "dict")
def DU:V→Value
 | .ty n=>.type n
 | .ref a=>.ref a
 | _=>.none
def Lv:V→Bool
 | .ty _=>true
 | .ref _=>true
 | _=>false
def Lw(K:ay):List V→Hp→VK→Prop:=fun xs H Q=>∃x c t b,xs=[x,c]∧Lv c=true∧uM K H x t∧PySem.W.kitOne K t (DU c)=some b∧Q (.bl b) H
variable {X:Cx}
theorem uN(hK:X.K=K:=by rfl):gv X (.builtin "isinstance") (Lw K):=by
 intro pins s σ H xs us Q I r h;subst hK;obtain ⟨x,c,t,b,rfl,hc,ty,e,q⟩:=h;obtain ⟨u,cv,rfl,rx,rc⟩:=vals2 r;have ec:cv=DU c:=by
  cases c with
  | ty n=>exact rc
  | ref a=>exact rc
  | _=>cases hc
 subst ec;cases ty with
 | of ty=>exact JW I rx ty e fun tk=>⟨.bl b,H,I.tok tk,rfl,q⟩
 | @qu a ea=>cases rx;obtain ⟨k,_,_⟩:=(show cz X.prog X.w H s.heap a (.ext (wD a)) from I.aw a _ ea);exact g6 PySem.W.kitx_dict I.dc k.zW e (fun z=>nomatch z) fun tk=>⟨.bl b,H,I.tok tk,rfl,q⟩
 | @exc a C ea cc=>cases rx;obtain ⟨k,_,_⟩:=(show cz X.prog X.w H s.heap a (.ext (ExcAt a C)) from I.aw a _ ea);exact g6 (Ls cc) I.dc k e (fun z=>nomatch z) fun tk=>⟨.bl b,H,I.tok tk,rfl,q⟩
def f9:List V→List V→Bool
 | [],[]=>true
 | x::xs,y::ys=>kP x y && f9 xs ys
 | _,_=>false
def wF(K:ay)(neg:Bool):R2:=fun x y H Q=>∃a b xs ys,x=.ref a∧y=.ref b∧dW K H a xs∧dW K H b ys∧xs.all nk=true∧ys.all nk=true∧Q (.bl (if neg then !f9 xs ys else f9 xs ys)) H
theorem zX{A:Around}{s:Shared}:∀{xs ys:List V} {us vs:List Value},Vals xs us→Vals ys vs→xs.all nk=true→ys.all nk=true→
  ∃e:Nat→Bool,(∀j (h1:j<us.length) (h2:j<vs.length),SeqAt.EqAt A s us[j] vs[j] (e j))∧((List.range (min us.length vs.length)).all e && us.length == vs.length)=f9 xs ys
 | [],[],_,_,.nil,.nil,_,_=>⟨fun _=>true,fun j h1=>absurd h1 (mF _),by simp [f9]⟩
 | [],_::_,_,_,.nil,.cons _ _,_,_=>⟨fun _=>true,fun j h1=>absurd h1 (mF _),by simp [f9]⟩
 | _::_,[],_,_,.cons _ _,.nil,_,_=>⟨fun _=>true,fun j _ h2=>absurd h2 (mF _),by simp [f9]⟩
 | x::xs,y::ys,u::us,v::vs,.cons r1 t1,.cons r2 t2,f1,f2=>by
  rw [List.all_cons,Bool.and_eq_true] at f1 f2;obtain ⟨e,h,q⟩:=zX (A:=A) (s:=s) t1 t2 f1.2 f2.2;refine ⟨fun j=>match j with | 0=>kP x y | k+1=>e k,fun j h1 h2=>?_,?_⟩
  ·cases j with
   | zero=>exact DH r1 r2 f1.1 f2.1
   | succ k=>exact h k (by simpa using h1) (by simpa using h2)
  ·have em:min (u::us).length (v::vs).length=min us.length vs.length+1:=by simp only [eE];lia
   rw [em,y3,List.all_cons,List.all_map];show (kP x y && (List.range (min us.length vs.length)).all e && ((us.length+1) == (vs.length+1)))=(kP x y && f9 xs ys);rw [←q];have eb:((us.length+1) == (vs.length+1))=(us.length == vs.length):=by rw [mE,jB,jB];lia
   rw [eb,Bool.and_assoc]
theorem Lx(hu:X.A.units<cLine):cg X (compareOp .Eq) (wF X.K false):=by
 intro pins s σ H x y v u Q I rx ry h;obtain ⟨a,b,xs,ys,rfl,rfl,h1,h2,f1,f2,q⟩:=h;cases rx;cases ry;obtain ⟨us,r1,t1,_⟩:=I.tuple h1;obtain ⟨vs,r2,t2,_⟩:=I.tuple h2;obtain ⟨e,he,eq⟩:=zX (A:=X.A.in1) (s:=s) r1 r2 f1 f2;refine SeqAt.eq_tupleAt (e:=e) t1 t2 hu (fun j z1 z2=>by simpa using he j (by simpa using z1) (by simpa using z2)) ⟨.bl (f9 xs ys),H,I,?_,q⟩
 show _=Value.bool (f9 xs ys);rw [←eq];simp
theorem Ly(hu:X.A.units<cLine):cg X (compareOp .NotEq) (wF X.K true):=by
 intro pins s σ H x y v u Q I rx ry h;obtain ⟨a,b,xs,ys,rfl,rfl,h1,h2,f1,f2,q⟩:=h;cases rx;cases ry;obtain ⟨us,r1,t1,_⟩:=I.tuple h1;obtain ⟨vs,r2,t2,_⟩:=I.tuple h2;obtain ⟨e,he,eq⟩:=zX (A:=X.A.in1) (s:=s) r1 r2 f1 f2;refine SeqAt.RcNeAt.tuples (e:=e) t1 t2 hu (fun j z1 z2=>by simpa using he j (by simpa using z1) (by simpa using z2)) _ _ _ _ ⟨.bl (!f9 xs ys),H,I,?_,q⟩
 show _=Value.bool (!f9 xs ys);rw [←eq];simp
theorem boot_isinstance:bootBuiltins "isinstance"=some (.builtin "isinstance"):=by decide +kernel
theorem boot_abs:bootBuiltins "abs"=some (.builtin "abs"):=by decide +kernel
theorem boot_int:bootBuiltins "int"=some (.type "int"):=by decide +kernel
theorem boot_bool:bootBuiltins "bool"=some (.type "bool"):=by decide +kernel
theorem boot_tuple:bootBuiltins "tuple"=some (.type "tuple"):=by decide +kernel
theorem boot_list:bootBuiltins "list"=some (.type "list"):=by decide +kernel
end L2
namespace My
open PySem L2
def gP(n:Int):Bool:=(List.range 32).all fun e=>decide (e<2) || decide (n<(e:Int)*(e:Int)) || decide (n % (e:Int)≠0)
variable {n d:Int}
theorem DV(h2:n≤997)(hd:2≤d)(hq:d*d≤n)(hm:n % d=0):gP n=false:=by
 have hd2:d<32:=by
  by_cases h:d<32;·exact h
  ·have:32*32≤d*d:=Int.mul_le_mul (by lia) (by lia) (by lia) (by lia)
   lia
 obtain ⟨k,rfl⟩:∃k:Nat,d=(k:Int):=⟨d.toNat,by lia⟩
 cases e:gP n with
 | false=>rfl
 | true=>
  have z:=p_.mp e k (fD.mpr (by lia))
  simp only [Bool.or_eq_true,decide_eq_true_eq] at z;rcases z with (z | z) | z;·lia
  ·lia
  ·exact absurd hm z
theorem Lz(hq:n<d*d)(hd:2≤d)(hm:∀e:Int,2≤e→e<d→n % e≠0):gP n=true:=by
 refine p_.mpr fun k _=>?_;simp only [Bool.or_eq_true,decide_eq_true_eq];by_cases h1:k<2;·exact .inl (.inl h1)
 ·by_cases h2:n<(k:Int)*(k:Int)
  ·exact .inl (.inr h2)
  ·refine .inr (hm k (by lia) ?_)
   by_cases h3:(k:Int)<d;·exact h3
   ·have:d*d≤(k:Int)*(k:Int):=Int.mul_le_mul (by lia) (by lia) (by lia) (by lia)
    lia
inductive Td where
 | a (w:Str)
 | b (w:Str) (n:Int)
def Td.vs:Td→List V
 | .a w=>[.str w]
 | .b w n=>[.str w,.int n]
def Td.uO:Td→Bool
 | .a w=>decide (w="fractions")
 | .b _ _=>false
def Td.iU:Td→Bool
 | .a _=>false
 | .b w n=>decide (w="wheel") && (decide (2≤n) && decide (n≤997) && gP n)
def Td.good(d:Td):Bool:=d.uO || d.iU
def Td.prime:Td→V
 | .a _=>.aH
 | .b _ n=>.int n
end My
namespace L2
open PySem PySem.Spec PyProof.Rows
abbrev Cx.aZ (X:Cx) (N:List Str) (scope:Scope) (cl:List (Str×Addr)) (s₃:Shared) (H₃:Hp) (fp:List Addr):Cx:=
 {X with N:=N,s₀:=s₃,H₀:=H₃,env:=compEnvC scope cl s₃.heap.objs.size X.env,outer:=X.stack,stack:=X.stack,ex:=fp,fn:=fun _=>false,pn:=[],xe:=fun _ _=>False}
inductive iV (X:Cx):List Expr→TT→Prop where
 | nil:iV X [] (fun _ H Q=>Q true H)
 | one {c:Expr} {t:TT} (h:PT X c t):iV X [c] t
def ir(wi:TI)(ρ:St→St)(tt:TT)(te:TE):TE:=fun σ H Q=>wi σ H fun J H1=>∀D,H1 D=none→∃W:Nat→Nat→List V→Hp→Prop,(∃m,W 0 m [] (upd H1 D (.lst []))) ∧
 ∀i m ys Hc,W i m ys Hc→Hc D=some (.lst ys)∧((J.stop i Hc∧Q (.ref D) Hc)∨(J.go i Hc∧∀x H',J.dX i Hc x H'→tt (some x::ρ σ) H' fun b H2=>
  if b=true then te (some x::ρ σ) H2 fun y H3=>H3 D=some (.lst ys)∧ys.length<sizeLine∧∃m',m'<m∧W (i+1) m' (ys++[y]) (upd H3 D (.lst (ys++[y]))) else ∃m',m'<m∧W (i+1) m' ys H2))
section
variable {X:Cx} {N:List Str} {scope:Scope} {cl:List (Str×Addr)} {x:Str} {px pos:Pos} {iter elt:Expr} {ifs:List Expr} {wi:TI} {ρ:St→St} {tt:TT} {te:TE}
structure zY (X:Cx) (N:List Str) (scope:Scope) (cl:List (Str×Addr)) (x:Str) (ρ:St→St):Prop where
 nB:closureFor scope X.env=pure cl
 kind:scope.kind=.function
 uP:∀y∈scope.names,y.2≠.cell
 names:∀y∈scope.names,y.2=.local→scope.names.lookup y.1=some .local
 sub:∀p∈cl,X.env.cells.lookup p.1=some p.2
 has:∀y,((relabel scope X.env).names.lookup y=some .cell∨(relabel scope X.env).names.lookup y=some .free)→∃c,cl.lookup y=some c
 n0:N[0]?=some x
 nd:N.Nodup
 hx:scope.names.lookup x=some .local
 nC:∀(σ:St) (j:Nat) (v:V),(ρ σ)[j]?=some (some v)→∃(i:Nat) (y:Str),N[j+1]?=some y∧X.N[i]?=some y∧σ[i]?=some (some v)∧kB X.env.scope y∧(X.env.kindOf y=some .cell∨X.env.kindOf y=some .free)∧((relabel scope X.env).names.lookup y=some .cell∨(relabel scope X.env).names.lookup y=some .free)
 len:∀σ:St,σ.length=X.N.length→(ρ σ).length+1=N.length
theorem DW{names:List (Str×NameKind)}(h:(names.all fun q=>(q.2 != .cell && q.2 != .free) || (cl.lookup q.1).isSome)=true) :
  ∀y,(names.lookup y=some .cell∨names.lookup y=some .free)→∃c,cl.lookup y=some c:=fun y hy=>by
 have key:∀k:NameKind,(k != .cell && k != .free)=false→names.lookup y=some k→∃c,cl.lookup y=some c:=fun k hk e=>by have z:=p_.mp h (y,k) (iJ e);rw [hk,Bool.false_or] at z;exact y1.mp z
 rcases hy with e | e;·exact key .cell rfl e
 ·exact key .free rfl e
theorem join_some{o:Option (Option V)}{v:V}(h:some o.join=some (some v)):o=some (some v):=by
 cases o with
 | none=>cases h
 | some o=>cases h;rfl
def wG(X:Cx)(sc:Scope):List Str→List Nat→Prop
 | n::ns,i::is=>(X.N[i]?=some n∧kB X.env.scope n∧(X.env.kindOf n=some .cell∨X.env.kindOf n=some .free)∧((relabel sc X.env).names.lookup n=some .cell∨(relabel sc X.env).names.lookup n=some .free))∧wG X sc ns is
 | _,[]=>True
 | [],_::_=>False
theorem zZ{X:Cx}{sc:Scope}:∀{ns:List Str} {is:List Nat},wG X sc ns is→∀(σ:St) (j:Nat) (v:V),(is.map fun i=>σ[i]?.join)[j]?=some (some v)→∃(i:Nat) (n:Str),ns[j]?=some n∧X.N[i]?=some n∧σ[i]?=some (some v)∧kB X.env.scope n∧(X.env.kindOf n=some .cell∨X.env.kindOf n=some .free)∧((relabel sc X.env).names.lookup n=some .cell∨(relabel sc X.env).names.lookup n=some .free)
 | _,[],_,_,_,_,e=>by cases e
 | [],_::_,h,_,_,_,_=>h.elim
 | n::_,i::_,h,_,0,_,e=>⟨i,n,rfl,h.1.1,join_some e,h.1.2⟩
 | _::_,_::_,h,σ,j+1,v,e=>zZ h.2 σ j v e
theorem jj(is:List Nat)(h1:closureFor scope X.env=pure cl)(h:wG X scope N.tail is:=by repeat' first | exact True.intro | refine And.intro ⟨rfl,Or.inr (Or.inl rfl),.inl rfl,.inl rfl⟩ ?_)(h2:scope.kind=.function:=by rfl)(h3:∀y∈scope.names,y.2≠.cell:=by decide +kernel)(h4:∀y∈scope.names,y.2=.local→scope.names.lookup y.1=some .local:=by decide +kernel)(h5:∀p∈cl,X.env.cells.lookup p.1=some p.2:=by repeat' first | exact List.forall_mem_nil _ | refine vL.mpr ⟨rfl,?_⟩)(h6:((relabel scope X.env).names.all fun q=>(q.2 != .cell && q.2 != .free) || (cl.lookup q.1).isSome)=true:=by rfl)(h7:N[0]?=some x:=by rfl)(h8:N.Nodup:=by decide +kernel)(h9:scope.names.lookup x=some .local:=by rfl)(hr:∀σ:St,ρ σ=is.map fun i=>σ[i]?.join:=by exact fun _=>rfl)(hl:is.length+1=N.length:=by rfl):zY X N scope cl x ρ:=
 ⟨h1,h2,h3,h4,h5,DW h6,h7,h8,h9,fun σ j v e=>by rw [hr] at e;rw [←List.getElem?_tail];exact zZ h σ j v e,fun σ _=>by rw [hr,a8];exact hl⟩
theorem nE(B:zY X N scope cl x ρ)(hc:X.calm=true)(hi:PI X (.Name x px) iter wi)(ht:∀s₃ H₃ fp,iV (X.aZ N scope cl s₃ H₃ fp) ifs tt)(he:∀s₃ H₃ fp,PE (X.aZ N scope cl s₃ H₃ fp) elt te)
  (hs:∀x,foldedSetIterable iter X.env x=pure x:=by intro _;rfl):PE X (.ListComp elt [⟨.Name x px,iter,ifs,0⟩] scope pos) (ir wi ρ tt te):=by
 intro pins s σ H Q I h
 rw [eval_ListComp]
 refine ua (use:=none) rfl hs B.nB B.kind B.names (aE (hi pins s σ H _ I h) fun v s1 h1=>aE h1 fun m6 s2 h2=>?_)
 obtain ⟨it,fp,tn,J,H2,rfl,I2,T,df,f2,q2⟩:=h2
 have nD:H2 s2.heap.objs.size=none:=I2.aw.fresh (aD _)
 obtain ⟨W,⟨m0,w0⟩,turn⟩:=q2 _ nD
 refine pY (vM B.uP (by intro y hy;simp at hy) (fun h₁ d9 eX=>?_) B.kind)
 dsimp only at d9 eX ⊢
 generalize hD:s2.heap.objs.size=D at nD w0 turn d9 eX ⊢
 generalize dh:({s2 with heap:=s2.heap.push {cls:=.type "list",dict:=none,data:=.seq ([]:List Value).toArray}}:Shared)=s3
 have I3:Inv X pins σ (upd H2 D (.lst [])) s3:=by
  subst hD dh
  exact I2.laid (t':=s2.toks) (fun b u e=>bT _ e) (aD _) ⟨cu _,[],_,.nil,dS _ rfl⟩
 have e3:s3.heap=s2.heap.push {cls:=.type "list",dict:=none,data:=.seq ([]:List Value).toArray}:=by rw [←dh]
 have di:∀b o,s2.heap.get? b=some o→s3.heap.get? b=some o:=fun b o e=>by rw [e3];exact bT _ e
 rw [←e3] at d9 eX ⊢
 have below:∀b o,s3.heap.get? b=some o→b≠s3.heap.objs.size:=fun b o e=>cP (bg e)
 have cx:∀b o,s3.heap.get? b=some o→h₁.get? b=some o:=fun b o e=>eX.extBut b o (below b o e) (bT _ e)
 have eJ:∀b∈fp,∃o,s2.heap.get? b=some o∧∀v,o.data≠.cell v:=T.obj _ _ df
 have kR:∀b∈fp,b≠D:=fun b hb z=>by
  obtain ⟨o,e,_⟩:=eJ b hb
  rw [z,←hD] at e
  exact absurd (bg e) (fe _)
 have bP:∀y c,cl.lookup y=some c→X.env.cells.lookup y=some c:=fun y c e=>B.sub (y,c) (iJ e)
 have kT:=I3.mV
 have cY:(X.aZ N scope cl s3 (upd H2 D (.lst [])) fp).Ok:=by
  refine ⟨I.ok.mod,B.kind,I.ok.glob,I.ok.blt,aD _,fun a b c e1 e2=>I.ok.inj a b c (bP a c e1) (bP b c e2),fun y hy=>B.has y hy,(fun _ _ z _=>absurd z cU),(fun _=>I.ok.hd hc),I.ok.frames,.inl rfl,fun b hb=>⟨?_,fun y c e z=>?_⟩,fun b o e=>?_,aV I.ok.fI I3.sz,fun b o e hb=>?_,fun b hb z=>?_,I3.stack,kT⟩
  ·obtain ⟨o,e,_⟩:=eJ b hb
   exact below b o (di b o e)
  ·exact (f2 b hb).2.2.2.2.1 y c (bP y c e) z
  ·exact I3.bs b o e
  ·rcases (f2 b hb).2.2.2.1 with z | z
   ·exact I.ok.kC b o e z
   ·exact absurd (dB (bg e) (aV I.ok.fI z)) (fe _)
  ·rcases cp.mp (I3.mU b z) with z | z
   ·exact (f2 b hb).2.1 z
   ·exact (f2 b hb).2.2.1 z
 have IB:∀tk:Nat,Inv (X.aZ N scope cl s3 (upd H2 D (.lst [])) fp) [] (none::ρ σ) (upd H2 D (.lst [])) {s3 with heap:=h₁,toks:=tk}:=fun tk=>by
  refine ⟨cY,rfl,I3.bare,Un.kept cx,⟨_,d9,fun j y v e1 e2 e3=>?_⟩,fun y c e=>?_,?_,fun y c e=>I3.gL y c (bP y c e),(fun p hp=>nomatch hp),I3.aw.kept cx,?_⟩
  ·cases j with
   | zero=>cases e2
   | succ j=>
    obtain ⟨i,y',a1,a2,a3,a4,a5,a6⟩:=B.nC σ j v e2
    have jR:N[j+1]?=some y:=e1
    rw [jR] at a1
    cases a1
    obtain ⟨m,hn,hl⟩:=I3.loc
    obtain ⟨u,r,l⟩:=hl i y v a2 a3 a4
    refine ⟨u,r,.inr ⟨a6,?_⟩⟩
    obtain ⟨c,ec⟩:=B.has y a6
    rcases l with ⟨k,_⟩ | ⟨_,c',gQ,z⟩
    ·rcases a5 with q | q <;> (rw [k] at q;cases q)
    ·have:=bP y c ec
     rw [this] at gQ
     cases gQ
     obtain ⟨o,ho,hd⟩:=z
     exact ⟨c,ec,o,cx _ _ ho,hd⟩
  ·obtain ⟨v,o,ho,hd⟩:=I3.cell y c (bP y c e)
   exact ⟨v,o,cx _ _ ho,hd⟩
  ·exact I3.aw.fresh (aD _)
  ·show (none::ρ σ).length=N.length
   rw [eE]
   exact B.len σ I.len
 have fin:∀{σ':St} {H':Hp} {s':Shared},Inv (X.aZ N scope cl s3 (upd H2 D (.lst [])) fp) [] σ' H' s'→Q (.ref D) H'→compPost (model X.prog X.w) X.A X.xe none (EP X pins σ Q) (.ref D) s3.heap.objs.size (.ok .next) s':=fun{σ' H' s'} J q=>by
  obtain ⟨m,hn,_⟩:=J.loc
  refine ⟨m,hn,fun h' dD=>⟨.ref D,H',?_,rfl,q⟩⟩
  have old:∀b o,s3.heap.get? b=some o→b≠s3.heap.objs.size:=below
  have u1:Un (cf X.stack) fp (upd H2 D (.lst [])) H' s3.heap h':=by
   refine ⟨fun b o e n hb hx=>?_,fun b o e n hb hx=>?_,J.base.free,fun b o e hx=>?_,J.base.fG,J.base.fm,J.base.fH⟩
   ·exact (dD.2 b (old b o e)).trans (J.base.keep b o e n hb hx)
   ·obtain ⟨sl,z⟩:=J.base.slot b o e n hb hx
    exact ⟨sl,(dD.2 b (old b o e)).trans z⟩
   ·obtain ⟨o',z⟩:=J.base.there b o e hx
    exact ⟨o',(dD.2 b (old b o e)).trans z⟩
  have kU:bU X.prog X.w H' h':=fun b u e=>by
   refine (J.aw b u e).hE (fun c v hc z=>(dD.2 c fun y=>?_).trans z) (fun _ z=>z) fun _ _ z=>z
   have fr:=J.free
   have y':c=s3.heap.objs.size:=y
   rcases hc with hc | hc
   ·rw [←hc,y'] at e
    exact absurd (fr.symm.trans e) (by simp)
   ·rw [y'] at hc
    exact absurd (fr.symm.trans hc) (by simp)
  refine I3.kH (s':={s' with heap:=h'}) (ch:=fp) (J.os) u1 kU J.bare fun b hb=>?_
  obtain ⟨g0,g1,g2,g3,g4,g5⟩:=f2 b hb
  exact ⟨g3,g1,g4,g5⟩
 have dM:∀{H':Hp},(∀b∈fp,H' b=none)→∀b∈fp,jd (X.aZ N scope cl s3 (upd H2 D (.lst [])) fp) [] H' b:=fun hn b hb=>by
  refine ⟨hn b hb,?_,?_,.inl hb,fun y c e z=>(f2 b hb).2.2.2.2.1 y c (bP y c e) z,fun p hp=>nomatch hp⟩
  ·obtain ⟨o,e,_⟩:=eJ b hb
   exact below b o (di b o e)
  ·exact cY.kD b hb
 have loop:∀tk:Nat,codeAny (model X.prog X.w) X.A (.compLoop (.ListComp elt [⟨.Name x px,iter,ifs,0⟩] scope pos) 0 (.ref it) (.ref D) (compEnvC scope cl s3.heap.objs.size X.env))
   (compPost (model X.prog X.w) X.A X.xe none (EP X pins σ Q) (.ref D) s3.heap.objs.size) {s3 with heap:=h₁,toks:=tk}:=fun tk=>by
  refine y4 (fun n s'=>∃i ys o H',Inv (X.aZ N scope cl s3 (upd H2 D (.lst [])) fp) [] (o::ρ σ) H' s'∧tn i s'.heap∧(∀b∈fp,H' b=none)∧W i n ys H') ?_ m0
   ⟨0,[],none,_,IB tk,T.keep _ _ _ df fun b hb o e=>cx _ _ (di _ _ e),fun b hb=>by rw [aN (kR b hb)];exact (f2 b hb).1,w0⟩
  rintro n s4 ⟨i,ys,o,H4,I4,gR,gS,w4⟩
  obtain ⟨wH,kW⟩:=turn i n ys H4 w4
  rcases kW with ⟨stop,qn⟩ | ⟨go,step⟩
  ·refine bF (T.done (X.aZ N scope cl s3 (upd H2 D (.lst [])) fp) rfl rfl rfl hc i [] s4 _ H4 (fun _ _=>False) I4 (dM gS) gR stop) (fun r s5 ⟨hr,I5⟩=>?_) fun _ _ z=>z.elim
   subst hr
   exact fin I5 qn
  ·refine bF (T.item (X.aZ N scope cl s3 (upd H2 D (.lst [])) fp) rfl rfl rfl hc i [] s4 _ H4 (fun _ _=>False) I4 (dM gS) gR go) (fun r s5 ⟨u,hr,h5⟩=>?_) fun _ _ z=>z.elim
   subst hr
   have z:letOwnedTupleGo (.Name x px) (.ref it) u=pure ():=rfl
   rw [z] at h5
   show wpAny _ _ ((pure ():Sem Unit) >>= fun _=>assign (.Name x px) (compEnvC scope cl s3.heap.objs.size X.env) u) _ _ s5
   refine bL (bF h5 (fun _ s5 ⟨y,H5,I5,r5,y5,dN,je⟩=>?_) fun _ _ z=>z.elim)
   have jf:=I5.pinned (dM je) (T.obj _ _ dN)
   have pg:PG (X.aZ N scope cl s3 (upd H2 D (.lst [])) fp) (.Name x px) (b6 0):=cA (i:=0) B.nd B.n0 (.inl (iL B.hx)) (.inr (iL B.hx))
   have again:∀{σ7:St} {H7:Hp} {s7:Shared},Inv (X.aZ N scope cl s3 (upd H2 D (.lst [])) fp) ([]++gO fp s5.heap) σ7 H7 s7→Inv (X.aZ N scope cl s3 (upd H2 D (.lst [])) fp) [] σ7 H7 s7∧tn (i+1) s7.heap∧∀b∈fp,H7 b=none:=fun{σ7 H7 s7} I7=>by
    refine ⟨I7.lT,T.keep _ _ _ dN fun b hb o e=>(I7.pin (b,o) (cV _ (cV _ (iQ hb e)))).1,fun b hb=>?_⟩
    obtain ⟨o,e,d⟩:=T.obj _ _ dN b hb
    exact (I7.pin (b,o) (cV _ (cV _ (iQ hb e)))).2.1
   refine bF (pg _ s5 _ H5 y u (fun σ2 H6=>σ2=some y::ρ σ∧H6=H5) jf r5 ⟨rfl,rfl⟩) (fun _ s6 ⟨σ6,H6,I6,q6⟩=>?_) fun _ _ z=>z.elim
   obtain ⟨rfl,rfl⟩:=q6
   have kX:=step y _ y5
   have tests:∀{eY:TT},iV (X.aZ N scope cl s3 (upd H2 D (.lst [])) fp) ifs eY→∀{R:Bool→Hp→Prop},eY (some y::ρ σ) H6 R→wpAny (model X.prog X.w) X.A
     (forIn ifs true fun c r=>if r=true then do let ok ←isTrue c (compEnvC scope cl s3.heap.objs.size X.env) (eval c (compEnvC scope cl s3.heap.objs.size X.env));pure (ForInStep.yield ok) else pure (ForInStep.yield r))
     (fun ok s7=>∃H7,Inv (X.aZ N scope cl s3 (upd H2 D (.lst [])) fp) ([]++gO fp s5.heap) (some y::ρ σ) H7 s7∧R ok H7) (fun _ _=>False) s6:=fun{eY} p {R} hR=>by
    cases p with
    | nil=>exact ub ⟨_,I6,hR⟩
    | one p=>exact uc (p _ s6 _ _ _ I6 hR)
   refine bF (tests (ht s3 _ fp) kX) (fun ok s7 ⟨H7,I7,q7⟩=>?_) fun _ _ z=>z.elim
   cases ok with
   | false=>
    obtain ⟨m',dZ,w7⟩:=q7
    obtain ⟨a1,a2,a3⟩:=again I7
    exact ⟨m',dZ,i+1,ys,_,H7,a1,a2,a3,w7⟩
   | true=>
    refine bF (he s3 _ fp _ s7 _ H7 _ I7 q7) (fun ev s8 ⟨z,H8,I8,r8,kY,hz,m',dZ,w8⟩=>?_) fun _ _ z=>z.elim
    refine bF (qp (X:=X.aZ N scope cl s3 (upd H2 D (.lst [])) fp) _ s8 _ H8 (.ref D) [z] (.ref D) [ev] (fun _ H9=>H9=upd H8 D (.lst (ys++[z]))) I8 rfl (.cons r8 .nil) ⟨D,ys,z,rfl,rfl,kY,hz,rfl⟩) (fun _ s9 ⟨_,H9,I9,_,q9⟩=>?_) fun _ _ z=>z.elim
    subst q9
    obtain ⟨a1,a2,a3⟩:=again I9
    exact ⟨m',dZ,i+1,ys++[z],_,_,a1,a2,a3,w8⟩
 have start:=loop (s3.toks+([]:List (Str×Value)).length)
 have es:({s3 with heap:=h₁,toks:=s3.toks+([]:List (Str×Value)).length}:Shared)={s2 with heap:=h₁,toks:=s2.toks+([]:List (Str×Value)).length}:=by rw [←dh]
 rw [es] at start
 exact ud start (T.self _ 0 _ _ _ (T.keep _ _ _ df fun b hb o e=>cx _ _ (di _ _ e)) start)
end
def b7(i:Int):Prop:=i.natAbs<2 ^ 2048
variable {i:Int}
theorem b7.log(h:b7 i):i.natAbs.log2<2048:=by
 by_cases z:i.natAbs=0;·rw [z];decide
 ·exact (Nat.log2_lt z).mpr h
def DX(i j:Int):Prop:=j≠0∧b7 j
def z5(i j:Int):Prop:=b7 i∧b7 j
theorem z5.ok{j:Int}(h:z5 i j):IntMulOk i j:=by
 have b:∀{k:Int},b7 k→Builtin.Int.intBits k≤2048:=fun{k} hk=>by
  have z:=hk.log;unfold Builtin.Int.intBits
  split <;> lia
 unfold IntMulOk;have e:Builtin.Int.intTooBig ((Builtin.Int.intBits i:Int)+(Builtin.Int.intBits j:Int))=false:=by
  unfold Builtin.Int.intTooBig;have h1:=b h.1;have h2:=b h.2;have h3:(4096:Int)≤bitsLine:=by decide +kernel
  exact dA (by lia)
 intro z;rw [Bool.and_eq_true] at z;have z2:=z.2;rw [show Builtin.Int.intTooBig ((Builtin.Int.intBits i:Int)+(Builtin.Int.intBits j:Int))=false from e] at z2;cases z2
theorem DY:∀{xs:List V} {us:List Value},xs.length=us.length→(∀(i:Nat) (x:V) (u:Value),xs[i]?=some x→us[i]?=some u→RelV x u)→Vals xs us
 | [],[],_,_=>.nil
 | [],_::_,h,_=>by simp at h
 | _::_,[],h,_=>by simp at h
 | x::xs,u::us,h,k=>.cons (k 0 x u rfl rfl) (DY (by simpa using h) fun i a b h1 h2=>k (i+1) a b (by simpa using h1) (by simpa using h2))
section
variable {X:Cx}
theorem z6:cg X (binaryOp .FloorDiv) (rI DX fun i j=>.int (i.fdiv j)):=m9 fun _ _ _ _ _ _ _ hc q=>floordiv_int hc.1 q (.inl (PyProof.noPylong_of_log2 (dB hc.2.log (by decide))))
theorem lZ:cg X (binaryOp .Mult) (rI z5 fun i j=>.int (i*j)):=m9 fun _ _ _ _ _ _ _ hc q=>mul_int q hc.ok
def LA(i j:Int):Prop:=0<j∧b7 j
theorem jS:cg X (binaryOp .FloorDiv) (rI LA fun i j=>.int (i / j)):=m9 fun i j _ _ _ _ _ hc q=>floordiv_int (Int.ne_of_gt hc.1) (by rw [Int.fdiv_eq_ediv_of_nonneg i (Int.le_of_lt hc.1)];exact q) (.inl (PyProof.noPylong_of_log2 (dB hc.2.log (by decide))))
def allR(K:ay):List V→Hp→VK→Prop:=fun xs H Q=>∃(p:Addr) (bs:List Bool),xs=[.ref p]∧bC K H p (bs.map V.bl)∧Q (.bl (bs.all id)) H
theorem LB{K:ay}(hc:X.calm=true)(hK:X.K=K:=by rfl):gv X (.builtin "all") (allR K):=by
 intro pins s σ H xs us Q I r h;subst hK;obtain ⟨p,bs,rfl,hq,q⟩:=h;obtain ⟨u,rfl,ru⟩:=vals1 r;cases ru;obtain ⟨ag,rv,pl,hz⟩:=I.list hq;have d_:p≠s.heap.objs.size:=by obtain ⟨o,e,_⟩:=pl.isList;exact cP (bg e)
 have hl:ag.length=bs.length:=by rw [←rv.length,a8]
 refine call_all_walk (vG pl.isList ?_);refine ⟨s.heap.objs.size,_,_,_,_,_,fun i=>bs.getD i true,rfl,Walks.list (A:=X.A.in1) (show X.A.in1.handled=none from I.ok.hd hc) s.heap.objs.size p d_ ag.toArray,⟨⟨_,dS _ rfl,rfl,rfl⟩,pl.isList.push _⟩,fun i v s' Q' E' hv fZ=>?_,fun h' tk hk=>?_⟩
 ·have fX:ag[i]?=some v:=by simpa using hv
  cases eb:bs[i]? with
  | none=>
   have:=rv.none_of (i:=i) (by rw [cE,eb];rfl)
   rw [this] at fX;cases fX
  | some b=>
   obtain ⟨u,hu,ru⟩:=rv.get (i:=i) (x:=V.bl b) (by rw [cE,eb];rfl)
   rw [hu] at fX;cases fX;cases ru;have e:bs.getD i true=b:=by rw [i_,eb];rfl
   have nF:Q' (bs.getD i true) s':=fZ;rw [e] at nF;exact lJ nF
 ·refine ⟨.bl (bs.all id),H,I.kept fun b o e=>hk b o (fun z=>?_) (bT _ e),?_,q⟩
  ·exact absurd (bg e) (by rw [ja.mp z];exact fe _)
  ·show Value.bool _=Value.bool _
   congr 1
   rw [cW,hl];clear hk q rv pl hz hl hq
   induction bs with
   | nil=>rfl
   | cons b bs ih=>rw [eE,y3,List.all_cons,List.all_map,List.all_cons];show (b && (List.range bs.length).all fun i=>bs.getD i true)=(b && bs.all id);rw [ih]
def LC:List V→Hp→VK→Prop:=fun xs H Q=>∃j:Int,xs=[.int j]∧∀p,H p=none→Q (.ref p) (upd H p (.g_ 0 j))
theorem z7:gv X (.type "range") LC:=by intro pins s σ H xs us Q I r h;obtain ⟨j,rfl,q⟩:=h;obtain ⟨u,rfl,ru⟩:=vals1 r;obtain ⟨t,rfl⟩:=ru;refine call_range_1 ⟨.ref s.heap.objs.size,_,I.laid (o:=.g_ 0 j) (fun b o e=>bT _ e) (aD _) ⟨_,_,_,dS _ rfl⟩,rfl,q _ (I.aw.fresh (aD _))⟩
def eZ(n:Nat):List V:=(List.range n).map fun i:Nat=>V.int (i:Int)
def LD:List V→Hp→VK→Prop:=fun xs H Q=>∃p n,xs=[.ref p]∧H p=some (.g_ 0 (n:Nat))∧n≤10000∧∀l,H l=none→Q (.ref l) (upd H l (.lst (eZ n)))
theorem z8(hc:X.calm=true):gv X (.type "list") LD:=by
 intro pins s σ H xs us Q I r h;obtain ⟨p,n,rfl,hp,hn,q⟩:=h;obtain ⟨u,rfl,ru⟩:=vals1 r;cases ru;obtain ⟨t,u,v,e⟩:=(show cz X.prog X.w H s.heap p (.g_ 0 n) from I.aw p _ hp);refine call_list_range (n:=n) (I.ok.hd hc) e (small_one (by lia) (by lia) (by lia) (by lia)) (by rw [rangeSize_one];split <;> lia) (by lia) fun h' tk acc c hk hD hit=>?_
 refine ⟨.ref s.heap.objs.size,_,I.laid (o:=.lst (eZ n)) (fun b o e=>hk b o e) (aD _) ⟨?_,acc.toList,c,?_,?_⟩,rfl,q _ (I.aw.fresh (aD _))⟩
 ·unfold eZ
  rw [a8,dH];exact aV hn (by decide)
 ·refine DY ?_ fun i x u h1 h2=>?_
  ·unfold eZ
   rw [a8,dH,Array.length_toList,hit.1]
  ·have nG:acc[i]?=some u:=by simpa using h2
   obtain ⟨qv,e'⟩:=hit.2 i u nG;unfold eZ at h1;rw [cE] at h1;have hi:i<n:=by have z:=(Array.getElem?_eq_some_iff.mp nG).1;rw [hit.1] at z;exact z
   rw [jb hi] at h1;cases h1;exact ⟨qv,by rw [e'];simp⟩
 ·rw [hD]
end
theorem boot_all:bootBuiltins "all"=some (.builtin "all"):=by decide +kernel
theorem z9:bootBuiltins "range"=some (.type "range"):=by decide +kernel
def z_:Expr→Bool
 | .Starred _ _=>false
 | _=>true
variable {e:Expr} {es:List Expr}
theorem LF{env:Env}(h:z_ e=true):starEach (e::es) env=(false,eval e env)::starEach es env:=by cases e <;> first | rfl | cases h
theorem fL{X:Cx}{e:Expr}{es:List Expr}{te:TE}{t:TA}(hs:z_ e=true)(ha:PE X e te)(hr:PA X es t):PA X (e::es) (qo te t):=
 JZ ha hr (LF hs)
variable {X:Cx} {te:TE}
theorem aa{t:TA}(ha:PE X e te)(hr:PA X es t)(hs:z_ e=true:=by rfl):PA X (e::es) (qo te t):=fL hs ha hr
variable {pos pos':Pos} {x:Str}
theorem DZ{i:Nat}(hs:swapsWith e (some (.Name x pos')) pos.line X.env=pure false)(hf:X.fn x=true∨X.env.scope.names.lookup x=some .local)(hN:X.N.Nodup)(hi:X.N[i]?=some x)(hx:Loc X.env.scope x)(he:PE X e te) :
  PS X (.Assign [.Name x pos'] e pos) (lS te (b6 i)):=Jb hN hi hx he hs hf
theorem putL(i:Nat)(hN:X.N.Nodup)(he:PE X e te)(hs:swapsWith e (some (.Name x pos')) pos.line X.env=pure false:=by rfl)(hi:X.N[i]?=some x:=by rfl)(hx:X.env.scope.names.lookup x=some .local:=by rfl) :
  PS X (.Assign [.Name x pos'] e pos) (lS te (b6 i)):=DZ hs (.inr hx) hN hi (.inl hx) he
theorem nH(i:Nat)(hN:X.N.Nodup)(he:PE X e te)(hs:swapsWith e (some (.Name x pos')) pos.line X.env=pure false:=by rfl)(hf:X.fn x=true∨X.env.scope.names.lookup x=some .local:=by first | exact .inl rfl | exact .inr rfl | assumption)(hi:X.N[i]?=some x:=by rfl)(hx:X.env.scope.names.lookup x=some .cell:=by rfl) :
  PS X (.Assign [.Name x pos'] e pos) (lS te (b6 i)):=DZ hs hf hN hi (.inr hx) he
def LG:V→List V→Hp→VK→Prop:=fun x xs H Q=>∃i:Int,x=.int i∧xs=[]∧Q (.int ((Builtin.Int.intBits i:Nat):Int)) H
theorem LH:zI X "int.bit_length" LG:=by intro pins s σ H x xs v us Q I rx rv h;obtain ⟨i,rfl,rfl,q⟩:=h;have Aa:=rv.zero;subst Aa;obtain ⟨t,rfl⟩:=rx;exact call_int_bit_length ⟨.int ((Builtin.Int.intBits i:Nat):Int),H,I.tok _,⟨_,rfl⟩,q⟩
theorem LI(h:b7 i):Builtin.Int.intBits i≤2048:=by
 have z:=h.log;unfold Builtin.Int.intBits
 split <;> lia
end L2
namespace My
open PySem L2
theorem Ab(a b:Str):decide (V.str a=V.str b)=decide (a=b):=by
 by_cases h:a=b;·subst h;simp
 ·rw [dA h];exact dA fun e=>h (V.str.inj e)
theorem jT(a b:Int):decide (V.int a=V.int b)=decide (a=b):=by
 by_cases h:a=b;·subst h;simp
 ·rw [dA h];exact dA fun e=>h (V.int.inj e)
variable {K:ay}
theorem Ac{T:String}:PySem.W.kitOne K (.type T) (.type T)=some true:=by unfold PySem.W.kitOne;rw [ao (beq_self_eq_true _)]
variable {H:Hp}
theorem aW{p:Addr}{o:HO}(h:H p=none):ae H (upd H p o):=fun b u e=>by rw [aN (fT e h)];exact e
variable {i:Int}
theorem D3{α:Type}{xs:List α}(h0:0≤i)(h1:i<xs.length):∃v,iT xs i=some v∧v∈xs:=by
 obtain ⟨k,rfl⟩:∃k:Nat,i=(k:Int):=⟨i.toNat,by lia⟩
 have hk:k<xs.length:=by lia
 exact ⟨xs[k],kN (by simp [hk]),gk _⟩
theorem jU(v:V):([(("prime":Str),v)]:List (Str×V)).lookup ("prime":Str)=some v:=by simp [List.lookup]
inductive Any (H:Hp):V→Prop where
 | aH:Any H .aH
 | bl (b:Bool):Any H (.bl b)
 | int (i:Int):Any H (.int i)
 | str (x:Str):Any H (.str x)
 | lst {a:Addr} {xs:List V} (e:H a=some (.lst xs)):Any H (.ref a)
 | tup {a:Addr} {xs:List V} (e:H a=some (.tup xs)):Any H (.ref a)
 | qu {a:Addr} (e:H a=some (DT a)):Any H (.ref a)
def qw:V→Bool
 | .int _=>true
 | _=>false
def qx:V→Bool
 | .bl _=>true
 | _=>false
def wI(H:Hp):V→Bool
 | .ref a=>(match H a with | some (.tup _)=>true | _=>false)
 | _=>false
variable {v:V}
theorem Any.zW(h:Any H v):∃T:String,uM K H v (.type T)∧PySem.W.kitOne K (.type T) (.type "int")=some (qw v || qx v)∧PySem.W.kitOne K (.type T) (.type "bool")=some (qx v) ∧
  PySem.W.kitOne K (.type T) (.type "tuple")=some (wI H v):=by
 cases h with
 | aH=>exact ⟨"NoneType",.of .aH,rfl,rfl,rfl⟩
 | bl b=>exact ⟨"bool",.of (.bl b),rfl,rfl,rfl⟩
 | int i=>exact ⟨"int",.of (.int i),rfl,rfl,rfl⟩
 | str x=>exact ⟨"str",.of (.str x),rfl,rfl,rfl⟩
 | lst e=>exact ⟨"list",.of (.lst e),rfl,rfl,by unfold wI;dsimp only;rw [e];rfl⟩
 | tup e=>exact ⟨"tuple",.of (.tup e),rfl,rfl,by unfold wI;dsimp only;rw [e];rfl⟩
 | qu e=>exact ⟨"dict",.qu e,rfl,rfl,by unfold wI;dsimp only;rw [e];rfl⟩
theorem LJ(h:qx v=true):qw v=false:=by cases v <;> first | rfl | cases h
theorem fv{m:Str}(e:(m == ("prime":Str))=false):([(("prime":Str),v)]:List (Str×V)).lookup m=none:=by simp [List.lookup,e]
theorem LK(m n:Nat):Nat.gcd n (m % n)=Nat.gcd m n:=by rw [Nat.gcd_comm n,←Nat.gcd_rec,Nat.gcd_comm]
theorem D4(a:Int):(if a<0 then -a else a)=(a.natAbs:Int):=by split <;> lia
def lowG(a b:Int):Int:=if b<0 then 0-(Int.gcd a b:Int) else (Int.gcd a b:Int)
variable {a b:Int}
theorem Ad(h:b≠0):0<Int.gcd a b:=mG _ (ko.mpr h)
theorem LL(h:b≠0)(m:b7 b):Int.gcd a b<2 ^ 2048:=jE (Nat.gcd_le_right _ (ko.mpr h)) m
theorem LM(h:b≠0)(m:b7 b):DX 0 (lowG a b):=by
 have h1:=Ad (a:=a) h;have h2:=LL (a:=a) h m;unfold lowG;refine ⟨by split <;> lia,?_⟩
 unfold b7
 split
 ·rw [show (0-(Int.gcd a b:Int)).natAbs=Int.gcd a b by lia];exact h2
 ·rw [Int.natAbs_natCast];exact h2
theorem b7.of_lt(h1:-(10 ^ 70)<i)(h2:i<10 ^ 70):b7 i:=by
 have h3:i.natAbs<2 ^ 240:=by lia
 exact dB h3 (Nat.pow_le_pow_right (by decide) (by decide))
def LN:Sp:=fun vs H Q _=>∃v:V,vs=[v]∧Any H v∧Q (.bl (qw v)) H
def LO:Sp:=fun vs H Q _=>∃a b:Int,vs=[.int a,.int b]∧b7 b∧Q (.int (Int.gcd a b:Int)) H
def LP:Sp:=fun vs H Q _=>∃n:Int,vs=[.int n]∧2≤n∧n≤997∧Q (.bl (gP n)) H
def LQ:Sp:=fun vs H Q _=>∃(p:Addr) (d:Td),vs=[.ref p]∧H p=some (.tup d.vs)∧Q (.bl d.uO) H
def LR:Sp:=fun vs H Q _=>∃(p:Addr) (d:Td),vs=[.ref p]∧H p=some (.tup d.vs)∧Q (.bl d.iU) H
def LS(C N:Addr):Sp:=fun vs H Q E=>∃(x dx p:Addr) (d:Td),vs=[.ref x,.ref p]∧H x=some (.ins C dx [])∧H p=some (.tup d.vs) ∧
 (d.good=true→Q .aH (upd H x (.ins C dx [("prime",d.prime)])))∧(d.good=false→E (.ref N) none H)
def cZ(C:Addr)(H:Hp)(x:Addr)(q:Int):Prop:=∃dx,H x=some (.ins C dx [("prime",if q=0 then .aH else .int q)])
variable {H':Hp} {q:Int}
theorem cZ.mono{C:Addr}{x:Addr}(h:cZ C H x q)(s:ae H H'):cZ C H' x q:=by obtain ⟨dx,e⟩:=h;exact ⟨dx,s _ _ e⟩
def wJ(K:ay):Sp:=fun vs H Q _=>∃(a:Addr) (ns:List Int),vs=[.ref a]∧bC K H a (ns.map V.int)∧ns.length≤63∧∀H',Q (.bl true) H'
theorem LU(xs:List V)(k:Nat):ni xs none (some (k:Int))=xs.take k:=by unfold ni;rw [HT.Ka,HT.Kb,List.drop_zero,Nat.sub_zero];rw [List.take_eq_take_iff];lia
variable {u:Int}
theorem qy{v:Int}(hu:0<u)(h:0<u*v):0<v:=by
 by_cases z:0<v;·exact z
 ·have y:=qa (show v≤0 by lia) (show 0≤u by lia)
  rw [gq] at y;lia
theorem l0(h:∀d:Nat,(d:Int)∣a→(d:Int)∣b→d=1):Int.gcd a b=1:=h _ (mH ..) (mI ..)
variable {d:Nat}
theorem l4(h:Int.gcd a b=1)(h1:(d:Int)∣a)(h2:(d:Int)∣b):d=1:=by have z:(d:Int)∣((Int.gcd a b:Nat):Int):=Int.dvd_coe_gcd h1 h2;rw [h] at z;exact Nat.dvd_one.mp (Int.natCast_dvd_natCast.mp z)
variable {c:Int}
theorem nI(h:Int.gcd b c=1)(h1:(d:Int)∣b)(h2:(d:Int)∣a*c):(d:Int)∣a:=by
 have hc:Nat.Coprime d c.natAbs:=by have z:Nat.Coprime b.natAbs c.natAbs:=h;exact Nat.Coprime.coprime_dvd_left (Int.ofNat_dvd_left.mp h1) z
 have z:d∣a.natAbs*c.natAbs:=by rw [←fE];exact Int.ofNat_dvd_left.mp h2
 exact Int.ofNat_dvd_left.mpr (hc.dvd_of_dvd_mul_right z)
theorem qz(h1:Int.gcd a b=1)(h2:Int.gcd a c=1):Int.gcd a (b*c)=1:=by refine l0 fun d x y=>?_;exact l4 h1 x (nI (a:=b) (b:=a) (c:=c) h2 x y)
theorem gB(h:Int.gcd a b=1):Int.gcd b a=1:=by rw [Int.gcd_comm];exact h
theorem qA(h:Int.gcd a b=1)(h1:c∣a):Int.gcd c b=1:=l0 fun d x y=>l4 h (kq x h1) y
theorem uQ(h:b≠0):Int.gcd (a / (Int.gcd a b:Int)) (b / (Int.gcd a b:Int))=1:=by have z:0<Int.gcd a b:=mG _ (ko.mpr h);exact Int.gcd_ediv_gcd_ediv_gcd z
structure bQ (x m:Int):Prop where
 pos:1≤m
 iu:Int.gcd x m=1
variable {x m y n:Int}
theorem LV(a:bQ x m)(b:bQ y n) :
  bQ ((x / (Int.gcd x n:Int))*(y / (Int.gcd y m:Int))) ((m / (Int.gcd y m:Int))*(n / (Int.gcd x n:Int))) ∧
   (x / (Int.gcd x n:Int))*(y / (Int.gcd y m:Int))*(m*n)=x*y*((m / (Int.gcd y m:Int))*(n / (Int.gcd x n:Int))):=by
 have m0:=a.pos;have n0:=b.pos;have p1:0<Int.gcd x n:=mG _ (ko.mpr (by lia))
 have p2:0<Int.gcd y m:=mG _ (ko.mpr (by lia))
 have c1:=uQ (a:=x) (b:=n) (by lia)
 have c2:=uQ (a:=y) (b:=m) (by lia)
 obtain ⟨x',ex⟩:=mH (a:=x) (b:=n);obtain ⟨n',en⟩:=mI (a:=x) (b:=n);obtain ⟨y',ey⟩:=mH (a:=y) (b:=m);obtain ⟨m',em⟩:=mI (a:=y) (b:=m);have ac:=a.iu;have bc:=b.iu;generalize Int.gcd x n=g at *;generalize Int.gcd y m=k at *;have g0:(g:Int)≠0:=by lia
 have k0:(k:Int)≠0:=by lia
 have gx:x / (g:Int)=x':=by rw [ex];exact g8 _ g0
 have gn:n / (g:Int)=n':=by rw [en];exact g8 _ g0
 have gy:y / (k:Int)=y':=by rw [ey];exact g8 _ k0
 have gm:m / (k:Int)=m':=by rw [em];exact g8 _ k0
 rw [gx,gn] at c1;rw [gy,gm] at c2;rw [gx,gn,gy,gm];have mp:0<m':=by
  have z:0<(k:Int)*m':=by rw [←em];lia
  exact qy (by lia) z
 have np:0<n':=by
  have z:0<(g:Int)*n':=by rw [←en];lia
  exact qy (by lia) z
 have xm:Int.gcd x' m'=1:=qA (gB (qA (gB ac) ⟨k,by rw [em,dI]⟩)) ⟨g,by rw [ex,dI]⟩
 have yn:Int.gcd y' n'=1:=qA (gB (qA (gB bc) ⟨g,by rw [en,dI]⟩)) ⟨k,by rw [ey,dI]⟩
 refine ⟨⟨Int.mul_pos mp np,?_⟩,?_⟩;·exact qz (gB (qz (gB xm) (gB c2))) (gB (qz (gB c1) (gB yn)))
 ·rw [ex,en,ey,em]
  simp only [kr,dI,vN]
theorem LW(a:bQ x m)(b:bQ y n)(h:Int.gcd m n=1):bQ (x*n+y*m) (m*n):=by
 have m0:=a.pos;have n0:=b.pos;refine ⟨Int.mul_pos (by lia) (by lia),qz (l0 fun d h1 h2=>?_) (l0 fun d h1 h2=>?_)⟩
 ·have z:(d:Int)∣x*n:=(Int.dvd_add_left (kq h2 (vO ..))).mp h1
  exact l4 a.iu (nI h h2 z) h2
 ·have z:(d:Int)∣y*m:=(Int.dvd_add_right (kq h2 (vO ..))).mp h1
  exact l4 b.iu (nI (gB h) h2 z) h2
theorem LX(a:bQ x m)(b:bQ y n)(g k:Nat)(eg:g=Int.gcd m n)(top:Int)(et:top=x*(n / (g:Int))+y*(m / (g:Int)))(ek:k=Int.gcd top (g:Int)) :
  bQ (top / (k:Int)) (m / (g:Int)*(n / (k:Int)))∧top / (k:Int)*(m*n)=(x*n+y*m)*(m / (g:Int)*(n / (k:Int))):=by
 have m0:=a.pos
 have n0:=b.pos
 have gp:0<g:=by rw [eg];exact mG _ (ko.mpr (by lia))
 have kp:0<k:=by rw [ek];exact mG _ (ko.mpr (by lia))
 have c1:=uQ (a:=m) (b:=n) (by lia)
 have c2:=uQ (a:=top) (b:=(g:Int)) (by lia)
 rw [←eg] at c1
 rw [←ek] at c2
 obtain ⟨m',em⟩:=mH (a:=m) (b:=n)
 obtain ⟨n',en⟩:=mI (a:=m) (b:=n)
 obtain ⟨t',e1⟩:=mH (a:=top) (b:=(g:Int))
 obtain ⟨g',e2⟩:=mI (a:=top) (b:=(g:Int))
 rw [←eg] at em en
 rw [←ek] at e1 e2
 have g0:(g:Int)≠0:=by lia
 have k0:(k:Int)≠0:=by lia
 have dm:m / (g:Int)=m':=by rw [em];exact g8 _ g0
 have dn:n / (g:Int)=n':=by rw [en];exact g8 _ g0
 have dt:top / (k:Int)=t':=by rw [e1];exact g8 _ k0
 have dg:(g:Int) / (k:Int)=g':=by rw [e2];exact g8 _ k0
 have dk:n / (k:Int)=g'*n':=by rw [en,e2,kr];exact g8 _ k0
 rw [dm,dn] at c1 et
 rw [dt,dg] at c2
 rw [dt,dm,dk]
 have pos:∀{u v:Int},0<u→0<u*v→0<v:=fun hu hz=>qy hu hz
 have mp:0<m':=pos (u:=(g:Int)) (by lia) (by rw [←em];lia)
 have np:0<n':=pos (u:=(g:Int)) (by lia) (by rw [←en];lia)
 have LY:0<g':=pos (u:=(k:Int)) (by lia) (by rw [←e2];lia)
 have tm:Int.gcd top m'=1:=l0 fun d h1 h2=>by
  rw [et] at h1
  have z:(d:Int)∣x*n':=(Int.dvd_add_left (kq h2 (vO ..))).mp h1
  exact l4 a.iu (nI c1 h2 z) (kq h2 ⟨g,by rw [em,dI]⟩)
 have tn:Int.gcd top n'=1:=l0 fun d h1 h2=>by
  rw [et] at h1
  have z:(d:Int)∣y*m':=(Int.dvd_add_right (kq h2 (vO ..))).mp h1
  exact l4 b.iu (nI (gB c1) h2 z) (kq h2 ⟨g,by rw [en,dI]⟩)
 have tt:t'∣top:=⟨k,by rw [e1,dI]⟩
 refine ⟨⟨Int.mul_pos mp (Int.mul_pos LY np),qz (qA tm tt) (qz c2 (qA tn tt))⟩,?_⟩
 have q:(k:Int)*t'=x*n'+y*m':=by rw [←e1,et]
 have l:t'*(m*n)=(k:Int)*t'*(m'*(g'*n')*(g:Int)):=by
  rw [em,en]
  conv=>lhs;rw [show (g:Int)*n'=(k:Int)*g'*n' by rw [←e2]]
  simp only [kr,dI,vN]
 rw [l,q,em,en]
 simp only [Int.add_mul,kr,dI,vN]
def bJ(x:Int):Prop:=x.natAbs≤10 ^ 300
theorem LZ:(10:Nat) ^ 300<2 ^ 2048:=by decide +kernel
theorem bJ.mid(h:bJ x):b7 x:=jE h LZ
theorem bJ.over{g:Int}(h:bJ x):bJ (x / g):=aV (y6 x g) h
theorem bJ.neg(h:bJ x):bJ (-x):=by unfold bJ;rw [mJ];exact h
theorem bJ.gcd(h:bJ y)(z:y≠0):bJ (Int.gcd x y:Int):=by unfold bJ;rw [Int.natAbs_natCast];exact aV (Nat.gcd_le_right _ (ko.mpr z)) h
theorem wK(z:y≠0):(0:Int)<(Int.gcd x y:Int):=by have:=Ad (a:=x) z;lia
def L0:Sp:=fun vs H Q _=>∃(p q:Addr) (x m y n:Int),vs=[.ref p,.ref q]∧H p=some (.tup [.int x,.int m])∧H q=some (.tup [.int y,.int n])∧bQ x m∧bQ y n∧bJ x∧bJ m∧bJ y∧bJ n ∧
 ∀(r:Addr) (H':Hp) (u d:Int),ae H H'→H' r=some (.tup [.int u,.int d])→bQ u d→u*(m*n)=(x*n+y*m)*d→Q (.ref r) H'
def L3:Sp:=fun vs H Q _=>∃(p q:Addr) (x m y n:Int),vs=[.ref p,.ref q]∧H p=some (.tup [.int x,.int m])∧H q=some (.tup [.int y,.int n])∧bQ x m∧bQ y n∧bJ x∧bJ m∧bJ y∧bJ n ∧
 ∀(r:Addr) (H':Hp) (u d:Int),ae H H'→H' r=some (.tup [.int u,.int d])→bQ u d→u*(m*n)=(x*n-y*m)*d→Q (.ref r) H'
def L4:Sp:=fun vs H Q _=>∃(p q:Addr) (x m y n:Int),vs=[.ref p,.ref q]∧H p=some (.tup [.int x,.int m])∧H q=some (.tup [.int y,.int n])∧bQ x m∧bQ y n∧bJ x∧bJ m∧bJ y∧bJ n ∧
 ∀(r:Addr) (H':Hp) (u d:Int),ae H H'→H' r=some (.tup [.int u,.int d])→bQ u d→u*(m*n)=x*y*d→Q (.ref r) H'
theorem bQ.neg(h:bQ x m):bQ (-x) m:=⟨h.pos,by rw [Int.neg_gcd];exact h.iu⟩
def iW(C:Addr)(fr:Int→Int→Int→Int→Int)(rm:Int→Int→Int):Sp:=fun vs H Q _=>∃(z:Addr) (q:Int) (v u:V),vs=[.ref z,v,u]∧cZ C H z q ∧
  ((q=0∧∃(p r:Addr) (x m y n:Int),v=.ref p∧u=.ref r∧H p=some (.tup [.int x,.int m])∧H r=some (.tup [.int y,.int n])∧bQ x m∧bQ y n∧bJ x∧bJ m∧bJ y∧bJ n ∧
    ∀(r':Addr) (H':Hp) (a d:Int),ae H H'→H' r'=some (.tup [.int a,.int d])→bQ a d→a*(m*n)=fr x m y n*d→Q (.ref r') H') ∨
   (2≤q∧∃i j:Int,v=.int i∧u=.int j∧0≤i∧i<1000∧Q (.int (rm i j % q)) H))
def a7(p:Int):Prop:=p=0∨(2≤p∧p≤997∧gP p=true)
inductive bE (B:Nat) (H:Hp):Int→V→Int→Int→Prop where
 | bK {p:Addr} {x m:Int} (e:H p=some (.tup [.int x,.int m])) (l:bQ x m) (bx:x.natAbs≤B) (bm:m.natAbs≤B):bE B H 0 (.ref p) x m
 | rem {q i:Int} (h0:0≤i) (h1:i<q) (h2:q≤997):bE B H q (.int i) i 1
theorem bE.mono{B:Nat}(h:bE B H q v x m)(s:ae H H'):bE B H' q v x m:=by
 cases h with
 | bK e l bx bm=>exact .bK (s _ _ e) l bx bm
 | rem h0 h1 h2=>exact .rem h0 h1 h2
theorem wL{d T B:Int}(l:bQ u d)(hB:0<B)(e:u*B=T*d):d≤B∧u.natAbs≤T.natAbs:=by
 have h0:=l.pos;have hd:d∣B:=by
  have z:((d.natAbs:Nat):Int)∣B:=nI (a:=B) (b:=d) (c:=u) (gB l.iu) (Int.natAbs_dvd.mpr (ku d)) ⟨T*(d / (d.natAbs:Int)),by
   have q:(d.natAbs:Int)=d:=by lia
   rw [q,Int.ediv_self (by lia),fh,dI B u,e,dI]⟩
  exact Int.natAbs_dvd.mp z
 have hle:=Int.le_of_dvd hB hd;refine ⟨hle,?_⟩;have z:u.natAbs*B.natAbs=T.natAbs*d.natAbs:=by rw [←fE,e,fE]
 have z2:T.natAbs*d.natAbs≤T.natAbs*B.natAbs:=Nat.mul_le_mul_left _ (by lia)
 rw [←z] at z2;exact Nat.le_of_mul_le_mul_right z2 (by lia)
theorem D5(h1:2≤q)(h2:q≤997)(hp:gP q=true)(b1:1≤b)(b2:b<q):Int.gcd q b=1:=by
 have gp:0<Int.gcd q b:=mG _ (ko.mpr (by lia))
 by_cases g1:Int.gcd q b=1;·exact g1
 exfalso
 obtain ⟨k,ek⟩:=mH (a:=q) (b:=b);have hb:=Int.le_of_dvd (by lia) (mI (a:=q) (b:=b))
 generalize Int.gcd q b=g at *;have kp:0<k:=qy (u:=(g:Int)) (by lia) (by rw [←ek];lia)
 have k2:k≠1:=fun z=>by rw [z,fh] at ek;lia
 have no:∀d:Int,2≤d→d*d≤q→q % d=0→False:=fun d x y z=>by rw [DV h2 x y z] at hp;cases hp
 by_cases c:(g:Int)≤k;·exact no g (by lia) (by rw [ek];exact qa c (by lia)) (by rw [ek];exact Int.mul_emod_right ..)
 ·exact no k (by lia) (by rw [ek];exact Int.mul_le_mul_of_nonneg_right (by lia) (by lia)) (by rw [ek];exact Int.mul_emod_left ..)
structure kZ (q b last lt now nt:Int):Prop where
 l:∃s,last=lt*b+s*q
 n:∃s,now=nt*b+s*q
 iu:Int.gcd last now=1
 pos:1≤now
 less:now≤last
variable {last nt:Int}
theorem kZ.step{lt now:Int}(h:kZ q b last lt now nt)(h1:1<now):kZ q b now nt (last-last / now*now) (lt-last / now*nt)∧last-last / now*now<now:=by
 obtain ⟨⟨s,es⟩,⟨r,er⟩,c,p,le⟩:=h;have e:last-last / now*now=last % now:=by have z:=y7 last now;rw [dI] at z;lia
 have Xw:=gH last (show 0<now by lia)
 have ge:=fP last (show now≠0 by lia)
 have c':Int.gcd now (last % now)=1:=l0 fun d x y=>l4 c (by have z:=y7 last now;rw [←z];exact Int.dvd_add y (kq x (Int.dvd_mul_right ..))) x
 have nz:last % now≠0:=fun z=>by rw [z,Int.gcd_zero_right] at c';lia
 refine ⟨⟨⟨r,er⟩,⟨s-last / now*r,?_⟩,by rw [e];exact c',by lia,by lia⟩,by lia⟩
 generalize last / now=f;rw [es,er,Int.sub_mul,Int.sub_mul,Int.mul_add,kr,kr];lia
theorem kZ.done{lt:Int}(h:kZ q b last lt 1 nt)(hq:2≤q):(nt % q*b) % q=1:=by
 obtain ⟨s,e⟩:=h.n;have z:nt*b=1+(-s)*q:=by rw [Int.neg_mul];lia
 have y:nt % q*b % q=nt*b % q:=by rw [ue (nt % q) b,Int.emod_emod,←ue]
 rw [y,z,Int.add_mul_emod_self_right];exact mK (by lia) (by lia)
theorem kZ.start(h1:2≤q)(h2:q≤997)(hp:gP q=true)(b1:1≤b)(b2:b<q):kZ q b q 0 b 1:=
 ⟨⟨1,by lia⟩,⟨0,by lia⟩,D5 h1 h2 hp b1 b2,b1,by lia⟩
end My
namespace L2
open PySem PySem.Spec PyProof.Rows
def D6(K:ay):R2:=fun x y H Q=>(∃a xs i,x=.ref a∧y=.int i∧dW K H a xs∧Q (.bl false) H)∨(∃a xs i,x=.int i∧y=.ref a∧dW K H a xs∧Q (.bl false) H)∨wF K false x y H Q∨C8 x y H Q
theorem L5{X:Cx}(hu:X.A.units<cLine):cg X (compareOp .Eq) (D6 X.K):=by
 intro pins s σ H x y v u Q I rx ry h;rcases h with ⟨a,xs,i,rfl,rfl,h1,q⟩ | ⟨a,xs,i,rfl,rfl,h1,q⟩ | h | h
 ·cases rx
  obtain ⟨t,rfl⟩:=ry;obtain ⟨us,r1,t1,_⟩:=I.tuple h1;exact SeqAt.RcAt.tuple_int i t t1 hu _ _ _ _ ⟨.bl false,H,I,rfl,q⟩
 ·cases ry
  obtain ⟨t,rfl⟩:=rx;obtain ⟨us,r1,t1,_⟩:=I.tuple h1;exact SeqAt.RcAt.int_tuple i t t1 hu _ _ _ _ ⟨.bl false,H,I,rfl,q⟩
 ·exact Lx hu pins s σ H x y v u Q I rx ry h
 ·exact hX pins s σ H x y v u Q I rx ry h
end L2
namespace My
open PySem L2
def L6(N:Addr):Sp:=fun vs H Q E=>∃q b:Int,vs=[.int q,.int b]∧2≤q∧q≤997∧gP q=true∧0≤b∧b<q∧(b=0→E (.ref N) none H)∧(b≠0→∀r:Int,0≤r→r<q→(r*b) % q=1→Q (.int r) H)
def L7(N:Addr):Sp:=fun vs H Q E=>∃(p q:Addr) (x m y n:Int),vs=[.ref p,.ref q]∧H p=some (.tup [.int x,.int m])∧H q=some (.tup [.int y,.int n])∧bQ x m∧bQ y n∧bJ x∧bJ m∧bJ y∧bJ n ∧
 (y=0→E (.ref N) none H)∧(y≠0→∀(r:Addr) (H':Hp) (u d:Int),ae H H'→H' r=some (.tup [.int u,.int d])→bQ u d→u*(m*y)=x*n*d→Q (.ref r) H')
def L8(N:Addr):Sp:=fun vs H Q E=>∃q i j:Int,vs=[.int q,.int i,.int j]∧2≤q∧q≤997∧gP q=true∧0≤i∧i<q∧0≤j∧j<q∧(j=0→E (.ref N) none H)∧(j≠0→∀r:Int,0≤r→r<q→(r*j) % q=i→Q (.int r) H)
variable {y n:Int}
theorem L9(l:bQ y n)(h:0<y):bQ n y:=⟨h,gB l.iu⟩
theorem L_(l:bQ y n)(h:y<0):bQ (-n) (-y):=⟨by lia,by rw [Int.neg_gcd,Int.gcd_neg];exact gB l.iu⟩
theorem Ma{q i j r:Int}(hq:2≤q)(i0:0≤i)(i1:i<q)(h:(r*j) % q=1):(i*r % q*j) % q=i:=by
 have y:i*r % q*j % q=i*(r*j) % q:=by rw [ue (i*r % q) j,Int.emod_emod,←ue,kr]
 rw [y,ue,h,mK i0 i1,fh,mK i0 i1]
def uR(C N:Addr):Sp:=fun vs H Q E=>∃(z:Addr) (q:Int) (v u:V),vs=[.ref z,v,u]∧cZ C H z q ∧
  ((q=0∧∃(p r:Addr) (x m y n:Int),v=.ref p∧u=.ref r∧H p=some (.tup [.int x,.int m])∧H r=some (.tup [.int y,.int n])∧bQ x m∧bQ y n∧bJ x∧bJ m∧bJ y∧bJ n ∧
    (y=0→E (.ref N) none H)∧(y≠0→∀(r':Addr) (H':Hp) (a d:Int),ae H H'→H' r'=some (.tup [.int a,.int d])→bQ a d→a*(m*y)=x*n*d→Q (.ref r') H')) ∨
   (2≤q∧∃i j:Int,v=.int i∧u=.int j∧q≤997∧gP q=true∧0≤i∧i<q∧0≤j∧j<q∧(j=0→E (.ref N) none H)∧(j≠0→∀r:Int,0≤r→r<q→(r*j) % q=i→Q (.int r) H)))
end My
namespace L2
open PySem PySem.Spec PyProof.Rows
structure iw (K:ay) (x qual:Str) (st:Stmt) (i:Int) (f:Addr) (fd:FuncData):Prop where
 ex:∃(oc:Value) (od:Option Addr) (kV doc pm:Value) (an:Option Addr) (aR ct:Value) (eV:Array (Option Value)) (dT:Addr) (tk:Tok) (l5:Value) (l6:Option Addr) (n:Nat) (l7:Array (Option Value)),
  fd=PySem.W.fnOf x qual (ig st) (ft st) (aJ st) (.ref dT) kV doc pm an aR ct∧K.lookup f=some ⟨oc,od,.func fd,eV⟩∧PySem.W.codeIn K aR qual=true∧K.lookup dT=some ⟨l5,l6,.seq #[.int i tk] n,l7⟩
 kp:PySem.W.keepIn K (.ref f)=true
section
variable {P:Program} {w:World} {K:ay} {mg:cJ} {base:Heap}
variable {x qual:Str} {st:Stmt} {i:Int} {f:Addr} {fd:FuncData} {ps:List Str}
theorem iw.zV{N:List Str}{k:Nat}{sp:Sp}(F:iw K x qual st i f fd)(S:a9 N ps (aJ st))(len:∀vs H Q E,sp vs H Q E→vs.length=ps.length)
  (jh:∀(aR:Value) (A:Around) (outer:List Env) (s:Shared) (H:Hp) (vs:List V) (Q:VK) (E:XK),cK k (A.deeper (envOfC qual (aJ st) s.heap.objs.size f aR))→sp vs H Q E→
   qr (ic (de P w) P w K mg base N qual (aJ st) f aR A outer s H E) E→
   ∃t,dJ (ic (de P w) P w K mg base N qual (aJ st) f aR A outer s H E) (ft st) t∧t {nx:=fun _ H'=>Q .aH H',rt:=Q} (start N vs) H):aT P w K mg base (de P w) (k+1) f fd ps sp:=by
 obtain ⟨oc,od,kV,doc,pm,an,aR,ct,eV,dT,tk,l5,l6,n,l7,rfl,lk,eS,ld⟩:=F.ex;exact zH lk eS S len fun A outer s H vs Q E hr iS=>jh aR A outer s H vs Q E hr iS ⟨rfl,rfl,rfl,rfl⟩
theorem wM{dT:Addr}{oc:Value}{od an:Option Addr}{eV:Array (Option Value)}{kV doc pm aR ct:Value}{tk:Tok}{l5:Value}{l6:Option Addr}{n:Nat}{l7:Array (Option Value)}
  (l:K.lookup f=some ⟨oc,od,.func (PySem.W.fnOf x qual (ig st) (ft st) (aJ st) (.ref dT) kV doc pm an aR ct),eV⟩)
  (c:PySem.W.codeIn K aR qual=true) (k:PySem.W.keepIn K (.ref f)=true) (ld:K.lookup dT=some ⟨l5,l6,.seq #[.int i tk] n,l7⟩):iw K x qual st i f (PySem.W.fnOf x qual (ig st) (ft st) (aJ st) (.ref dT) kV doc pm an aR ct):=
 ⟨⟨oc,od,kV,doc,pm,an,aR,ct,eV,dT,tk,l5,l6,n,l7,rfl,l,c,ld⟩,k⟩
theorem iw.binds(F:iw K x qual st i f fd)
  (h:∀(s:Shared) (dT:Addr) (kV doc pm:Value) (an:Option Addr) (aR ct:Value) (tk:Tok) (o:Obj) (n:Nat) (us:List Value),s.heap.get? dT=some o→o.data=.seq #[.int i tk] n→us.length=ps.length→
   BindsTo s (PySem.W.fnOf x qual (ig st) (ft st) (aJ st) (.ref dT) kV doc pm an aR ct) ⟨us,[]⟩ (ps.zip us)):Binds K fd ps []:=by
 obtain ⟨oc,od,kV,doc,pm,an,aR,ct,eV,dT,tk,l5,l6,n,l7,rfl,lk,eS,ld⟩:=F.ex;intro s us X hl;rw [t8] at hl ⊢;exact h s dT kV doc pm an aR ct tk _ n us (X _ _ ld) rfl hl
theorem iw.Mb(F:iw K x qual st i f fd)
  (h:∀(s:Shared) (dT:Addr) (kV doc pm:Value) (an:Option Addr) (aR ct:Value) (tk:Tok) (o:Obj) (n:Nat) (us:List Value),s.heap.get? dT=some o→o.data=.seq #[.int i tk] n→us.length+1=ps.length→
   BindsTo s (PySem.W.fnOf x qual (ig st) (ft st) (aJ st) (.ref dT) kV doc pm an aR ct) ⟨us,[]⟩ (ps.zip (us++[.int i tk]))):∃v,Vals [V.int i] [v]∧Binds K fd ps [v]:=by
 obtain ⟨oc,od,kV,doc,pm,an,aR,ct,eV,dT,tk,l5,l6,n,l7,rfl,lk,eS,ld⟩:=F.ex;refine ⟨.int i tk,.cons ⟨tk,rfl⟩ .nil,fun s us X hl=>?_⟩;exact h s dT kV doc pm an aR ct tk _ n us (X _ _ ld) rfl (by simpa using hl)
theorem iw.Mc{y:Str}(F:iw K x qual st i f fd)
  (h:∀(s:Shared) (dT:Addr) (kV doc pm:Value) (an:Option Addr) (aR ct:Value) (tk:Tok) (o:Obj) (n:Nat) (us ws:List Value),s.heap.get? dT=some o→o.data=.seq #[.int i tk] n→ws.length=1→us.length+1=ps.length→
   BindsTo s (PySem.W.fnOf x qual (ig st) (ft st) (aJ st) (.ref dT) kV doc pm an aR ct) ⟨us,[y].zip ws⟩ (ps.zip (us++ws))) :
  ∀(s:Shared) (us ws:List Value),K.In s.heap→ws.length=1→us.length+1=ps.length→BindsTo s fd ⟨us,[y].zip ws⟩ (ps.zip (us++ws)):=by
 obtain ⟨oc,od,kV,doc,pm,an,aR,ct,eV,dT,tk,l5,l6,n,l7,rfl,lk,eS,ld⟩:=F.ex;intro s us ws X hw hl;exact h s dT kV doc pm an aR ct tk _ n us ws (X _ _ ld) rfl hw hl
end
section
variable {X:Cx} {CX:gw} {k:Nat} {f C:Addr} {fd:FuncData} {ps:List Str} {y:Str} {sp:Sp} {E:XK} {m:Str} {pos apos Du:Pos} {e e' o:Expr} {ta:TE} {t tk:TA}
def wN(K:ay):R2:=fun x y H Q=>wF K true x y H Q∨C9 x y H Q
theorem Ae(hu:X.A.units<cLine):cg X (compareOp .NotEq) (wN X.K):=by
 intro pins s σ H x y v u Q I rx ry h;rcases h with h | h;·exact Ly hu pins s σ H x y v u Q I rx ry h
 ·exact kK pins s σ H x y v u Q I rx ry h
end
end L2
namespace My
open PySem L2
def jV(a b:Int):Int:=a.fdiv (lowG a b)
def jW(a b:Int):Int:=b.fdiv (lowG a b)
variable {a b:Int}
theorem Md(hb:b≠0):bQ (jV a b) (jW a b)∧jV a b*b=a*jW a b∧(jV a b).natAbs≤a.natAbs∧(jW a b).natAbs≤b.natAbs:=by
 have gp:=Ad (a:=a) hb;have c:=uQ (a:=a) hb;obtain ⟨a',ea⟩:=mH (a:=a) (b:=b);obtain ⟨b',eb⟩:=mI (a:=a) (b:=b);unfold jV jW lowG;generalize Int.gcd a b=g at *;have g0:(g:Int)≠0:=by lia
 have ga:a / (g:Int)=a':=by rw [ea];exact g8 _ g0
 have gb:b / (g:Int)=b':=by rw [eb];exact g8 _ g0
 rw [ga,gb] at c;have la:a'.natAbs≤a.natAbs:=by rw [←ga];exact y6 ..
 have lb:b'.natAbs≤b.natAbs:=by rw [←gb];exact y6 ..
 have cr:a'*b=a*b':=by rw [ea,eb];simp only [kr,dI,vN]
 by_cases h:b<0
 ·have d1:(0-(g:Int))∣a:=⟨-a',by rw [ea,qb,Int.neg_mul_neg]⟩
  have d2:(0-(g:Int))∣b:=⟨-b',by rw [eb,qb,Int.neg_mul_neg]⟩
  rw [ao h,vP d1,vP d2,qb,Int.ediv_neg,Int.ediv_neg,ga,gb];refine ⟨⟨?_,by rw [Int.neg_gcd,Int.gcd_neg];exact c⟩,?_,?_,?_⟩
  ·have z:0 < -b':=qy (u:=(g:Int)) (by lia) (by rw [kx,←eb];lia)
   lia
  ·rw [Int.neg_mul,kx,cr]
  ·rw [mJ];exact la
  ·rw [mJ];exact lb
 ·rw [ah h,vP ⟨a',ea⟩,vP ⟨b',eb⟩,ga,gb]
  have z:0<b':=qy (u:=(g:Int)) (by lia) (by rw [←eb];lia)
  exact ⟨⟨by lia,c⟩,cr,la,lb⟩
theorem D7(a:Int):jV a 1=a∧jW a 1=1:=by
 unfold jV jW lowG;rw [Int.gcd_one_right,ah (by decide)]
 exact ⟨Int.fdiv_one a,Int.fdiv_one 1⟩
def Me(N:Addr):Sp:=fun vs H Q E=>∃a b:Int,vs=[.int a,.int b]∧b7 b∧(b=0→E (.ref N) none H)∧(b≠0→∀(r:Addr) (H':Hp),ae H H'→H' r=some (.tup [.int (jV a b),.int (jW a b)])→Q (.ref r) H')
def l8(q b:Int):Prop:=if q=0 then b=0 else b % q=0
def uS(H:Hp)(q:Int)(v:V)(a b:Int):Prop:=
 (q=0∧∃r:Addr,v=.ref r∧H r=some (.tup [.int (jV a b),.int (jW a b)]))∨(2≤q∧∃r:Int,v=.int r∧0≤r∧r<q∧(r*(b % q)) % q=a % q)
theorem uS.mono{H H':Hp}{q:Int}{v:V}(h:uS H q v a b)(s:ae H H'):uS H' q v a b:=by
 rcases h with ⟨h,r,e,h2⟩ | h;·exact .inl ⟨h,r,e,s _ _ h2⟩
 ·exact .inr h
def Mf(C N:Addr):Sp:=fun vs H Q E=>∃(z:Addr) (q a b:Int),vs=[.ref z,.int a,.int b]∧cZ C H z q∧a7 q∧b7 b ∧
 (l8 q b→E (.ref N) none H)∧(¬l8 q b→∀(v:V) (H':Hp),ae H H'→uS H' q v a b→Q v H')
end My
namespace L2
open PySem PySem.Spec PyProof.Rows
section
variable {X:Cx}
end
end L2
namespace My
open PySem L2
variable {a c:Int}
theorem D8{b:Int}(h:c≠0)(e:a*c=b*c):a=b:=y8 h e
variable {q:Int}
theorem Mg{t:Int}(h:Int.gcd q c=1)(d:q∣c-t):Int.gcd q t=1:=by
 refine l0 fun e h1 h2=>l4 h h1 ?_;have z:=Int.dvd_add (kq h1 d) h2;rw [show c-t+t=c by lia] at z
 exact z
theorem Mh(q2:2≤q)(g:Int.gcd q c=1)(d:q∣a*c):q∣a:=by
 have qq:((q.natAbs:Nat):Int)=q:=by lia
 have z:=nI (a:=a) (b:=q) (c:=c) (d:=q.natAbs) g (by rw [qq];exact ku q) (by rw [qq];exact d)
 rw [qq] at z;exact z
theorem Mi(a q:Int):∃w,a % q+q*w=a:=⟨a / q,y7 a q⟩
section
variable {C N z:Addr} {q:Int} {v u:V} {t b t' b':Int} {H:Hp} {Q:VK} {E:XK}
theorem Mj{u d u' d':Int}(l:bQ u d)(l':bQ u' d')(e:u*d'=u'*d):u=u'∧d=d':=by
 have h1:=l.pos;have h2:=l'.pos;have a:=(wL l (show 0<d' by lia) e).1
 have c:=(wL l' (show 0<d by lia) e.symm).1
 have dd:d=d':=by lia
 subst dd;exact ⟨D8 (show d≠0 by lia) e,rfl⟩
theorem Ml(x m:Int):f9 [V.int x,V.int m] [V.int x,V.int m]=true:=by show ((x == x) && ((m == m) && true))=true;simp
end
theorem bE.bG{B:Nat}{H H':Hp}{v:V}{x m:Int}{D:Addr}{ys:List V}(h:bE B H q v x m)(eD:H D=some (.lst ys))(k:∀b o,b≠D→H b=some o→H' b=some o):bE B H' q v x m:=by
 cases h with
 | bK e l bx bm=>refine .bK (k _ _ (fun z=>?_) e) l bx bm;rw [z,eD] at e;cases e
 | rem h0 h1 h2=>exact .rem h0 h1 h2
end My
namespace L2
open PySem PySem.Spec PyProof.Rows
structure l9 (J:It) (xs:List V) (H1:Hp):Prop where
 go:∀i Hc,ae H1 Hc→i<xs.length→J.go i Hc
 dX:∀i Hc x H',ae H1 Hc→J.dX i Hc x H'→H'=Hc∧(i<xs.length→xs[i]?=some x)
 stop:∀i Hc,ae H1 Hc→xs.length≤i→J.stop i Hc
variable {xs:List V} {H1:Hp}
theorem nJ{K:ay}{a:Addr}(h:bC K H1 a xs):l9 (qh K a) xs H1 where
 go:=fun i Hc s hi=>⟨xs,xs[i],s.seq h,by simp [hi]⟩
 dX:=fun i Hc x H' s y=>⟨y.1,fun _=>y.2 xs (s.seq h)⟩
 stop:=fun i Hc s hi=>⟨xs,s.seq h,hi⟩
theorem D9{lo:Int}{n:Nat}:l9 (jO lo n) ((List.range n).map fun i:Nat=>V.int (lo+(i:Int))) H1 where
 go:=fun i Hc s hi=>by
  have hi:i<n:=by simpa using hi
  exact hi
 dX:=fun i Hc x H' s y=>⟨y.1,fun hi=>by
  have hi:i<n:=by simpa using hi
  rw [y.2];simp [hi]⟩
 stop:=fun i Hc s hi=>by
  have hi:n≤i:=by simpa using hi
  exact hi
variable {H:Hp} {D:Addr}
theorem gT{H':Hp}{o:HO}(s:ae H H')(n:H D=none):ae H (upd H' D o):=fun b u e=>by rw [aN (fT e n)];exact s b u e
variable {te:TE} {Q:VK}
theorem D_{J:It}{ρσ:St}(js:l9 J xs H1)(nD:H1 D=none)(hn:xs.length<sizeLine)
  (P:Nat→V→Hp→Prop) (mono:∀i y H H' ys,P i y H→H D=some (.lst ys)→(∀b o,b≠D→H b=some o→H' b=some o)→P i y H')
  (step:∀i x,xs[i]?=some x→∀(Hc:Hp) (R:VK),ae H1 Hc→(∃ys,Hc D=some (.lst ys))→(∀y H3,ae Hc H3→P i y H3→R y H3)→te (some x::ρσ) Hc R)
  (fin:∀ys Hc,ae H1 Hc→ys.length=xs.length→(∀i y,ys[i]?=some y→P i y Hc)→Hc D=some (.lst ys)→Q (.ref D) Hc) :
  ∃W:Nat→Nat→List V→Hp→Prop,(∃m,W 0 m [] (upd H1 D (.lst []))) ∧
   ∀i m ys Hc,W i m ys Hc→Hc D=some (.lst ys)∧((J.stop i Hc∧Q (.ref D) Hc)∨(J.go i Hc∧∀x H',J.dX i Hc x H'→
    if true=true then te (some x::ρσ) H' fun y H3=>H3 D=some (.lst ys)∧ys.length<sizeLine∧∃m',m'<m∧W (i+1) m' (ys++[y]) (upd H3 D (.lst (ys++[y]))) else ∃m',m'<m∧W (i+1) m' ys H')):=by
 refine ⟨fun i m ys Hc=>m=xs.length-i∧i≤xs.length∧Hc D=some (.lst ys)∧ae H1 Hc∧ys.length=i∧∀j y,ys[j]?=some y→P j y Hc,⟨_,rfl,cu _,ax,gT (ae.refl H1) nD,rfl,fun j y e=>by simp at e⟩,?_⟩
 rintro i m ys Hc ⟨rfl,hi,eD,sH,el,hP⟩;refine ⟨eD,?_⟩;by_cases bO:i<xs.length
 ·refine .inr ⟨js.go i Hc sH bO,fun x H' hy=>?_⟩
  obtain ⟨rfl,hx⟩:=js.dX i Hc x H' sH hy;rw [ao rfl];refine step i x (hx bO) _ _ sH ⟨ys,eD⟩ fun y H3 s3 hp=>?_;have e3:=s3 _ _ eD;refine ⟨e3,by lia,xs.length-(i+1),by lia,rfl,bO,ax,gT (sH.trans s3) nD,by simp [el],fun j y' e=>?_⟩
  have bG:∀b o,b≠D→H3 b=some o→upd H3 D (.lst (ys++[y])) b=some o:=fun b o nb e=>by rw [aN nb];exact e
  by_cases hj:j<i
  ·have e':ys[j]?=some y':=by rw [lM (by lia)] at e;exact e
   refine mono j y' H' _ ys (hP j y' e') eD fun b o nb e=>?_;exact bG b o nb (s3 _ _ e)
  ·have hj:j=i:=by have:=(cq.mp e).1;simp at this;lia
   subst hj;have e':y'=y:=by rw [lL (by lia),el,Nat.sub_self] at e;simpa using e.symm
   subst e';exact mono _ _ H3 _ ys hp e3 bG
 ·have e:i=xs.length:=by lia
  subst e;exact .inl ⟨js.stop _ Hc sH (aD _),fin ys Hc sH el hP eD⟩
variable {wi:TI} {ρ:St→St} {σ:St}
theorem Ea(iy:∀R:It→Hp→Prop,(∀J H1,ae H H1→l9 J xs H1→R J H1)→wi σ H R)(hn:xs.length<sizeLine)
  (P:Addr→Nat→V→Hp→Prop) (mono:∀D i y H H' ys,P D i y H→H D=some (.lst ys)→(∀b o,b≠D→H b=some o→H' b=some o)→P D i y H')
  (step:∀D i x,xs[i]?=some x→∀(Hc:Hp) (R:VK),ae H Hc→(∃ys,Hc D=some (.lst ys))→(∀y H3,ae Hc H3→P D i y H3→R y H3)→te (some x::ρ σ) Hc R)
  (fin:∀D ys Hc,ae H Hc→ys.length=xs.length→(∀i y,ys[i]?=some y→P D i y Hc)→Hc D=some (.lst ys)→Q (.ref D) Hc):ir wi ρ (fun _ H Q=>Q true H) te σ H Q:=by
 refine iy _ fun J H1 s1 js=>?_;intro D nD;exact D_ (ρσ:=ρ σ) (te:=te) (Q:=Q) js nD hn (P D) (mono D) (fun i x hx Hc R sc=>step D i x hx Hc R (s1.trans sc)) (fun ys Hc sc=>fin D ys Hc (s1.trans sc))
theorem bV{g:TG}{D:Ends}(h:te σ H fun x H1=>g x σ H1 D.nx):lS te g D σ H:=h
theorem l_{a b:TS}{D:Ends}(h:a {D with nx:=fun σ H=>b D σ H} σ H):zo a b D σ H:=h
section
variable {X:Cx} {N:List Str} {scope:Scope} {cl:List (Str×Addr)} {x:Str} {px pos:Pos} {iter elt:Expr} {ifs:List Expr} {wi:TI} {ρ:St→St} {tt:TT} {te:TE}
theorem wO{y:Str}{py uT:Pos}{i0:Nat}(B:zY X N scope cl x ρ)(hc:X.calm=true)(hN:X.N.Nodup)(Af:X.N[i0]?=some y)(hy:Loc X.env.scope y)(hi:PI X (.Name x px) iter wi)(ht:∀s₃ H₃ fp,iV (X.aZ N scope cl s₃ H₃ fp) ifs tt)(he:∀s₃ H₃ fp,PE (X.aZ N scope cl s₃ H₃ fp) elt te)
  (Ag:swapsWith (.ListComp elt [⟨.Name x px,iter,ifs,0⟩] scope pos) (some (.Name y py)) uT.line X.env=pure true:=by rfl) (hf:X.fn y=true∨X.env.scope.names.lookup y=some .local:=by first | exact .inl rfl | exact .inr rfl | assumption)
  (hs:∀x,foldedSetIterable iter X.env x=pure x:=by intro _;rfl):PS X (.Assign [.Name y py] (.ListComp elt [⟨.Name x px,iter,ifs,0⟩] scope pos) uT) (lS (ir wi ρ tt te) (b6 i0)):=by
 intro pins s σ H D0 I h
 have h:ir wi ρ tt te σ H (fun v H1=>D0.nx (σ.set i0 (some v)) H1):=h
 rw [exec_Assign_Name_used _ _ _ _ Ag]
 refine bL (tZ (bL ?_))
 show wpAny _ X.A (do let _ ←comprehension (.ListComp elt [⟨.Name x px,iter,ifs,0⟩] scope pos) scope X.env _ (newList []) false (eval iter X.env) (some (assign (.Name y py) X.env))) _ _ s
 refine bL (bF (Q:=fun _ s'=>SP X pins D0 .next s') ?_ (fun _ s' hq=>dG (dG hq)) fun _ _ e=>e)
 refine ua (use:=some (assign (.Name y py) X.env)) rfl hs B.nB B.kind B.names (aE (hi pins s σ H _ I h) fun v s1 h1=>aE h1 fun m6 s2 h2=>?_)
 obtain ⟨it,fp,tn,J,H2,rfl,I2,T,df,f2,q2⟩:=h2
 have nD:H2 s2.heap.objs.size=none:=I2.aw.fresh (aD _)
 obtain ⟨W,⟨m0,w0⟩,turn⟩:=q2 _ nD
 refine pY (vM B.uP (by intro y hy;simp at hy) (fun h₁ d9 eX=>?_) B.kind)
 dsimp only at d9 eX ⊢
 generalize hD:s2.heap.objs.size=D at nD w0 turn d9 eX ⊢
 generalize dh:({s2 with heap:=s2.heap.push {cls:=.type "list",dict:=none,data:=.seq ([]:List Value).toArray}}:Shared)=s3
 have I3:Inv X pins σ (upd H2 D (.lst [])) s3:=by
  subst hD dh
  exact I2.laid (t':=s2.toks) (fun b u e=>bT _ e) (aD _) ⟨cu _,[],_,.nil,dS _ rfl⟩
 have e3:s3.heap=s2.heap.push {cls:=.type "list",dict:=none,data:=.seq ([]:List Value).toArray}:=by rw [←dh]
 have di:∀b o,s2.heap.get? b=some o→s3.heap.get? b=some o:=fun b o e=>by rw [e3];exact bT _ e
 rw [←e3] at d9 eX ⊢
 have below:∀b o,s3.heap.get? b=some o→b≠s3.heap.objs.size:=fun b o e=>cP (bg e)
 have cx:∀b o,s3.heap.get? b=some o→h₁.get? b=some o:=fun b o e=>eX.extBut b o (below b o e) (bT _ e)
 have eJ:∀b∈fp,∃o,s2.heap.get? b=some o∧∀v,o.data≠.cell v:=T.obj _ _ df
 have kR:∀b∈fp,b≠D:=fun b hb z=>by
  obtain ⟨o,e,_⟩:=eJ b hb
  rw [z,←hD] at e
  exact absurd (bg e) (fe _)
 have bP:∀y c,cl.lookup y=some c→X.env.cells.lookup y=some c:=fun y c e=>B.sub (y,c) (iJ e)
 have kT:=I3.mV
 have cY:(X.aZ N scope cl s3 (upd H2 D (.lst [])) fp).Ok:=by
  refine ⟨I.ok.mod,B.kind,I.ok.glob,I.ok.blt,aD _,fun a b c e1 e2=>I.ok.inj a b c (bP a c e1) (bP b c e2),fun y hy=>B.has y hy,(fun _ _ z _=>absurd z cU),(fun _=>I.ok.hd hc),I.ok.frames,.inl rfl,fun b hb=>⟨?_,fun y c e z=>?_⟩,fun b o e=>?_,aV I.ok.fI I3.sz,fun b o e hb=>?_,fun b hb z=>?_,I3.stack,kT⟩
  ·obtain ⟨o,e,_⟩:=eJ b hb
   exact below b o (di b o e)
  ·exact (f2 b hb).2.2.2.2.1 y c (bP y c e) z
  ·exact I3.bs b o e
  ·rcases (f2 b hb).2.2.2.1 with z | z
   ·exact I.ok.kC b o e z
   ·exact absurd (dB (bg e) (aV I.ok.fI z)) (fe _)
  ·rcases cp.mp (I3.mU b z) with z | z
   ·exact (f2 b hb).2.1 z
   ·exact (f2 b hb).2.2.1 z
 have IB:∀tk:Nat,Inv (X.aZ N scope cl s3 (upd H2 D (.lst [])) fp) [] (none::ρ σ) (upd H2 D (.lst [])) {s3 with heap:=h₁,toks:=tk}:=fun tk=>by
  refine ⟨cY,rfl,I3.bare,Un.kept cx,⟨_,d9,fun j y v e1 e2 e3=>?_⟩,fun y c e=>?_,?_,fun y c e=>I3.gL y c (bP y c e),(fun p hp=>nomatch hp),I3.aw.kept cx,?_⟩
  ·cases j with
   | zero=>cases e2
   | succ j=>
    obtain ⟨i,y',a1,a2,a3,a4,a5,a6⟩:=B.nC σ j v e2
    have jR:N[j+1]?=some y:=e1
    rw [jR] at a1
    cases a1
    obtain ⟨m,hn,hl⟩:=I3.loc
    obtain ⟨u,r,l⟩:=hl i y v a2 a3 a4
    refine ⟨u,r,.inr ⟨a6,?_⟩⟩
    obtain ⟨c,ec⟩:=B.has y a6
    rcases l with ⟨k,_⟩ | ⟨_,c',gQ,z⟩
    ·rcases a5 with q | q <;> (rw [k] at q;cases q)
    ·have:=bP y c ec
     rw [this] at gQ
     cases gQ
     obtain ⟨o,ho,hd⟩:=z
     exact ⟨c,ec,o,cx _ _ ho,hd⟩
  ·obtain ⟨v,o,ho,hd⟩:=I3.cell y c (bP y c e)
   exact ⟨v,o,cx _ _ ho,hd⟩
  ·exact I3.aw.fresh (aD _)
  ·show (none::ρ σ).length=N.length
   rw [eE]
   exact B.len σ I.len
 have nK:∀b o,s3.heap.get? b=some o→b≠s3.heap.objs.size:=below
 have fin:∀{σ':St} {H':Hp} {s':Shared},Inv (X.aZ N scope cl s3 (upd H2 D (.lst [])) fp) [] σ' H' s'→D0.nx (σ.set i0 (some (.ref D))) H'→compPost (model X.prog X.w) X.A X.xe (some (assign (.Name y py) X.env)) (fun _ s'=>SP X pins D0 .next s') (.ref D) s3.heap.objs.size (.ok .next) s':=fun{σ' H' s'} J q=>by
  obtain ⟨m,hn,_⟩:=J.loc
  have hn:s'.heap.Ns s3.heap.objs.size m:=hn
  have JC:H' s3.heap.objs.size=none:=J.free
  have u1:Un (cf X.stack) fp (upd H2 D (.lst [])) H' s3.heap s'.heap:=by
   refine ⟨fun b o e n hb hx=>J.base.keep b o e n hb hx,fun b o e n hb hx=>J.base.slot b o e n hb hx,J.base.free,fun b o e hx=>J.base.there b o e hx,J.base.fG,J.base.fm,J.base.fH⟩
  have IX:Inv X pins σ H' s':=I3.kH (ch:=fp) (J.os) u1 J.aw J.bare fun b hb=>by
   obtain ⟨g0,g1,g2,g3,g4,g5⟩:=f2 b hb
   exact ⟨g3,g1,g4,g5⟩
  have nl:X.env.locals≠s3.heap.objs.size:=by
   obtain ⟨m3,⟨o3,_,_,e3,_⟩,_⟩:=I3.loc
   exact nK _ _ e3
  have nc:∀z c,X.env.cells.lookup z=some c→c≠s3.heap.objs.size:=fun z c e=>by
   obtain ⟨v3,o3,e3,_⟩:=I3.cell z c e
   exact nK _ _ e3
  refine wpAny_assign_Name (zi (v:=.ref D) IX hN Af hy rfl (fun ie nM nN=>?_) hf)
  obtain ⟨a,nN,ha⟩:=nN
  have na:s3.heap.objs.size≠a:=by
   rcases ha with rfl | e
   ·exact fun z=>nl z.symm
   ·exact fun z=>nc _ _ e z.symm
  refine ⟨m,hn.sameBut nN na,fun h' dD=>⟨σ.set i0 (some (.ref D)),H',?_,q⟩⟩
  have u2:Un (cf X.stack) [s3.heap.objs.size] H' H' ie.heap h':=by
   refine ⟨fun b o e n hb hx=>(dD.2 b (by simpa using hx)).trans e,fun b o e n hb hx=>⟨o.slots,(dD.2 b (by simpa using hx)).trans e⟩,fun b o e n hx=>n,fun b o e hx=>⟨o,(dD.2 b (by simpa using hx)).trans e⟩,fun b xs z=>z,fun b o u z=>z,fun b ps z=>⟨#[],by simpa using z⟩⟩
  have kU:bU X.prog X.w H' h':=fun b u e=>by
   refine (nM.aw b u e).hE (fun c v hc z=>(dD.2 c fun y=>?_).trans z) (fun _ z=>z) fun _ _ z=>z
   have y':c=s3.heap.objs.size:=y
   rcases hc with hc | hc
   ·rw [←hc,y',JC] at e
    cases e
   ·rw [y',JC] at hc
    cases hc
  refine nM.kH (s':={ie with heap:=h'}) (ch:=[s3.heap.objs.size]) rfl u2 kU nM.bare fun b hb=>?_
  have eb:b=s3.heap.objs.size:=by simpa using hb
  subst eb
  refine ⟨.inr I3.sz,fun z=>nl z.symm,fun z c e=>nc z c e,fun p hp=>?_⟩
  exact nK _ _ (I3.pin p hp).1
 have dM:∀{H':Hp},(∀b∈fp,H' b=none)→∀b∈fp,jd (X.aZ N scope cl s3 (upd H2 D (.lst [])) fp) [] H' b:=fun hn b hb=>by
  refine ⟨hn b hb,?_,?_,.inl hb,fun y c e z=>(f2 b hb).2.2.2.2.1 y c (bP y c e) z,fun p hp=>nomatch hp⟩
  ·obtain ⟨o,e,_⟩:=eJ b hb
   exact below b o (di b o e)
  ·exact cY.kD b hb
 have loop:∀tk:Nat,codeAny (model X.prog X.w) X.A (.compLoop (.ListComp elt [⟨.Name x px,iter,ifs,0⟩] scope pos) 0 (.ref it) (.ref D) (compEnvC scope cl s3.heap.objs.size X.env))
   (compPost (model X.prog X.w) X.A X.xe (some (assign (.Name y py) X.env)) (fun _ s'=>SP X pins D0 .next s') (.ref D) s3.heap.objs.size) {s3 with heap:=h₁,toks:=tk}:=fun tk=>by
  refine y4 (fun n s'=>∃i ys o H',Inv (X.aZ N scope cl s3 (upd H2 D (.lst [])) fp) [] (o::ρ σ) H' s'∧tn i s'.heap∧(∀b∈fp,H' b=none)∧W i n ys H') ?_ m0
   ⟨0,[],none,_,IB tk,T.keep _ _ _ df fun b hb o e=>cx _ _ (di _ _ e),fun b hb=>by rw [aN (kR b hb)];exact (f2 b hb).1,w0⟩
  rintro n s4 ⟨i,ys,o,H4,I4,gR,gS,w4⟩
  obtain ⟨wH,kW⟩:=turn i n ys H4 w4
  rcases kW with ⟨stop,qn⟩ | ⟨go,step⟩
  ·refine bF (T.done (X.aZ N scope cl s3 (upd H2 D (.lst [])) fp) rfl rfl rfl hc i [] s4 _ H4 (fun _ _=>False) I4 (dM gS) gR stop) (fun r s5 ⟨hr,I5⟩=>?_) fun _ _ z=>z.elim
   subst hr
   exact fin I5 qn
  ·refine bF (T.item (X.aZ N scope cl s3 (upd H2 D (.lst [])) fp) rfl rfl rfl hc i [] s4 _ H4 (fun _ _=>False) I4 (dM gS) gR go) (fun r s5 ⟨u,hr,h5⟩=>?_) fun _ _ z=>z.elim
   subst hr
   have z:letOwnedTupleGo (.Name x px) (.ref it) u=pure ():=rfl
   rw [z] at h5
   show wpAny _ _ ((pure ():Sem Unit) >>= fun _=>assign (.Name x px) (compEnvC scope cl s3.heap.objs.size X.env) u) _ _ s5
   refine bL (bF h5 (fun _ s5 ⟨y,H5,I5,r5,y5,dN,je⟩=>?_) fun _ _ z=>z.elim)
   have jf:=I5.pinned (dM je) (T.obj _ _ dN)
   have pg:PG (X.aZ N scope cl s3 (upd H2 D (.lst [])) fp) (.Name x px) (b6 0):=cA (i:=0) B.nd B.n0 (.inl (iL B.hx)) (.inr (iL B.hx))
   have again:∀{σ7:St} {H7:Hp} {s7:Shared},Inv (X.aZ N scope cl s3 (upd H2 D (.lst [])) fp) ([]++gO fp s5.heap) σ7 H7 s7→Inv (X.aZ N scope cl s3 (upd H2 D (.lst [])) fp) [] σ7 H7 s7∧tn (i+1) s7.heap∧∀b∈fp,H7 b=none:=fun{σ7 H7 s7} I7=>by
    refine ⟨I7.lT,T.keep _ _ _ dN fun b hb o e=>(I7.pin (b,o) (cV _ (cV _ (iQ hb e)))).1,fun b hb=>?_⟩
    obtain ⟨o,e,d⟩:=T.obj _ _ dN b hb
    exact (I7.pin (b,o) (cV _ (cV _ (iQ hb e)))).2.1
   refine bF (pg _ s5 _ H5 y u (fun σ2 H6=>σ2=some y::ρ σ∧H6=H5) jf r5 ⟨rfl,rfl⟩) (fun _ s6 ⟨σ6,H6,I6,q6⟩=>?_) fun _ _ z=>z.elim
   obtain ⟨rfl,rfl⟩:=q6
   have kX:=step y _ y5
   have tests:∀{eY:TT},iV (X.aZ N scope cl s3 (upd H2 D (.lst [])) fp) ifs eY→∀{R:Bool→Hp→Prop},eY (some y::ρ σ) H6 R→wpAny (model X.prog X.w) X.A
     (forIn ifs true fun c r=>if r=true then do let ok ←isTrue c (compEnvC scope cl s3.heap.objs.size X.env) (eval c (compEnvC scope cl s3.heap.objs.size X.env));pure (ForInStep.yield ok) else pure (ForInStep.yield r))
     (fun ok s7=>∃H7,Inv (X.aZ N scope cl s3 (upd H2 D (.lst [])) fp) ([]++gO fp s5.heap) (some y::ρ σ) H7 s7∧R ok H7) (fun _ _=>False) s6:=fun{eY} p {R} hR=>by
    cases p with
    | nil=>exact ub ⟨_,I6,hR⟩
    | one p=>exact uc (p _ s6 _ _ _ I6 hR)
   refine bF (tests (ht s3 _ fp) kX) (fun ok s7 ⟨H7,I7,q7⟩=>?_) fun _ _ z=>z.elim
   cases ok with
   | false=>
    obtain ⟨m',dZ,w7⟩:=q7
    obtain ⟨a1,a2,a3⟩:=again I7
    exact ⟨m',dZ,i+1,ys,_,H7,a1,a2,a3,w7⟩
   | true=>
    refine bF (he s3 _ fp _ s7 _ H7 _ I7 q7) (fun ev s8 ⟨z,H8,I8,r8,kY,hz,m',dZ,w8⟩=>?_) fun _ _ z=>z.elim
    refine bF (qp (X:=X.aZ N scope cl s3 (upd H2 D (.lst [])) fp) _ s8 _ H8 (.ref D) [z] (.ref D) [ev] (fun _ H9=>H9=upd H8 D (.lst (ys++[z]))) I8 rfl (.cons r8 .nil) ⟨D,ys,z,rfl,rfl,kY,hz,rfl⟩) (fun _ s9 ⟨_,H9,I9,_,q9⟩=>?_) fun _ _ z=>z.elim
    subst q9
    obtain ⟨a1,a2,a3⟩:=again I9
    exact ⟨m',dZ,i+1,ys++[z],_,_,a1,a2,a3,w8⟩
 have start:=loop (s3.toks+([]:List (Str×Value)).length)
 have es:({s3 with heap:=h₁,toks:=s3.toks+([]:List (Str×Value)).length}:Shared)={s2 with heap:=h₁,toks:=s2.toks+([]:List (Str×Value)).length}:=by rw [←dh]
 rw [es] at start
 exact ud start (T.self _ 0 _ _ _ (T.keep _ _ _ df fun b hb o e=>cx _ _ (di _ _ e)) start)
end
section
variable {X:Cx}
end
section
variable {prog:Program} {w:World} {A:Around} {R:Result→Shared→Prop} {s:Shared}
theorem Eb{elt target iter:Expr}{ifs:List Expr}{scope:Scope}{pos:Pos}{it acc:Value}{env:Env}(I:Nat→Shared→Prop)
  (turn:∀n s,I n s→wpAny (model prog w) A (pyNext it) (fun r s₁=>match r with
   | none=>R (.ok .next) s₁
   | some v=>wpAny (model prog w) A (letOwnedTupleGo target it v) (fun _ s₁=>wpAny (model prog w) A (assign target env v) (fun _ s₂=>
     wpAny (model prog w) A (forIn ifs true fun c r=>if r=true then do let ok ←isTrue c env (eval c env);pure (ForInStep.yield ok) else pure (ForInStep.yield r)) (fun ok s₃=>
      if ok=true then wpAny (model prog w) A (eval elt env) (fun x s₄=>
       wpAny (model prog w) A (call (.builtin "list.append") [acc,x]) (fun _ s₅=>∃m,m<n∧I m s₅) (notedBy (model prog w) A env fun e s'=>R (.error e) s') s₄) (notedBy (model prog w) A env fun e s'=>R (.error e) s') s₃
      else ∃m,m<n∧I m s₃) (notedBy (model prog w) A env fun e s'=>R (.error e) s') s₂) (notedBy (model prog w) A env fun e s'=>R (.error e) s') s₁) (notedBy (model prog w) A env fun e s'=>R (.error e) s') s₁) (notedBy (model prog w) A env fun e s'=>R (.error e) s') s)
  (n:Nat) (h:I n s):codeAny (model prog w) A (.compLoop (.ListComp elt [⟨target,iter,ifs,0⟩] scope pos) 0 it acc env) R s:=by
 refine codeAny_loop rfl I (fun n s hI=>?_) n h
 show wpAny _ A ((compTurn (.ListComp elt [⟨target,iter,ifs,0⟩] scope pos) 0 it acc env).onRaise (fun x=>do noteFrame x env;theTreesLotGoes x)) _ _ s
 refine wpAny_noted ?_
 rw [compTurn_list]
 refine bL (tZ (bL (bF (turn n s hI) (fun r s₁ h₁=>?_) fun _ _ h'=>h')))
 cases r with
 | none=>exact dG h₁
 | some v=>
  refine bL (bF h₁ (fun _ s₁ h₁=>?_) fun _ _ h'=>h')
  refine bL (bF h₁ (fun _ s₂ h₂=>bL (bF h₂ (fun ok s₃ h₃=>?_) fun _ _ h'=>h')) fun _ _ h'=>h')
  cases ok with
  | false=>exact dG ⟨rfl,h₃⟩
  | true=>
   exact bL (bL (bF h₃ (fun x s₄ h₄=>bL (bF h₄ (fun _ s₅ h₅=>dG (dG ⟨rfl,h₅⟩)) fun _ _ h'=>h')) fun _ _ h'=>h'))
end
def wQ(K:ay)(wi:TI)(ρ:St→St)(tt:TT)(te:TE):TE:=fun σ H Q=>wi σ H fun J H1=>∀D,H1 D=none→∃W:Nat→Nat→List V→Hp→Prop,(∃m,W 0 m [] (upd H1 D (.lst []))) ∧
 ∀i m ys Hc,W i m ys Hc→Hc D=some (.lst ys)∧((J.stop i Hc∧Q (.ref D) Hc)∨(J.go i Hc∧∀v H',J.dX i Hc v H'→∃T x1 x2,v=.ref T∧dW K H' T [x1,x2]∧tt (some x1::some x2::ρ σ) H' fun b H2=>
  if b=true then te (some x1::some x2::ρ σ) H2 fun y H3=>H3 D=some (.lst ys)∧ys.length<sizeLine∧∃m',m'<m∧W (i+1) m' (ys++[y]) (upd H3 D (.lst (ys++[y]))) else ∃m',m'<m∧W (i+1) m' ys H2))
section
variable {X:Cx} {N:List Str} {scope:Scope} {cl:List (Str×Addr)} {x y:Str} {px py pos tp:Pos} {jk:Nat} {iter elt:Expr} {ifs:List Expr} {wi:TI} {ρ:St→St} {tt:TT} {te:TE}
structure Ah (X:Cx) (N:List Str) (scope:Scope) (cl:List (Str×Addr)) (x y:Str) (ρ:St→St):Prop where
 nB:closureFor scope X.env=pure cl
 kind:scope.kind=.function
 uP:∀y∈scope.names,y.2≠.cell
 names:∀y∈scope.names,y.2=.local→scope.names.lookup y.1=some .local
 sub:∀p∈cl,X.env.cells.lookup p.1=some p.2
 has:∀y,((relabel scope X.env).names.lookup y=some .cell∨(relabel scope X.env).names.lookup y=some .free)→∃c,cl.lookup y=some c
 n0:N[0]?=some x
 n1:N[1]?=some y
 nd:N.Nodup
 hx:scope.names.lookup x=some .local
 hy:scope.names.lookup y=some .local
 nC:∀(σ:St) (j:Nat) (v:V),(ρ σ)[j]?=some (some v)→∃(i:Nat) (y:Str),N[j+1+1]?=some y∧X.N[i]?=some y∧σ[i]?=some (some v)∧kB X.env.scope y∧(X.env.kindOf y=some .cell∨X.env.kindOf y=some .free)∧((relabel scope X.env).names.lookup y=some .cell∨(relabel scope X.env).names.lookup y=some .free)
 len:∀σ:St,σ.length=X.N.length→(ρ σ).length+1+1=N.length
theorem wR(is:List Nat)(h1:closureFor scope X.env=pure cl)(h:wG X scope N.tail.tail is:=by repeat' first | exact True.intro | refine And.intro ⟨rfl,Or.inr (Or.inl rfl),.inl rfl,.inl rfl⟩ ?_)(h2:scope.kind=.function:=by rfl)(h3:∀y∈scope.names,y.2≠.cell:=by decide +kernel)(h4:∀y∈scope.names,y.2=.local→scope.names.lookup y.1=some .local:=by decide +kernel)(h5:∀p∈cl,X.env.cells.lookup p.1=some p.2:=by repeat' first | exact List.forall_mem_nil _ | refine vL.mpr ⟨rfl,?_⟩)(h6:((relabel scope X.env).names.all fun q=>(q.2 != .cell && q.2 != .free) || (cl.lookup q.1).isSome)=true:=by rfl)(h7:N[0]?=some x:=by rfl)(Mm:N[1]?=some y:=by rfl)(h8:N.Nodup:=by decide +kernel)(h9:scope.names.lookup x=some .local:=by rfl)(Mn:scope.names.lookup y=some .local:=by rfl)(hr:∀σ:St,ρ σ=is.map fun i=>σ[i]?.join:=by exact fun _=>rfl)(hl:is.length+1+1=N.length:=by rfl):Ah X N scope cl x y ρ:=
 ⟨h1,h2,h3,h4,h5,DW h6,h7,Mm,h8,h9,Mn,fun σ j v e=>by rw [hr] at e;rw [←List.getElem?_tail,←List.getElem?_tail];exact zZ h σ j v e,fun σ _=>by rw [hr,a8];exact hl⟩
theorem Ai(B:Ah X N scope cl x y ρ)(hc:X.calm=true)(hi:PI X (.Tuple [.Name x px,.Name y py] jk tp) iter wi)(ht:∀s₃ H₃ fp,iV (X.aZ N scope cl s₃ H₃ fp) ifs tt)(he:∀s₃ H₃ fp,PE (X.aZ N scope cl s₃ H₃ fp) elt te)
  (hs:∀x,foldedSetIterable iter X.env x=pure x:=by intro _;rfl):PE X (.ListComp elt [⟨.Tuple [.Name x px,.Name y py] jk tp,iter,ifs,0⟩] scope pos) (wQ X.K wi ρ tt te):=by
 intro pins s σ H Q I h
 rw [eval_ListComp]
 refine ua (use:=none) rfl hs B.nB B.kind B.names (aE (hi pins s σ H _ I h) fun v s1 h1=>aE h1 fun m6 s2 h2=>?_)
 obtain ⟨it,fp,tn,J,H2,rfl,I2,T,df,f2,q2⟩:=h2
 have nD:H2 s2.heap.objs.size=none:=I2.aw.fresh (aD _)
 obtain ⟨W,⟨m0,w0⟩,turn⟩:=q2 _ nD
 refine pY (vM B.uP (by intro y hy;simp at hy) (fun h₁ d9 eX=>?_) B.kind)
 dsimp only at d9 eX ⊢
 generalize hD:s2.heap.objs.size=D at nD w0 turn d9 eX ⊢
 generalize dh:({s2 with heap:=s2.heap.push {cls:=.type "list",dict:=none,data:=.seq ([]:List Value).toArray}}:Shared)=s3
 have I3:Inv X pins σ (upd H2 D (.lst [])) s3:=by
  subst hD dh
  exact I2.laid (t':=s2.toks) (fun b u e=>bT _ e) (aD _) ⟨cu _,[],_,.nil,dS _ rfl⟩
 have e3:s3.heap=s2.heap.push {cls:=.type "list",dict:=none,data:=.seq ([]:List Value).toArray}:=by rw [←dh]
 have di:∀b o,s2.heap.get? b=some o→s3.heap.get? b=some o:=fun b o e=>by rw [e3];exact bT _ e
 rw [←e3] at d9 eX ⊢
 have below:∀b o,s3.heap.get? b=some o→b≠s3.heap.objs.size:=fun b o e=>cP (bg e)
 have cx:∀b o,s3.heap.get? b=some o→h₁.get? b=some o:=fun b o e=>eX.extBut b o (below b o e) (bT _ e)
 have eJ:∀b∈fp,∃o,s2.heap.get? b=some o∧∀v,o.data≠.cell v:=T.obj _ _ df
 have kR:∀b∈fp,b≠D:=fun b hb z=>by
  obtain ⟨o,e,_⟩:=eJ b hb
  rw [z,←hD] at e
  exact absurd (bg e) (fe _)
 have bP:∀y c,cl.lookup y=some c→X.env.cells.lookup y=some c:=fun y c e=>B.sub (y,c) (iJ e)
 have kT:=I3.mV
 have cY:(X.aZ N scope cl s3 (upd H2 D (.lst [])) fp).Ok:=by
  refine ⟨I.ok.mod,B.kind,I.ok.glob,I.ok.blt,aD _,fun a b c e1 e2=>I.ok.inj a b c (bP a c e1) (bP b c e2),fun y hy=>B.has y hy,(fun _ _ z _=>absurd z cU),(fun _=>I.ok.hd hc),I.ok.frames,.inl rfl,fun b hb=>⟨?_,fun y c e z=>?_⟩,fun b o e=>?_,aV I.ok.fI I3.sz,fun b o e hb=>?_,fun b hb z=>?_,I3.stack,kT⟩
  ·obtain ⟨o,e,_⟩:=eJ b hb
   exact below b o (di b o e)
  ·exact (f2 b hb).2.2.2.2.1 y c (bP y c e) z
  ·exact I3.bs b o e
  ·rcases (f2 b hb).2.2.2.1 with z | z
   ·exact I.ok.kC b o e z
   ·exact absurd (dB (bg e) (aV I.ok.fI z)) (fe _)
  ·rcases cp.mp (I3.mU b z) with z | z
   ·exact (f2 b hb).2.1 z
   ·exact (f2 b hb).2.2.1 z
 have IB:∀tk:Nat,Inv (X.aZ N scope cl s3 (upd H2 D (.lst [])) fp) [] (none::none::ρ σ) (upd H2 D (.lst [])) {s3 with heap:=h₁,toks:=tk}:=fun tk=>by
  refine ⟨cY,rfl,I3.bare,Un.kept cx,⟨_,d9,fun j y v e1 e2 e3=>?_⟩,fun y c e=>?_,?_,fun y c e=>I3.gL y c (bP y c e),(fun p hp=>nomatch hp),I3.aw.kept cx,?_⟩
  ·cases j with
   | zero=>cases e2
   | succ j=>
   cases j with
   | zero=>cases e2
   | succ j=>
    obtain ⟨i,y',a1,a2,a3,a4,a5,a6⟩:=B.nC σ j v e2
    have jR:N[j+1+1]?=some y:=e1
    rw [jR] at a1
    cases a1
    obtain ⟨m,hn,hl⟩:=I3.loc
    obtain ⟨u,r,l⟩:=hl i y v a2 a3 a4
    refine ⟨u,r,.inr ⟨a6,?_⟩⟩
    obtain ⟨c,ec⟩:=B.has y a6
    rcases l with ⟨k,_⟩ | ⟨_,c',gQ,z⟩
    ·rcases a5 with q | q <;> (rw [k] at q;cases q)
    ·have:=bP y c ec
     rw [this] at gQ
     cases gQ
     obtain ⟨o,ho,hd⟩:=z
     exact ⟨c,ec,o,cx _ _ ho,hd⟩
  ·obtain ⟨v,o,ho,hd⟩:=I3.cell y c (bP y c e)
   exact ⟨v,o,cx _ _ ho,hd⟩
  ·exact I3.aw.fresh (aD _)
  ·show (none::none::ρ σ).length=N.length
   rw [eE,eE]
   exact B.len σ I.len
 have fin:∀{σ':St} {H':Hp} {s':Shared},Inv (X.aZ N scope cl s3 (upd H2 D (.lst [])) fp) [] σ' H' s'→Q (.ref D) H'→compPost (model X.prog X.w) X.A X.xe none (EP X pins σ Q) (.ref D) s3.heap.objs.size (.ok .next) s':=fun{σ' H' s'} J q=>by
  obtain ⟨m,hn,_⟩:=J.loc
  refine ⟨m,hn,fun h' dD=>⟨.ref D,H',?_,rfl,q⟩⟩
  have old:∀b o,s3.heap.get? b=some o→b≠s3.heap.objs.size:=below
  have u1:Un (cf X.stack) fp (upd H2 D (.lst [])) H' s3.heap h':=by
   refine ⟨fun b o e n hb hx=>?_,fun b o e n hb hx=>?_,J.base.free,fun b o e hx=>?_,J.base.fG,J.base.fm,J.base.fH⟩
   ·exact (dD.2 b (old b o e)).trans (J.base.keep b o e n hb hx)
   ·obtain ⟨sl,z⟩:=J.base.slot b o e n hb hx
    exact ⟨sl,(dD.2 b (old b o e)).trans z⟩
   ·obtain ⟨o',z⟩:=J.base.there b o e hx
    exact ⟨o',(dD.2 b (old b o e)).trans z⟩
  have kU:bU X.prog X.w H' h':=fun b u e=>by
   refine (J.aw b u e).hE (fun c v hc z=>(dD.2 c fun y=>?_).trans z) (fun _ z=>z) fun _ _ z=>z
   have fr:=J.free
   have y':c=s3.heap.objs.size:=y
   rcases hc with hc | hc
   ·rw [←hc,y'] at e
    exact absurd (fr.symm.trans e) (by simp)
   ·rw [y'] at hc
    exact absurd (fr.symm.trans hc) (by simp)
  refine I3.kH (s':={s' with heap:=h'}) (ch:=fp) (J.os) u1 kU J.bare fun b hb=>?_
  obtain ⟨g0,g1,g2,g3,g4,g5⟩:=f2 b hb
  exact ⟨g3,g1,g4,g5⟩
 have dM:∀{H':Hp},(∀b∈fp,H' b=none)→∀b∈fp,jd (X.aZ N scope cl s3 (upd H2 D (.lst [])) fp) [] H' b:=fun hn b hb=>by
  refine ⟨hn b hb,?_,?_,.inl hb,fun y c e z=>(f2 b hb).2.2.2.2.1 y c (bP y c e) z,fun p hp=>nomatch hp⟩
  ·obtain ⟨o,e,_⟩:=eJ b hb
   exact below b o (di b o e)
  ·exact cY.kD b hb
 have loop:∀tk:Nat,codeAny (model X.prog X.w) X.A (.compLoop (.ListComp elt [⟨.Tuple [.Name x px,.Name y py] jk tp,iter,ifs,0⟩] scope pos) 0 (.ref it) (.ref D) (compEnvC scope cl s3.heap.objs.size X.env))
   (compPost (model X.prog X.w) X.A X.xe none (EP X pins σ Q) (.ref D) s3.heap.objs.size) {s3 with heap:=h₁,toks:=tk}:=fun tk=>by
  refine Eb (fun n s'=>∃i ys o o2 H',Inv (X.aZ N scope cl s3 (upd H2 D (.lst [])) fp) [] (o::o2::ρ σ) H' s'∧tn i s'.heap∧(∀b∈fp,H' b=none)∧W i n ys H') ?_ m0
   ⟨0,[],none,none,_,IB tk,T.keep _ _ _ df fun b hb o e=>cx _ _ (di _ _ e),fun b hb=>by rw [aN (kR b hb)];exact (f2 b hb).1,w0⟩
  rintro n s4 ⟨i,ys,o,o2,H4,I4,gR,gS,w4⟩
  obtain ⟨wH,kW⟩:=turn i n ys H4 w4
  rcases kW with ⟨stop,qn⟩ | ⟨go,step⟩
  ·refine bF (T.done (X.aZ N scope cl s3 (upd H2 D (.lst [])) fp) rfl rfl rfl hc i [] s4 _ H4 (fun _ _=>False) I4 (dM gS) gR stop) (fun r s5 ⟨hr,I5⟩=>?_) fun _ _ z=>z.elim
   subst hr
   exact fin I5 qn
  ·refine bF (T.item (X.aZ N scope cl s3 (upd H2 D (.lst [])) fp) rfl rfl rfl hc i [] s4 _ H4 (fun _ _=>False) I4 (dM gS) gR go) (fun r s5 ⟨u,hr,h5⟩=>?_) fun _ _ z=>z.elim
   subst hr
   refine bF h5 (fun _ s5 ⟨y0,H5,I5,r5,y5,dN,je⟩=>?_) fun _ _ z=>z.elim
   obtain ⟨Tt,x1,x2,e0,Aj,kX⟩:=step y0 _ y5
   subst e0
   have jf:=I5.pinned (dM je) (T.obj _ _ dN)
   have pg:PG (X.aZ N scope cl s3 (upd H2 D (.lst [])) fp) (.Tuple [.Name x px,.Name y py] jk tp) (zt X.K 2 (uA (b6 0) (uA (b6 1) zq))):=
    mZ (X:=X.aZ N scope cl s3 (upd H2 D (.lst [])) fp) hc (gM (cA (i:=0) B.nd B.n0 (.inl (iL B.hx)) (.inr (iL B.hx))) (gM (cA (i:=1) B.nd B.n1 (.inl (iL B.hy)) (.inr (iL B.hy))) mY))
   have again:∀{σ7:St} {H7:Hp} {s7:Shared},Inv (X.aZ N scope cl s3 (upd H2 D (.lst [])) fp) ([]++gO fp s5.heap) σ7 H7 s7→Inv (X.aZ N scope cl s3 (upd H2 D (.lst [])) fp) [] σ7 H7 s7∧tn (i+1) s7.heap∧∀b∈fp,H7 b=none:=fun{σ7 H7 s7} I7=>by
    refine ⟨I7.lT,T.keep _ _ _ dN fun b hb o e=>(I7.pin (b,o) (cV _ (cV _ (iQ hb e)))).1,fun b hb=>?_⟩
    obtain ⟨o,e,d⟩:=T.obj _ _ dN b hb
    exact (I7.pin (b,o) (cV _ (cV _ (iQ hb e)))).2.1
   refine bF (pg _ s5 _ H5 (.ref Tt) u (fun σ2 H6=>σ2=some x1::some x2::ρ σ∧H6=H5) jf r5 ⟨Tt,_,rfl,Aj,rfl,_,_,rfl,_,_,rfl,rfl,rfl,rfl⟩) (fun _ s6 ⟨σ6,H6,I6,q6⟩=>?_) fun _ _ z=>z.elim
   obtain ⟨rfl,rfl⟩:=q6
   have tests:∀{eY:TT},iV (X.aZ N scope cl s3 (upd H2 D (.lst [])) fp) ifs eY→∀{R:Bool→Hp→Prop},eY (some x1::some x2::ρ σ) H6 R→wpAny (model X.prog X.w) X.A
     (forIn ifs true fun c r=>if r=true then do let ok ←isTrue c (compEnvC scope cl s3.heap.objs.size X.env) (eval c (compEnvC scope cl s3.heap.objs.size X.env));pure (ForInStep.yield ok) else pure (ForInStep.yield r))
     (fun ok s7=>∃H7,Inv (X.aZ N scope cl s3 (upd H2 D (.lst [])) fp) ([]++gO fp s5.heap) (some x1::some x2::ρ σ) H7 s7∧R ok H7) (fun _ _=>False) s6:=fun{eY} p {R} hR=>by
    cases p with
    | nil=>exact ub ⟨_,I6,hR⟩
    | one p=>exact uc (p _ s6 _ _ _ I6 hR)
   refine bF (tests (ht s3 _ fp) kX) (fun ok s7 ⟨H7,I7,q7⟩=>?_) fun _ _ z=>z.elim
   cases ok with
   | false=>
    obtain ⟨m',dZ,w7⟩:=q7
    obtain ⟨a1,a2,a3⟩:=again I7
    exact ⟨m',dZ,i+1,ys,_,_,H7,a1,a2,a3,w7⟩
   | true=>
    refine bF (he s3 _ fp _ s7 _ H7 _ I7 q7) (fun ev s8 ⟨z,H8,I8,r8,kY,hz,m',dZ,w8⟩=>?_) fun _ _ z=>z.elim
    refine bF (qp (X:=X.aZ N scope cl s3 (upd H2 D (.lst [])) fp) _ s8 _ H8 (.ref D) [z] (.ref D) [ev] (fun _ H9=>H9=upd H8 D (.lst (ys++[z]))) I8 rfl (.cons r8 .nil) ⟨D,ys,z,rfl,rfl,kY,hz,rfl⟩) (fun _ s9 ⟨_,H9,I9,_,q9⟩=>?_) fun _ _ z=>z.elim
    subst q9
    obtain ⟨a1,a2,a3⟩:=again I9
    exact ⟨m',dZ,i+1,ys++[z],_,_,_,a1,a2,a3,w8⟩
 have start:=loop (s3.toks+([]:List (Str×Value)).length)
 have es:({s3 with heap:=h₁,toks:=s3.toks+([]:List (Str×Value)).length}:Shared)={s2 with heap:=h₁,toks:=s2.toks+([]:List (Str×Value)).length}:=by rw [←dh]
 rw [es] at start
 exact ud start (T.self _ 0 _ _ _ (T.keep _ _ _ df fun b hb o e=>cx _ _ (di _ _ e)) start)
end
section
variable {X:Cx}
def anyR(K:ay):List V→Hp→VK→Prop:=fun xs H Q=>∃(p:Addr) (bs:List Bool),xs=[.ref p]∧bC K H p (bs.map V.bl)∧Q (.bl (bs.any id)) H
variable {K:ay}
theorem Mo(hc:X.calm=true)(hK:X.K=K:=by rfl):gv X (.builtin "any") (anyR K):=by
 intro pins s σ H xs us Q I r h;subst hK;obtain ⟨p,bs,rfl,hq,q⟩:=h;obtain ⟨u,rfl,ru⟩:=vals1 r;cases ru;obtain ⟨ag,rv,pl,hz⟩:=I.list hq;have d_:p≠s.heap.objs.size:=by obtain ⟨o,e,_⟩:=pl.isList;exact cP (bg e)
 have hl:ag.length=bs.length:=by rw [←rv.length,a8]
 refine call_any_walk (vG pl.isList ?_);refine ⟨s.heap.objs.size,_,_,_,_,_,fun i=>bs.getD i false,rfl,Walks.list (A:=X.A.in1) (show X.A.in1.handled=none from I.ok.hd hc) s.heap.objs.size p d_ ag.toArray,⟨⟨_,dS _ rfl,rfl,rfl⟩,pl.isList.push _⟩,fun i v s' Q' E' hv fZ=>?_,fun h' tk hk=>?_⟩
 ·have fX:ag[i]?=some v:=by simpa using hv
  cases eb:bs[i]? with
  | none=>
   have:=rv.none_of (i:=i) (by rw [cE,eb];rfl)
   rw [this] at fX;cases fX
  | some b=>
   obtain ⟨u,hu,ru⟩:=rv.get (i:=i) (x:=V.bl b) (by rw [cE,eb];rfl)
   rw [hu] at fX;cases fX;cases ru;have e:bs.getD i false=b:=by rw [i_,eb];rfl
   have nF:Q' (bs.getD i false) s':=fZ;rw [e] at nF;exact lJ nF
 ·refine ⟨.bl (bs.any id),H,I.kept fun b o e=>hk b o (fun z=>?_) (bT _ e),?_,q⟩
  ·exact absurd (bg e) (by rw [ja.mp z];exact fe _)
  ·show Value.bool _=Value.bool _
   congr 1
   rw [cW,hl];clear hk q rv pl hz hl hq
   induction bs with
   | nil=>rfl
   | cons b bs ih=>rw [eE,y3,ug,List.any_map,ug];show (b || (List.range bs.length).any fun i=>bs.getD i false)=(b || bs.any id);rw [ih]
def Mp(K:ay):List V→Hp→VK→Prop:=fun xs H Q=>∃(p:Addr) (ns:List Int),xs=[.ref p]∧bC K H p (ns.map V.int)∧Q (.int ns.sum) H
theorem Mq:∀(ns:List Int),preSum (fun i=>ns.getD i 0) ns.length=ns.sum:=by
 intro ns;have key:∀k,k≤ns.length→preSum (fun i=>ns.getD i 0) k=(ns.take k).sum:=by
  intro k
  induction k with
  | zero=>intro _;rfl
  | succ k ih=>
   intro hk;show preSum (fun i=>ns.getD i 0) k+ns.getD k 0=_;rw [ih (by lia),List.take_add_one,List.sum_append]
   have e:ns[k]?=some ns[k]:=by simp [show k<ns.length by lia]
   rw [i_,e];simp
 rw [key ns.length (aD _),jF]
theorem Mr(hc:X.calm=true)(hK:X.K=K:=by rfl):gv X (.builtin "sum") (Mp K):=by
 intro pins s σ H xs us Q I r h;subst hK;obtain ⟨p,ns,rfl,hq,q⟩:=h;obtain ⟨u,rfl,ru⟩:=vals1 r;cases ru;obtain ⟨ag,rv,pl,hz⟩:=I.list hq;have d_:p≠s.heap.objs.size:=by obtain ⟨o,e,_⟩:=pl.isList;exact cP (bg e)
 have hl:ag.length=ns.length:=by rw [←rv.length,a8]
 refine call_sum_walkG (vG pl.isList ?_);refine ⟨s.heap.objs.size,_,_,_,_,_,fun i=>ns.getD i 0,rfl,Walks.list (A:=X.A.in1) (show X.A.in1.handled=none from I.ok.hd hc) s.heap.objs.size p d_ ag.toArray,⟨⟨_,dS _ rfl,rfl,rfl⟩,pl.isList.push _⟩,?_,fun i v hv=>?_,fun h' tk t' hk=>?_⟩
 ·intro b hb
  rw [t7];simp only [cp,mL,or_false] at hb;rcases hb with rfl | rfl;·exact vI _
  ·obtain ⟨o,e,_⟩:=pl.isList
   exact Nat.lt_succ_of_lt (bg e)
 ·have fX:ag[i]?=some v:=by simpa using hv
  cases eb:ns[i]? with
  | none=>
   have:=rv.none_of (i:=i) (by rw [cE,eb];rfl)
   rw [this] at fX;cases fX
  | some b=>
   obtain ⟨u,hu,ru⟩:=rv.get (i:=i) (x:=V.int b) (by rw [cE,eb];rfl)
   rw [hu] at fX;cases fX;obtain ⟨t,rfl⟩:=ru;exact ⟨t,by show Value.int b t=Value.int (ns.getD i 0) t;rw [i_,eb];rfl⟩
 ·refine ⟨.int ns.sum,H,I.kept fun b o e=>hk b o (fun z=>?_) (bT _ e),⟨t',?_⟩,q⟩
  ·exact absurd (bg e) (by rw [ja.mp z];exact fe _)
  ·congr 1
   rw [cW,hl];exact Mq ns
end
theorem boot_any:bootBuiltins "any"=some (.builtin "any"):=by decide +kernel
theorem boot_sum:bootBuiltins "sum"=some (.builtin "sum"):=by decide +kernel
abbrev Cx.gC (X:Cx) (N:List Str) (scope:Scope) (cl:List (Str×Addr)) (x:Str) (s₃:Shared) (H₃:Hp) (fp:List Addr):Cx:=
 {X with N:=N,s₀:=s₃,H₀:=H₃,env:=compEnvC scope ((x,s₃.heap.objs.size+1)::cl) s₃.heap.objs.size X.env,outer:=X.stack,stack:=X.stack,ex:=fp,fn:=fun y=>y == x,pn:=[],xe:=fun _ _=>False}
section
variable {M:Model} {A:Around} {E:aI} {s:Shared}
theorem Ms{scope:Scope}{globals:Addr}{cl:List (Str×Addr)}{qual x:Str}{env:Env}{Q:Env→Shared→Prop}
  (c1:∀n,cellsFrom n scope.names cl=(x,n)::cl) (p1:∀h:Heap,pushCells h scope.names=h.push {cls:=.type "cell",data:=.cell none})
  (hQ:Q (newEnv scope s.heap.objs.size globals ((x,s.heap.objs.size+1)::cl) qual none .none (some env) builtinsNs) {s with heap:=(s.heap.push {cls:=.type "dict",data:=.dict #[]}).push {cls:=.type "cell",data:=.cell none}}) :
  wpAny M A (newFunctionEnv scope globals cl [] qual none .none (some env)) Q E s:=by
 simp only [newFunctionEnv,Option.isSome_some,if_true];refine bL (wpAny_alloc ?_);refine bL (wpAny_layCells _ (fun name kind cells=>by cases Mu:kind == NameKind.cell <;> simp [Mu]) _ _ _ _ ?_)
 rw [show ({s with heap:=s.heap.push {cls:=.type "dict",data:=.dict #[]}}:Shared).heap.objs.size=s.heap.objs.size+1 from t7 ..,c1,p1];exact bL (dG (dG hQ))
end
section
variable {X:Cx} {N:List Str} {scope:Scope} {cl:List (Str×Addr)} {x:Str} {px pos:Pos} {iter elt:Expr} {ifs:List Expr} {wi:TI} {ρ:St→St} {tt:TT} {te:TE}
theorem Mv{names:List (Str×NameKind)}(h:(names.all fun q=>(q.2 != .cell && q.2 != .free) || ((cl.lookup q.1).isSome || q.1 == x))=true) :
  ∀y,y≠x→(names.lookup y=some .cell∨names.lookup y=some .free)→∃c,cl.lookup y=some c:=fun y hx hy=>by
 have key:∀k:NameKind,(k != .cell && k != .free)=false→names.lookup y=some k→∃c,cl.lookup y=some c:=fun k hk e=>by have z:=p_.mp h (y,k) (iJ e);rw [hk,Bool.false_or,show ((y,k).1 == x)=false from kj.mpr hx,Bool.or_false] at z;exact y1.mp z
 rcases hy with e | e;·exact key .cell rfl e
 ·exact key .free rfl e
structure Mw (X:Cx) (N:List Str) (scope:Scope) (cl:List (Str×Addr)) (x:Str) (ρ:St→St):Prop where
 nB:closureFor scope X.env=pure cl
 kind:scope.kind=.function
 Mx:∀n,cellsFrom n scope.names cl=(x,n)::cl
 Mz:∀h:Heap,pushCells h scope.names=h.push {cls:=.type "cell",data:=.cell none}
 names:∀y∈scope.names,y.2=.local→scope.names.lookup y.1=some .local
 sub:∀p∈cl,X.env.cells.lookup p.1=some p.2
 has:∀y,y≠x→((relabel scope X.env).names.lookup y=some .cell∨(relabel scope X.env).names.lookup y=some .free)→∃c,cl.lookup y=some c
 n0:N[0]?=some x
 nd:N.Nodup
 MA:(relabel scope X.env).names.lookup x=some .cell
 nC:∀(σ:St) (j:Nat) (v:V),(ρ σ)[j]?=some (some v)→∃(i:Nat) (y:Str),N[j+1]?=some y∧X.N[i]?=some y∧σ[i]?=some (some v)∧kB X.env.scope y∧(X.env.kindOf y=some .cell∨X.env.kindOf y=some .free)∧((relabel scope X.env).names.lookup y=some .cell∨(relabel scope X.env).names.lookup y=some .free)
 len:∀σ:St,σ.length=X.N.length→(ρ σ).length+1=N.length
theorem MB(B:Mw X N scope cl x ρ)(hc:X.calm=true)(hi:PI X (.Name x px) iter wi)(ht:∀s₃ H₃ fp,iV (X.gC N scope cl x s₃ H₃ fp) ifs tt)(he:∀s₃ H₃ fp,PE (X.gC N scope cl x s₃ H₃ fp) elt te)
  (hs:∀x,foldedSetIterable iter X.env x=pure x:=by intro _;rfl):PE X (.ListComp elt [⟨.Name x px,iter,ifs,0⟩] scope pos) (ir wi ρ tt te):=by
 intro pins s σ H Q I h
 rw [eval_ListComp]
 refine ua (use:=none) rfl hs B.nB B.kind B.names (aE (hi pins s σ H _ I h) fun v s1 h1=>aE h1 fun m6 s2 h2=>?_)
 obtain ⟨it,fp,tn,J,H2,rfl,I2,T,df,f2,q2⟩:=h2
 have nD:H2 s2.heap.objs.size=none:=I2.aw.fresh (aD _)
 obtain ⟨W,⟨m0,w0⟩,turn⟩:=q2 _ nD
 refine pY (Ms B.Mx B.Mz ?_)
 dsimp only
 generalize hD:s2.heap.objs.size=D at nD w0 turn ⊢
 generalize dh:({s2 with heap:=s2.heap.push {cls:=.type "list",dict:=none,data:=.seq ([]:List Value).toArray}}:Shared)=s3
 have I3:Inv X pins σ (upd H2 D (.lst [])) s3:=by
  subst hD dh
  exact I2.laid (t':=s2.toks) (fun b u e=>bT _ e) (aD _) ⟨cu _,[],_,.nil,dS _ rfl⟩
 have e3:s3.heap=s2.heap.push {cls:=.type "list",dict:=none,data:=.seq ([]:List Value).toArray}:=by rw [←dh]
 have di:∀b o,s2.heap.get? b=some o→s3.heap.get? b=some o:=fun b o e=>by rw [e3];exact bT _ e
 rw [←e3]
 obtain ⟨h₁,eh⟩:∃h₁,h₁=(s3.heap.push {cls:=.type "dict",data:=.dict #[]}).push {cls:=.type "cell",data:=.cell none}:=⟨_,rfl⟩
 rw [←eh]
 have d9:h₁.Ns s3.heap.objs.size (fun _=>none):=by
  rw [eh]
  exact (Heap.Ns.new s3.heap (.type "dict")).keeps fun b o e=>bT _ e
 have MC:(s3.heap.push {cls:=.type "dict",data:=.dict #[]}).objs.size=s3.heap.objs.size+1:=t7 ..
 have MD:h₁.IsCell (s3.heap.objs.size+1) none:=by
  rw [eh,←MC]
  exact ⟨_,dS _ rfl,rfl⟩
 have below:∀b o,s3.heap.get? b=some o→b≠s3.heap.objs.size:=fun b o e=>cP (bg e)
 have cx:∀b o,s3.heap.get? b=some o→h₁.get? b=some o:=fun b o e=>by rw [eh];exact bT _ (bT _ e)
 have eJ:∀b∈fp,∃o,s2.heap.get? b=some o∧∀v,o.data≠.cell v:=T.obj _ _ df
 have kR:∀b∈fp,b≠D:=fun b hb z=>by
  obtain ⟨o,e,_⟩:=eJ b hb
  rw [z,←hD] at e
  exact absurd (bg e) (fe _)
 have bP:∀y c,cl.lookup y=some c→X.env.cells.lookup y=some c:=fun y c e=>B.sub (y,c) (iJ e)
 have Ec:∀y c,cl.lookup y=some c→c<s3.heap.objs.size:=fun y c e=>by
  obtain ⟨v,o,eo,_⟩:=I3.cell y c (bP y c e)
  exact bg eo
 have lk:∀y c,((x,s3.heap.objs.size+1)::cl).lookup y=some c→(y=x∧c=s3.heap.objs.size+1)∨(y≠x∧cl.lookup y=some c):=fun y c e=>by
  by_cases z:y=x
  ·subst z
   rw [vQ,beq_self_eq_true] at e
   exact .inl ⟨rfl,(Option.some.inj e).symm⟩
  ·rw [vQ,kj.mpr z] at e
   exact .inr ⟨z,e⟩
 have Ed:∀y c,y≠x→cl.lookup y=some c→((x,s3.heap.objs.size+1)::cl).lookup y=some c:=fun y c z e=>by
  rw [vQ,kj.mpr z]
  exact e
 have Ee:∀b∈fp,b<s3.heap.objs.size:=fun b hb=>by
  obtain ⟨o,e,_⟩:=eJ b hb
  exact bg (di b o e)
 have kT:=I3.mV
 have cY:(X.gC N scope cl x s3 (upd H2 D (.lst [])) fp).Ok:=by
  refine ⟨I.ok.mod,B.kind,I.ok.glob,I.ok.blt,aD _,fun a b c e1 e2=>?inj,fun y hy=>?has,(fun y c z e=>?mR),(fun _=>I.ok.hd hc),I.ok.frames,.inl rfl,fun b hb=>⟨?_,fun y c e z=>?_⟩,fun b o e=>?_,aV I.ok.fI I3.sz,fun b o e hb=>?_,fun b hb z=>?_,I3.stack,kT⟩
  case inj=>
   rcases lk a c e1 with ⟨z1,ME⟩ | ⟨_,f1⟩ <;> rcases lk b _ e2 with ⟨z2,ec⟩ | ⟨_,Ef⟩
   ·rw [z1,z2]
   ·have:=Ec _ _ Ef
    rw [ME] at this
    exact absurd this (Nat.not_lt.mpr (jC _))
   ·have:=Ec _ _ f1
    rw [ec] at this
    exact absurd this (Nat.not_lt.mpr (jC _))
   ·exact I.ok.inj a b c (bP a c f1) (bP b c Ef)
  case has=>
   by_cases z:y=x
   ·subst z
    exact ⟨_,by rw [show (compEnvC scope ((y,s3.heap.objs.size+1)::cl) s3.heap.objs.size X.env).cells=(y,s3.heap.objs.size+1)::cl from rfl,vQ,beq_self_eq_true]⟩
   ·obtain ⟨c,ec⟩:=B.has y z hy
    exact ⟨c,Ed y c z ec⟩
  case mR=>
   have z:y=x:=by simpa using z
   rcases lk y c e with ⟨_,rfl⟩ | ⟨z',_⟩
   ·exact jC _
   ·exact absurd z z'
  ·obtain ⟨o,e,_⟩:=eJ b hb
   exact below b o (di b o e)
  ·rcases lk y c e with ⟨rfl,rfl⟩ | ⟨_,e⟩
   ·rw [←z] at hb
    exact absurd (Ee _ hb) (Nat.not_lt.mpr (jC _))
   ·exact (f2 b hb).2.2.2.2.1 y c (bP y c e) z
  ·exact I3.bs b o e
  ·rcases (f2 b hb).2.2.2.1 with z | z
   ·exact I.ok.kC b o e z
   ·exact absurd (dB (bg e) (aV I.ok.fI z)) (fe _)
  ·rcases cp.mp (I3.mU b z) with z | z
   ·exact (f2 b hb).2.1 z
   ·exact (f2 b hb).2.2.1 z
 have IB:∀tk:Nat,Inv (X.gC N scope cl x s3 (upd H2 D (.lst [])) fp) [] (none::ρ σ) (upd H2 D (.lst [])) {s3 with heap:=h₁,toks:=tk}:=fun tk=>by
  refine ⟨cY,rfl,I3.bare,Un.kept cx,⟨_,d9,fun j y v e1 e2 e3=>?_⟩,fun y c e=>?_,?_,fun y c e=>?fC,(fun p hp=>nomatch hp),I3.aw.kept cx,?_⟩
  ·cases j with
   | zero=>cases e2
   | succ j=>
    obtain ⟨i,y',a1,a2,a3,a4,a5,a6⟩:=B.nC σ j v e2
    have jR:N[j+1]?=some y:=e1
    rw [jR] at a1
    cases a1
    obtain ⟨m,hn,hl⟩:=I3.loc
    obtain ⟨u,r,l⟩:=hl i y v a2 a3 a4
    refine ⟨u,r,.inr ⟨a6,?_⟩⟩
    have yx:y≠x:=fun z=>by
     have n0:=B.n0
     rw [←z] at n0
     have:=(List.getElem?_inj (cq.mp n0).1 B.nd).mp (n0.trans jR.symm)
     lia
    obtain ⟨c,ec⟩:=B.has y yx a6
    rcases l with ⟨k,_⟩ | ⟨_,c',gQ,z⟩
    ·rcases a5 with q | q <;> (rw [k] at q;cases q)
    ·have:=bP y c ec
     rw [this] at gQ
     cases gQ
     obtain ⟨o,ho,hd⟩:=z
     exact ⟨c,Ed y c yx ec,o,cx _ _ ho,hd⟩
  case fC=>
   rcases lk y c e with ⟨rfl,rfl⟩ | ⟨_,e⟩
   ·exact I3.aw.fresh (jC _)
   ·exact I3.gL y c (bP y c e)
  ·rcases lk y c e with ⟨rfl,rfl⟩ | ⟨_,e⟩
   ·exact ⟨none,MD⟩
   ·obtain ⟨v,o,ho,hd⟩:=I3.cell y c (bP y c e)
    exact ⟨v,o,cx _ _ ho,hd⟩
  ·exact I3.aw.fresh (aD _)
  ·show (none::ρ σ).length=N.length
   rw [eE]
   exact B.len σ I.len
 have fin:∀{σ':St} {H':Hp} {s':Shared},Inv (X.gC N scope cl x s3 (upd H2 D (.lst [])) fp) [] σ' H' s'→Q (.ref D) H'→compPost (model X.prog X.w) X.A X.xe none (EP X pins σ Q) (.ref D) s3.heap.objs.size (.ok .next) s':=fun{σ' H' s'} J q=>by
  obtain ⟨m,hn,_⟩:=J.loc
  refine ⟨m,hn,fun h' dD=>⟨.ref D,H',?_,rfl,q⟩⟩
  have old:∀b o,s3.heap.get? b=some o→b≠s3.heap.objs.size:=below
  have u1:Un (cf X.stack) fp (upd H2 D (.lst [])) H' s3.heap h':=by
   refine ⟨fun b o e n hb hx=>?_,fun b o e n hb hx=>?_,J.base.free,fun b o e hx=>?_,J.base.fG,J.base.fm,J.base.fH⟩
   ·exact (dD.2 b (old b o e)).trans (J.base.keep b o e n hb hx)
   ·obtain ⟨sl,z⟩:=J.base.slot b o e n hb hx
    exact ⟨sl,(dD.2 b (old b o e)).trans z⟩
   ·obtain ⟨o',z⟩:=J.base.there b o e hx
    exact ⟨o',(dD.2 b (old b o e)).trans z⟩
  have kU:bU X.prog X.w H' h':=fun b u e=>by
   refine (J.aw b u e).hE (fun c v hc z=>(dD.2 c fun y=>?_).trans z) (fun _ z=>z) fun _ _ z=>z
   have fr:=J.free
   have y':c=s3.heap.objs.size:=y
   rcases hc with hc | hc
   ·rw [←hc,y'] at e
    exact absurd (fr.symm.trans e) (by simp)
   ·rw [y'] at hc
    exact absurd (fr.symm.trans hc) (by simp)
  refine I3.kH (s':={s' with heap:=h'}) (ch:=fp) (J.os) u1 kU J.bare fun b hb=>?_
  obtain ⟨g0,g1,g2,g3,g4,g5⟩:=f2 b hb
  exact ⟨g3,g1,g4,g5⟩
 have dM:∀{H':Hp},(∀b∈fp,H' b=none)→∀b∈fp,jd (X.gC N scope cl x s3 (upd H2 D (.lst [])) fp) [] H' b:=fun hn b hb=>by
  refine ⟨hn b hb,?_,?_,.inl hb,fun y c e z=>?sc,fun p hp=>nomatch hp⟩
  case sc=>
   rcases lk y c e with ⟨rfl,rfl⟩ | ⟨_,e⟩
   ·rw [←z] at hb
    exact absurd (Ee _ hb) (Nat.not_lt.mpr (jC _))
   ·exact (f2 b hb).2.2.2.2.1 y c (bP y c e) z
  ·obtain ⟨o,e,_⟩:=eJ b hb
   exact below b o (di b o e)
  ·exact cY.kD b hb
 have loop:∀tk:Nat,codeAny (model X.prog X.w) X.A (.compLoop (.ListComp elt [⟨.Name x px,iter,ifs,0⟩] scope pos) 0 (.ref it) (.ref D) (compEnvC scope ((x,s3.heap.objs.size+1)::cl) s3.heap.objs.size X.env))
   (compPost (model X.prog X.w) X.A X.xe none (EP X pins σ Q) (.ref D) s3.heap.objs.size) {s3 with heap:=h₁,toks:=tk}:=fun tk=>by
  refine y4 (fun n s'=>∃i ys o H',Inv (X.gC N scope cl x s3 (upd H2 D (.lst [])) fp) [] (o::ρ σ) H' s'∧tn i s'.heap∧(∀b∈fp,H' b=none)∧W i n ys H') ?_ m0
   ⟨0,[],none,_,IB tk,T.keep _ _ _ df fun b hb o e=>cx _ _ (di _ _ e),fun b hb=>by rw [aN (kR b hb)];exact (f2 b hb).1,w0⟩
  rintro n s4 ⟨i,ys,o,H4,I4,gR,gS,w4⟩
  obtain ⟨wH,kW⟩:=turn i n ys H4 w4
  rcases kW with ⟨stop,qn⟩ | ⟨go,step⟩
  ·refine bF (T.done (X.gC N scope cl x s3 (upd H2 D (.lst [])) fp) rfl rfl rfl hc i [] s4 _ H4 (fun _ _=>False) I4 (dM gS) gR stop) (fun r s5 ⟨hr,I5⟩=>?_) fun _ _ z=>z.elim
   subst hr
   exact fin I5 qn
  ·refine bF (T.item (X.gC N scope cl x s3 (upd H2 D (.lst [])) fp) rfl rfl rfl hc i [] s4 _ H4 (fun _ _=>False) I4 (dM gS) gR go) (fun r s5 ⟨u,hr,h5⟩=>?_) fun _ _ z=>z.elim
   subst hr
   have z:letOwnedTupleGo (.Name x px) (.ref it) u=pure ():=rfl
   rw [z] at h5
   show wpAny _ _ ((pure ():Sem Unit) >>= fun _=>assign (.Name x px) (compEnvC scope ((x,s3.heap.objs.size+1)::cl) s3.heap.objs.size X.env) u) _ _ s5
   refine bL (bF h5 (fun _ s5 ⟨y,H5,I5,r5,y5,dN,je⟩=>?_) fun _ _ z=>z.elim)
   have jf:=I5.pinned (dM je) (T.obj _ _ dN)
   have pg:PG (X.gC N scope cl x s3 (upd H2 D (.lst [])) fp) (.Name x px) (b6 0):=cA (i:=0) B.nd B.n0 (.inr B.MA) (.inl (by show (x == x)=true;simp))
   have again:∀{σ7:St} {H7:Hp} {s7:Shared},Inv (X.gC N scope cl x s3 (upd H2 D (.lst [])) fp) ([]++gO fp s5.heap) σ7 H7 s7→Inv (X.gC N scope cl x s3 (upd H2 D (.lst [])) fp) [] σ7 H7 s7∧tn (i+1) s7.heap∧∀b∈fp,H7 b=none:=fun{σ7 H7 s7} I7=>by
    refine ⟨I7.lT,T.keep _ _ _ dN fun b hb o e=>(I7.pin (b,o) (cV _ (cV _ (iQ hb e)))).1,fun b hb=>?_⟩
    obtain ⟨o,e,d⟩:=T.obj _ _ dN b hb
    exact (I7.pin (b,o) (cV _ (cV _ (iQ hb e)))).2.1
   refine bF (pg _ s5 _ H5 y u (fun σ2 H6=>σ2=some y::ρ σ∧H6=H5) jf r5 ⟨rfl,rfl⟩) (fun _ s6 ⟨σ6,H6,I6,q6⟩=>?_) fun _ _ z=>z.elim
   obtain ⟨rfl,rfl⟩:=q6
   have kX:=step y _ y5
   have tests:∀{eY:TT},iV (X.gC N scope cl x s3 (upd H2 D (.lst [])) fp) ifs eY→∀{R:Bool→Hp→Prop},eY (some y::ρ σ) H6 R→wpAny (model X.prog X.w) X.A
     (forIn ifs true fun c r=>if r=true then do let ok ←isTrue c (compEnvC scope ((x,s3.heap.objs.size+1)::cl) s3.heap.objs.size X.env) (eval c (compEnvC scope ((x,s3.heap.objs.size+1)::cl) s3.heap.objs.size X.env));pure (ForInStep.yield ok) else pure (ForInStep.yield r))
     (fun ok s7=>∃H7,Inv (X.gC N scope cl x s3 (upd H2 D (.lst [])) fp) ([]++gO fp s5.heap) (some y::ρ σ) H7 s7∧R ok H7) (fun _ _=>False) s6:=fun{eY} p {R} hR=>by
    cases p with
    | nil=>exact ub ⟨_,I6,hR⟩
    | one p=>exact uc (p _ s6 _ _ _ I6 hR)
   refine bF (tests (ht s3 _ fp) kX) (fun ok s7 ⟨H7,I7,q7⟩=>?_) fun _ _ z=>z.elim
   cases ok with
   | false=>
    obtain ⟨m',dZ,w7⟩:=q7
    obtain ⟨a1,a2,a3⟩:=again I7
    exact ⟨m',dZ,i+1,ys,_,H7,a1,a2,a3,w7⟩
   | true=>
    refine bF (he s3 _ fp _ s7 _ H7 _ I7 q7) (fun ev s8 ⟨z,H8,I8,r8,kY,hz,m',dZ,w8⟩=>?_) fun _ _ z=>z.elim
    refine bF (qp (X:=X.gC N scope cl x s3 (upd H2 D (.lst [])) fp) _ s8 _ H8 (.ref D) [z] (.ref D) [ev] (fun _ H9=>H9=upd H8 D (.lst (ys++[z]))) I8 rfl (.cons r8 .nil) ⟨D,ys,z,rfl,rfl,kY,hz,rfl⟩) (fun _ s9 ⟨_,H9,I9,_,q9⟩=>?_) fun _ _ z=>z.elim
    subst q9
    obtain ⟨a1,a2,a3⟩:=again I9
    exact ⟨m',dZ,i+1,ys++[z],_,_,a1,a2,a3,w8⟩
 have start:=loop s3.toks
 have es:({s3 with heap:=h₁,toks:=s3.toks}:Shared)={s2 with heap:=h₁}:=by rw [←dh]
 rw [es] at start
 exact ud start (T.self _ 0 _ _ _ (T.keep _ _ _ df fun b hb o e=>cx _ _ (di _ _ e)) start)
end
theorem MF{v:V}(h:nk v=true):kP v v=true:=by
 cases v with
 | aH=>rfl
 | bl b=>show (b == b)=true;simp
 | int i=>show (i == i)=true;simp
 | str x=>show (x == x)=true;simp
 | _=>cases h
theorem all_range(n:Nat):(List.range n).all (fun _=>true)=true:=by simp
section
variable {X:Cx} {pins:aO} {σ:St} {H:Hp} {s:Shared}
end
section
variable {X:Cx}
end
section
variable {X:Cx} {N:List Str} {scope:Scope} {cl:List (Str×Addr)} {x:Str} {px pos:Pos} {iter elt:Expr} {ifs:List Expr} {wi:TI} {ρ:St→St} {tt:TT} {te:TE}
end
structure Eg (J:It) (zs:List (V×V)) (H1:Hp):Prop where
 go:∀i Hc,ae H1 Hc→i<zs.length→J.go i Hc
 dX:∀i Hc v H',ae H1 Hc→J.dX i Hc v H'→∃T x y,v=.ref T∧Hc T=none∧H'=upd Hc T (.tup [x,y])∧(i<zs.length→zs[i]?=some (x,y))
 stop:∀i Hc,ae H1 Hc→zs.length≤i→J.stop i Hc
theorem Eh(iy:∀R:It→Hp→Prop,(∀J H1,ae H H1→l9 J xs H1→R J H1)→wi σ H R)(hn:xs.length<sizeLine)
  (P:Addr→Nat→V→Hp→Prop) (mono:∀D i y H H' ys,P D i y H→H D=some (.lst ys)→(∀b o,b≠D→H b=some o→H' b=some o)→P D i y H')
  (step:∀D i x,xs[i]?=some x→∀(Hc:Hp) (R:VK),ae H Hc→(∃ys,Hc D=some (.lst ys))→(∀y H3,ae Hc H3→P D i y H3→R y H3)→te (some x::ρ σ) Hc R)
  (fin:∀D ys Hc,H D=none→ae H Hc→ys.length=xs.length→(∀(i:Nat) (y:V),ys[i]?=some y→P D i y Hc)→Hc D=some (.lst ys)→Q (.ref D) Hc):ir wi ρ (fun _ H Q=>Q true H) te σ H Q:=by
 refine iy _ fun J H1 s1 js=>?_;intro D nD;have hD:H D=none:=by
  cases e:H D with
  | none=>rfl
  | some o=>rw [s1 _ _ e] at nD;cases nD
 exact D_ (ρσ:=ρ σ) (te:=te) (Q:=Q) js nD hn (P D) (mono D) (fun i x hx Hc R sc=>step D i x hx Hc R (s1.trans sc)) (fun ys Hc sc=>fin D ys Hc hD (s1.trans sc))
section
variable {X:Cx} {K:ay}
theorem iX(hK:X.K=K:=by rfl):uF X (DG K):=by subst hK;exact a_
def MG(K:ay):List V→Hp→VK→Prop:=fun xs H Q=>∃p ys,xs=[.ref p]∧(bC K H p ys∨dW K H p ys)∧Q (.int (ys.length:Int)) H
theorem Ei(hK:X.K=K:=by rfl):gv X (.builtin "len") (MG K):=by subst hK;exact eW
theorem MH{tg l:Expr}{tl:TE}(hl:PE X l tl)(hK:X.K=K:=by rfl):PI X tg l (C3 K tl):=by subst hK;exact gu hl
def MI(K:ay):List V→Hp→VK→Prop:=fun xs H Q=>∃p ys,xs=[.ref p]∧(bC K H p ys∨dW K H p ys)∧∀l,H l=none→Q (.ref l) (upd H l (.lst ys))
theorem MJ(hK:X.K=K:=by rfl):gv X (.type "list") (MI K):=by subst hK;exact wq
end
end L2
namespace My
open PySem L2
variable {te:TE} {σ:St} {H:Hp}
theorem Ak{r:List V→Hp→VK→Prop}{Q:VK}(h:te σ H fun x H1=>r [x] H1 Q):wo r (qo te jQ) σ H Q:=h
theorem gD{D:Ends}(h:te σ H D.rt):CZ te D σ H:=h
variable {q:Int}
theorem MK{b c:Int}(hq:a7 q)(h1:¬q∣b)(h2:¬q∣c):¬q∣b*c:=fun h=>by
 rcases hq with rfl | ⟨q2,q3,q4⟩
 ·have z:=jG.mp h
  rcases mM.mp z with z | z;·exact h1 (by rw [z];exact ku 0)
  ·exact h2 (by rw [z];exact ku 0)
 ·have k1:=fP c (show q≠0 by lia)
  have k2:=gH c (show 0<q by lia)
  have k3:c % q≠0:=fun z=>h2 (Int.dvd_of_emod_eq_zero z);have g:=D5 q2 q3 q4 (show 1≤c % q by lia) k2
  obtain ⟨w,ew⟩:=Mi c q;exact h1 (Mh q2 (Mg g ⟨-w,by rw [kx];lia⟩) h)
theorem ML{c:TT}{t u:TS}{D:Ends}(h:c σ H fun b H1=>if b=true then t D σ H1 else u D σ H1):C0 c t u D σ H:=h
theorem MM{Q:Bool→Hp→Prop}(h:te σ H fun x H1=>∃c,x=.bl c∧Q c H1):tB te σ H Q:=h
theorem Ej{vs:List V}{b:Bool}(h:∀(i:Nat) (v:V),vs[i]?=some v→v=.bl b):vs=(List.replicate vs.length b).map V.bl:=by
 refine List.ext_getElem? fun i=>?_;rw [cE];by_cases hi:i<vs.length
 ·rw [show vs[i]?=some vs[i] by simp [hi],h i vs[i] (by simp [hi])]
  simp [hi]
 ·rw [List.getElem?_eq_none (by lia),List.getElem?_eq_none (by simp;lia)]
  rfl
theorem MN(n:Nat):(List.replicate n false).any id=false:=by simp
theorem MO(n:Nat):(List.replicate n true).all id=true:=by simp
variable {H':Hp} {b:Addr}
theorem none_of(s:ae H H')(h:H' b=none):H b=none:=by
 cases e:H b with
 | none=>rfl
 | some o=>rw [s _ _ e] at h;cases h
def o1:Int×Int:=(0,1)
theorem getD_at{α:Type}{xs:List α}{d:α}{i:Nat}(hi:i<xs.length):xs.getD i d=xs[i]:=by
 rw [i_,show xs[i]?=some xs[i] by simp [hi]]
 rfl
def aQ:Nat→(Nat→Int)→Int
 | 0,_=>0
 | n+1,f=>f 0+aQ n fun i=>f (i+1)
theorem fM:∀{n:Nat} {f g:Nat→Int},(∀i,i<n→f i=g i)→aQ n f=aQ n g
 | 0,f,g,_=>rfl
 | n+1,f,g,h=>by unfold aQ;rw [h 0 (by lia),fM fun i hi=>h (i+1) (by lia)]
theorem nO:∀(n:Nat) (f g:Nat→Int),aQ n (fun i=>f i+g i)=aQ n f+aQ n g
 | 0,f,g=>rfl
 | n+1,f,g=>by show f 0+g 0+aQ n (fun i=>f (i+1)+g (i+1))=(f 0+aQ n fun i=>f (i+1))+(g 0+aQ n fun i=>g (i+1));rw [nO n];lia
theorem iY(c:Int):∀(n:Nat) (f:Nat→Int),c*aQ n f=aQ n fun i=>c*f i
 | 0,f=>by unfold aQ;rw [gq]
 | n+1,f=>by unfold aQ;rw [Int.mul_add,iY c n]
theorem uU:∀(n:Nat),aQ n (fun _=>0)=0
 | 0=>rfl
 | n+1=>by unfold aQ;rw [uU n];rfl
variable {B:Nat} {v:V}
theorem ma(hB:1≤B){a:Int}(h:uS H q v a 1)(hq:a7 q)(ha:a=0∨a=1):bE B H q v a 1:=by
 rcases h with ⟨rfl,r,rfl,e⟩ | ⟨q2,r,rfl,r0,r1,er⟩
 ·rw [(D7 a).1,(D7 a).2] at e
  exact .bK e ⟨by decide,Int.gcd_one_right ..⟩ (by rcases ha with rfl | rfl <;> simp [hB]) (by simpa using hB)
 ·have q3:q≤997:=by rcases hq with z | ⟨_,z,_⟩ <;> lia
  rw [mK (show (0:Int)≤1 by decide) (show (1:Int)<q by lia),fh,mK r0 r1] at er
  have ea:a % q=a:=mK (by lia) (by lia)
  rw [ea] at er;subst er;exact .rem r0 r1 q3
theorem qB(hq:a7 q):¬l8 q 1:=fun h=>by
 unfold l8 at h;rcases hq with rfl | ⟨q2,q3,q4⟩;·rw [ao rfl] at h;lia
 ·rw [ah (by lia),mK (by lia) (by lia)] at h;lia
def er(P:Addr)(H:Hp):Hp:=fun b=>if b=P then none else H b
variable {P:Addr}
theorem iZ:ae (er P H) H:=fun b o e=>by
 unfold er at e
 split at e
 ·cases e
 ·exact e
theorem jn(h:b≠P):er P H b=H b:=ah h
variable {o:HO}
theorem nQ(h:b≠P)(e:H b=some o):er P H b=some o:=by rw [jn h];exact e
theorem MP(s:ae H H'):ae (er P H) (er P H'):=fun b o e=>by
 unfold er at e ⊢
 split at e
 ·cases e
 ·rename_i h
  rw [ah h];exact s _ _ e
theorem Ek:er P (upd H P o)=er P H:=funext fun b=>by
 unfold er
 split
 ·rfl
 ·rename_i h
  exact aN h
def cj(H:Hp)(P a:Addr):Prop:=∃x y:Int,H P=some (.lst [.ref a,.int x,.int y])∧0≤x∧0≤y
variable {a:Addr}
theorem cj.mono(h:cj H P a)(s:ae H H'):cj H' P a:=by obtain ⟨x,y,e,h1,h2⟩:=h;exact ⟨x,y,s _ _ e,h1,h2⟩
variable {D:Addr}
theorem cj.upd(h:cj H P a)(n:D≠P):cj (L2.upd H D o) P a:=by obtain ⟨x,y,e,h1,h2⟩:=h;exact ⟨x,y,by rw [aN n.symm];exact e,h1,h2⟩
theorem cj.ne(h:cj H P a)(n:H D=none):D≠P:=fun z=>by obtain ⟨x,y,e,_⟩:=h;rw [z,e] at n;cases n
def aX(P:Addr)(H H':Hp):Prop:=ae (er P H) (er P H')
theorem aX.refl(H:Hp):aX P H H:=ae.refl _
theorem aX.trans{H2:Hp}(s:aX P H H')(t:aX P H' H2):aX P H H2:=ae.trans s t
theorem aX.of(s:ae H H'):aX P H H':=MP s
theorem aX.jX:aX P H (upd H P o):=by unfold aX;rw [Ek];exact ae.refl _
theorem aX.but(s:aX P H H')(n:H D=none):aX P H (upd H' D o):=fun b u e=>by
 have e0:=s b u e;have nb:b≠P:=fun z=>by unfold er at e;rw [ao z] at e;cases e
 rw [jn nb] at e e0 ⊢;rw [aN (fT e n)];exact e0
theorem aX.at(s:aX P H H')(nb:b≠P)(e:H b=some o):H' b=some o:=by have z:=s b o (nQ nb e);rw [jn nb] at z;exact z
def uV(B:Nat)(H:Hp)(q:Int)(a:Addr)(ps:cy):Prop:=∃vs:List V,H a=some (.lst vs)∧vs.length=ps.length∧∀(i:Nat) (v:V) (p:Int×Int),vs[i]?=some v→ps[i]?=some p→bE B H q v p.1 p.2
theorem uV.mono{ps:cy}(h:uV B H q a ps)(s:ae H H'):uV B H' q a ps:=by obtain ⟨vs,e,l,k⟩:=h;exact ⟨vs,s _ _ e,l,fun i v p h1 h2=>(k i v p h1 h2).mono s⟩
theorem MQ{K:ay}{B':Nat}{u:V}{x m:Int}{R:VK}(hv:bE B H q v x m)(hu:bE B' H q u 0 1)(k:R (.bl (decide (x=0))) H):D6 K v u H R:=by
 cases hv with
 | bK e l bx bm=>
  cases hu with
  | bK e' l' _ _=>
   refine .inr (.inr (.inl ⟨_,_,_,_,rfl,rfl,.of e,.of e',rfl,rfl,?_⟩));have z:(f9 [V.int x,V.int m] [V.int 0,V.int 1])=decide (x=0):=by
    show ((x == 0) && ((m == 1) && true))=_;by_cases hx:x=0
    ·subst hx
     have:=l.iu;rw [Int.gcd_zero_left] at this;have:=l.pos;have:m=1:=by lia
     subst this;rfl
    ·rw [dA hx,show (x == 0)=false from kj.mpr hx]
     rfl
   show R (.bl (f9 [V.int x,V.int m] [V.int 0,V.int 1])) H;rw [z];exact k
  | rem h0 h1 h2=>lia
 | rem h0 h1 h2=>
  cases hu with
  | bK=>lia
  | rem Xx qC nG=>
   refine .inr (.inr (.inr ⟨by simp [zC],?_⟩))
   rw [jT];exact k
end My
namespace L2
open PySem PySem.Spec PyProof.Rows
end L2
namespace My
open PySem L2
def jo(q:Int):Td:=if q=0 then .a "fractions" else .b "wheel" q
variable {q:Int}
theorem MR(hq:a7 q):(jo q).good=true:=by
 unfold jo;rcases hq with rfl | ⟨h1,h2,h3⟩;·rw [ao rfl];simp [Td.good,Td.uO]
 ·rw [ah (by lia)];simp [Td.good,Td.uO,Td.iU,h1,h2,h3]
theorem El:jo 0=.a "fractions":=ao rfl
theorem Em(h:q≠0):jo q=.b "wheel" q:=ah h
def jq(H:Hp)(td:Addr)(q:Int):Prop:=H td=some (.tup (jo q).vs)
variable {H H':Hp}
theorem jq.mono{td:Addr}(h:jq H td q)(s:ae H H'):jq H' td q:=s _ _ h
def MS:Sp:=fun vs H Q _=>∃c a:Int,vs=[.int c,.int a]∧0≤a∧∀r:Int,0≤r→Q (.int r) H
def MT(K:ay):Sp:=fun vs H Q _=>∃(P a:Addr) (ns:List Int) (many:Int),vs=[.ref P,.int many]∧cj H P a∧bC K (er P H) a (ns.map V.int)∧1≤many∧b7 many∧∀(r:Int) (H':Hp),0≤r→r<many→aX P H H'→cj H' P a→Q (.int r) H'
theorem bE.En{B:Nat}{v:V}{x m:Int}{P D:Addr}{ys:List V}(h:bE B (My.er P H) q v x m)(eD:H D=some (.lst ys))(k:∀b o,b≠D→b≠P→H b=some o→H' b=some o):bE B (My.er P H') q v x m:=by
 cases h with
 | bK e l bx bm=>
  rename_i r
  have nP:r≠P:=fun z=>by unfold My.er at e;rw [ao z] at e;cases e
  rw [jn nP] at e;refine .bK (nQ nP (k _ _ (fun z=>?_) nP e)) l bx bm;rw [z,eD] at e;cases e
 | rem h0 h1 h2=>exact .rem h0 h1 h2
end My
namespace L2
open PySem PySem.Spec PyProof.Rows
theorem wU{K:ay}{wi:TI}{ρ:St→St}{te:TE}{σ:St}{H:Hp}{Q:VK}{Z:List (V×V)→Hp→Prop}(iy:∀R:It→Hp→Prop,(∀J H1 zs,ae H H1→Eg J zs H1→zs.length<sizeLine→Z zs H1→R J H1)→wi σ H R)
  (P:Addr→Nat→V→Hp→Prop) (mono:∀D i y H H' ys,P D i y H→H D=some (.lst ys)→(∀b o,b≠D→H b=some o→H' b=some o)→P D i y H')
  (step:∀zs H1,Z zs H1→ae H H1→∀D i x y,zs[i]?=some (x,y)→∀(Hc:Hp) (R:VK),ae H1 Hc→(∃ys,Hc D=some (.lst ys))→(∀v H3,ae Hc H3→P D i v H3→R v H3)→te (some x::some y::ρ σ) Hc R)
  (fin:∀zs H1,Z zs H1→ae H H1→∀D vs Hc,H D=none→ae H1 Hc→vs.length=zs.length→(∀(i:Nat) (v:V),vs[i]?=some v→P D i v Hc)→Hc D=some (.lst vs)→Q (.ref D) Hc):wQ K wi ρ (fun _ H Q=>Q true H) te σ H Q:=by
 refine iy _ fun J H1 zs s1 js hn hZ=>?_;intro D nD;have hD:H D=none:=by
  cases e:H D with
  | none=>rfl
  | some o=>rw [s1 _ _ e] at nD;cases nD
 refine ⟨fun i m vs Hc=>m=zs.length-i∧i≤zs.length∧Hc D=some (.lst vs)∧ae H1 Hc∧vs.length=i∧∀(j:Nat) (v:V),vs[j]?=some v→P D j v Hc,⟨_,rfl,cu _,ax,gT (ae.refl H1) nD,rfl,fun j y e=>by simp at e⟩,?_⟩
 rintro i m vs Hc ⟨rfl,hi,eD,sH,el,hP⟩;refine ⟨eD,?_⟩;by_cases bO:i<zs.length
 ·refine .inr ⟨js.go i Hc sH bO,fun v H' hy=>?_⟩
  obtain ⟨T,x,y,ev,nT,eH,hx⟩:=js.dX i Hc v H' sH hy;subst ev eH;refine ⟨T,x,y,rfl,.of ax,?_⟩;dsimp only;rw [ao rfl];have sT:ae Hc (upd Hc T (.tup [x,y])):=fun b o e=>by rw [aN (fT e nT)];exact e
  refine step zs H1 hZ s1 D i x y (hx bO) _ _ (sH.trans sT) ⟨vs,sT _ _ eD⟩ fun w H3 s3 hp=>?_;have e3:=s3 _ _ (sT _ _ eD);have bG:∀b o,b≠D→H3 b=some o→upd H3 D (.lst (vs++[w])) b=some o:=fun b o nb e=>by rw [aN nb];exact e
  refine ⟨e3,by lia,zs.length-(i+1),by lia,rfl,bO,ax,gT (sH.trans (sT.trans s3)) nD,by simp [el],fun j v' e=>?_⟩
  by_cases hj:j<i;·exact mono D j v' Hc _ vs (hP j v' (by rw [lM (by lia)] at e;exact e)) eD fun b o nb e=>bG b o nb (s3 _ _ (sT _ _ e))
  ·have hj:j=i:=by have:=(cq.mp e).1;simp at this;lia
   subst hj;have e':v'=w:=by rw [lL (by lia),el,Nat.sub_self] at e;simpa using e.symm
   subst e';exact mono D _ _ H3 _ vs hp e3 bG
 ·have e:i=zs.length:=by lia
  subst e;exact .inl ⟨js.stop _ Hc sH (aD _),fin zs H1 hZ s1 D vs Hc hD sH el hP eD⟩
end L2
namespace My
open PySem L2
theorem Eo{a d t b:Int}(l:bQ a d)(hb:1≤b)(e:a*b=t*d):a=jV t b∧d=jW t b:=by
 have z:=Md (a:=t) (show b≠0 by lia)
 have hd:=l.pos;have hd2:=z.1.pos;refine Mj l z.1 ?_;refine D8 (c:=b) (by lia) ?_
 have z2:=z.2.1;grind
end My
namespace L2
open PySem PySem.Spec PyProof.Rows
def qD(K:ay)(l:Addr):It:=
  ⟨fun i H=>∃xs x,bC K H l xs∧xs[i]?=some x,
   fun i H v H'=>∃T x,H T=none∧v=.ref T∧H'=upd H T (.tup [.int (i:Int),x])∧∀xs,bC K H l xs→xs[i]?=some x,
   fun i H=>∃xs,bC K H l xs∧xs.length≤i⟩
variable {K:ay} {l:Addr}
theorem MU{P:Program}{w:World}{elts:List Expr}{k:Nat}{pos:Pos}{e it:Addr}(Ep:e≠it):Turn P w K (.Tuple elts k pos) (qD K l) [e,it] e
  (fun i h=>(∃old,IsEnum h e it (i:Int) old)∧h.IsListIter it l i) where
 mem:=by simp
 obj:=fun i h st b hb=>by
  obtain ⟨⟨old,he⟩,h1⟩:=st;simp only [cp,mL,or_false] at hb;rcases hb with rfl | rfl;·exact ⟨_,he,fun v z=>by cases z⟩
  ·obtain ⟨o,e,c,d⟩:=h1
   exact ⟨o,e,fun v z=>by rw [d] at z;cases z⟩
 keep:=fun i h h' st k=>by obtain ⟨⟨old,he⟩,h1⟩:=st;exact ⟨⟨old,k _ (by simp) _ he⟩,h1.at fun o e=>k _ (by simp) o e⟩
 item:=by
  intro X hP hw hK hc i pins s σ H E I hf st hg;subst hP hw hK;obtain ⟨⟨old,he⟩,h1⟩:=st;obtain ⟨xs,x,qE,hx⟩:=hg;obtain ⟨ag,rv,p,_⟩:=I.list qE;obtain ⟨u,hu,ru⟩:=rv.get hx;refine wpAny_pyNext_enum_item he h1 p.isList (x:=u) (by simpa using hu) Ep fun h' g1 g2 g3 g4 g5=>⟨_,rfl,?_⟩
  refine wpAny_letOwnedTupleGo_enum g1 fun wV q1 sb=>?_;have Er:H s.heap.objs.size=none:=I.aw.fresh (aD _);have lt:∀b o,s.heap.get? b=some o→b≠s.heap.objs.size:=fun b o e=>cP (bg e);have keep:∀b o,b∉[e,it]→s.heap.get? b=some o→wV.get? b=some o:=fun b o nb e=>by simp only [cp,mL,or_false,not_or] at nb;exact sb.extBut _ _ nb.1 (g5 b o nb.1 nb.2 e)
  have elt:e≠s.heap.objs.size:=lt _ _ he;have pT:=sb.extBut _ _ elt.symm g3;have uW:∀{b:Addr} {o:HO} (e:H b=some o),upd H s.heap.objs.size (.tup [.int (i:Int),x]) b=some o:=fun e=>by rw [aN (fT e Er)];exact e
  have aw:bU X.prog X.w (upd H s.heap.objs.size (.tup [.int (i:Int),x])) wV:=fun b o e=>by
   by_cases hb:b=s.heap.objs.size
   ·subst hb
    rw [ax] at e;cases e;exact ⟨by show 2≤sizeLine;decide,[.int i s.toks,u],.cons ⟨_,rfl⟩ (.cons ru .nil),⟨_,pT,rfl,_,rfl⟩⟩
   ·rw [aN hb] at e
    refine (I.aw b o e).hE (fun c v eR q=>keep c v (fun m=>?_) q) (fun c q=>uW q) fun c xs q=>uW q;have nn:=(hf c m).1;rcases eR with rfl | eR;·rw [nn] at e;cases e
    ·rw [nn] at eR;cases eR
  have u1:Un (cf X.stack) [e,it] H (upd H s.heap.objs.size (.tup [.int (i:Int),x])) s.heap wV:=
   ⟨fun b o e n _ hx=>keep b o hx e,fun b o e n _ hx=>⟨o.slots,keep b o hx e⟩,fun b o e n hx=>by rw [aN (lt b o e)];exact n,fun b o e hx=>⟨o,keep b o hx e⟩,fun b xs e=>uW e,fun b o u e=>uW e,fun b ps e=>⟨#[],by rw [uW e];simp⟩⟩
  refine ⟨.ref s.heap.objs.size,upd H s.heap.objs.size (.tup [.int (i:Int),x]),I.kH (s':={s with heap:=wV,toks:=s.toks+1}) (ch:=[e,it]) rfl u1 aw I.bare (fun b hb=>?_),rfl,⟨_,x,Er,rfl,rfl,fun as ha=>by rw [I.zm ha qE];exact hx⟩,?_,fun b hb=>?_⟩
  ·obtain ⟨f0,f1,f2,f3,f4,f5⟩:=hf b hb
   exact ⟨f3,f1,f4,f5⟩
  ·refine ⟨⟨u,?_⟩,g2.extBut sb.extBut Ep.symm⟩
   have z:((i+1:Nat):Int)=(i:Int)+1:=by lia
   rw [z];exact q1
  ·have nb:b≠s.heap.objs.size:=by
    simp only [cp,mL,or_false] at hb;rcases hb with rfl | rfl;·exact lt _ _ he
    ·obtain ⟨o,e,_⟩:=h1;exact lt _ _ e
   rw [aN nb];exact (hf b hb).1
 done:=by
  intro X hP hw hK hc i pins s σ H E I hf st hg;subst hP hw hK;obtain ⟨⟨old,he⟩,h1⟩:=st;obtain ⟨xs,qE,hx⟩:=hg;obtain ⟨ag,rv,p,_⟩:=I.list qE;have hl:=rv.length;refine wpAny_pyNext_enum_end (I.ok.hd hc) he h1 p.isList (by simp;lia) fun h' g=>⟨rfl,?_⟩
  have keep:∀b o,b∉[e,it]→s.heap.get? b=some o→h'.get? b=some o:=fun b o nb e=>by simp only [cp,mL,or_false,not_or] at nb;exact g b o nb.2 e
  have aw:bU X.prog X.w H h':=fun b o e=>by
   refine (I.aw b o e).hE (fun c v eR q=>keep c v (fun m=>?_) q) (fun c q=>q) fun c xs q=>q;have nn:=(hf c m).1;rcases eR with rfl | eR;·rw [nn] at e;cases e
   ·rw [nn] at eR;cases eR
  have u1:Un (cf X.stack) [e,it] H H s.heap h':=
   ⟨fun b o e n _ hx=>keep b o hx e,fun b o e n _ hx=>⟨o.slots,keep b o hx e⟩,fun b o e n hx=>n,fun b o e hx=>⟨o,keep b o hx e⟩,fun b xs e=>e,fun b o u e=>e,fun b ps e=>⟨#[],by rw [e];simp⟩⟩
  refine I.kH (s':={s with heap:=h'}) (ch:=[e,it]) rfl u1 aw I.bare fun b hb=>?_;obtain ⟨f0,f1,f2,f3,f4,f5⟩:=hf b hb;exact ⟨f3,f1,f4,f5⟩
 self:=fun _ _ _ _ _ st h=>by obtain ⟨⟨old,he⟩,_⟩:=st;exact wpAny_pyIter_enum he h
theorem boot_enumerate:bootBuiltins "enumerate"=some (.type "enumerate"):=by decide +kernel
def MV(K:ay)(ta:TA):TI:=fun σ H R=>ta σ H fun vs H1=>∃l,vs=[.ref l]∧(∃xs,bC K H1 l xs)∧R (qD K l) H1
section
variable {X:Cx}
theorem qF{elts:List Expr}{k:Nat}{wg:Pos}{a:Expr}{ta:TA}{p pos:Pos}(hg:Gl X "enumerate")(hm:X.mg "enumerate"=none)(ha:PA X [a] ta)(hs:starEach [a] X.env=[(false,eval a X.env)]:=by rfl) :
  PI X (.Tuple elts k wg) (.Call (.Name "enumerate" p) [a] [] pos) (MV X.K ta):=by
 intro pins s σ H R I h;refine Call_ (mW I hg hm boot_enumerate (t6 (aE (ha pos pins s σ H _ I h) fun us s1 ⟨vs,H1,I1,r1,q1⟩=>?_) hs rfl));obtain ⟨l,e,⟨xs,qE⟩,q⟩:=q1;subst e;obtain ⟨u,rfl,ru⟩:=vals1 r1;cases ru;obtain ⟨ag,rv,p1,_⟩:=I1.list qE;refine call_enumerate_list p1.isList fun h' z1 z2 z3 z4=>?_;refine wpAny_pyIter_enum (s:={s1 with heap:=h'}) z1 ?_;refine ⟨_,_,_,_,H1,rfl,I1.kept (t':=s1.toks) z4,MU (Nat.succ_ne_self _),⟨⟨_,z1⟩,z2⟩,fun b hb=>?_,q⟩;have le:s1.heap.objs.size≤b:=by
  simp only [cp,mL,or_false] at hb;rcases hb with rfl | rfl;·exact Nat.le_add_right ..
  ·exact aD _
 exact I1.qg le (I1.aw.fresh le)
end
theorem Es{xs:List V}{g:TG}{tb:TS}{D:Ends}{σ:St}{H:Hp}(Pv:Nat→St→Hp→Prop)(h0:Pv 0 σ H)(hl:∀i σ H,Pv i σ H→bC K H l xs)
  (hs:∀(i:Nat) (x:V) σ H T,xs[i]?=some x→Pv i σ H→H T=none→g (.ref T) σ (upd H T (.tup [.int (i:Int),x])) fun σ2 H2=>tb {D with nx:=Pv (i+1),ct:=Pv (i+1),bk:=D.nx} σ2 H2) (hd:∀σ H,Pv xs.length σ H→D.nx σ H) :
  ∃W:Nat→Nat→St→Hp→Prop,(∃m,W 0 m σ H)∧∀i m σ H,W i m σ H→
   ((qD K l).stop i H∧D.nx σ H)∨((qD K l).go i H∧∃N:St→Hp→Prop,(∀σ' H',N σ' H'→∃m',m'<m∧W (i+1) m' σ' H')∧∀x H',(qD K l).dX i H x H'→g x σ H' fun σ2 H2=>tb {D with nx:=N,ct:=N,bk:=D.nx} σ2 H2):=by
 refine ⟨fun i m σ H=>m=xs.length-i∧i≤xs.length∧Pv i σ H,⟨xs.length,by simp,cu _,h0⟩,?_⟩
 rintro i m σ H ⟨rfl,hi,p⟩;have q1:=hl i σ H p;by_cases bO:i<xs.length
 ·refine .inr ⟨⟨xs,xs[i],q1,by simp [bO]⟩,Pv (i+1),fun σ' H' p'=>⟨xs.length-(i+1),by lia,rfl,bO,p'⟩,fun v H' hy=>?_⟩
  obtain ⟨T,x,nT,rfl,rfl,hx⟩:=hy;exact hs i x σ H T (hx xs q1) p nT
 ·have e:i=xs.length:=by lia
  subst e;exact .inl ⟨⟨xs,q1,aD _⟩,hd σ H p⟩
end L2
namespace My
open PySem L2
theorem qG:∀(n:Nat) (f:Nat→Int),aQ (n+1) f=aQ n f+f n
 | 0,f=>by show f 0+0=0+f 0;lia
 | n+1,f=>by show f 0+aQ (n+1) (fun i=>f (i+1))=(f 0+aQ n fun i=>f (i+1))+f (n+1);rw [qG n];lia
end My
namespace L2
open PySem PySem.Spec PyProof.Rows
section
variable {X:Cx} {tg:Expr}
end
end L2
namespace My
open PySem L2
def Cg(q a b:Int):Prop:=q∣a-b
variable {q:Int}
theorem Cg.refl(a:Int):Cg q a a:=⟨0,by lia⟩
variable {a b:Int}
theorem Cg.of_eq(h:a=b):Cg q a b:=h▸Cg.refl a
theorem Cg.symm(h:Cg q a b):Cg q b a:=by obtain ⟨k,e⟩:=h;exact ⟨-k,by rw [kx];lia⟩
variable {c:Int}
theorem Cg.trans(h1:Cg q a b)(h2:Cg q b c):Cg q a c:=by obtain ⟨k,e⟩:=h1;obtain ⟨l,e'⟩:=h2;exact ⟨k+l,by rw [Int.mul_add];lia⟩
theorem Cg.sub{d:Int}(h1:Cg q a b)(h2:Cg q c d):Cg q (a-c) (b-d):=by obtain ⟨k,e⟩:=h1;obtain ⟨l,e'⟩:=h2;exact ⟨k-l,by rw [Int.mul_sub];lia⟩
theorem Cg.mulL(c:Int)(h:Cg q a b):Cg q (c*a) (c*b):=by obtain ⟨k,e⟩:=h;exact ⟨c*k,by rw [←Int.mul_sub,e];grind⟩
theorem Cg.mulR(c:Int)(h:Cg q a b):Cg q (a*c) (b*c):=by rw [dI a,dI b];exact h.mulL c
theorem Et(q a:Int):Cg q (a % q) a:=⟨-(a / q),by have:=Int.mul_ediv_add_emod a q;rw [kx];lia⟩
def bf(j:Nat)(v:aF):Nat→Nat→Int:=fun i=>if i<j then v i else v (i+1)
def sgn(j:Nat):Int:=if j % 2=0 then 1 else -1
theorem Al(j:Nat):sgn (j+1)=-sgn j:=by
 unfold sgn;by_cases h:j % 2=0;·rw [ao h,ah (by lia)]
 ·rw [ah h,ao (by lia)];rfl
def aB:List Nat→(Nat→Nat→Int)→Int
 | [],_=>1
 | c::cs,v=>aQ (cs.length+1) fun j=>sgn j*v j c*aB cs (bf j v)
theorem uX(c:Nat)(cs:List Nat)(v:aF):aB (c::cs) v=aQ (cs.length+1) fun j=>sgn j*v j c*aB cs (bf j v):=rfl
theorem MW{l j:Nat}(h:l≤j)(v:aF):bf l (bf (j+1) v)=bf j (bf l v):=by
 funext i
 unfold bf;by_cases h1:i<l;·rw [ao h1,ao (by lia),ao (by lia),ao h1]
 ·rw [ah h1]
  by_cases h2:i<j;·rw [ao h2,ah h1,ao (by lia)]
  ·rw [ah h2,ah (by lia),ah (by lia)]
theorem Eu(n:Nat)(f:Nat→Int):aQ n (fun i=>-f i)=-aQ n f:=by
 have:=iY (-1) n f;rw [show (fun i=>-f i)=fun i=>-1*f i from funext fun i=>by lia,←this]
 lia
theorem MX(n:Nat)(F:aF):(aQ (n+1) fun j=>aQ n fun l=>F j l)=(aQ n fun j=>aQ (j+1) fun l=>F (j+1) l)+aQ n fun l=>aQ (l+1) fun j=>F j l:=by
 induction n with
 | zero=>rfl
 | succ n ih=>
  rw [qG (n+1) fun j=>aQ (n+1) fun l=>F j l];have e1:(aQ (n+1) fun j=>aQ (n+1) fun l=>F j l)=(aQ (n+1) fun j=>aQ n fun l=>F j l)+aQ (n+1) fun j=>F j n:=by rw [←nO];exact fM fun j _=>qG n _
  rw [e1,ih,qG n fun j=>aQ (j+1) fun l=>F (j+1) l,qG n fun l=>aQ (l+1) fun j=>F j l];lia
theorem Ew(a b:Nat)(cs:List Nat)(v:aF):aB (a::b::cs) v=-aB (b::a::cs) v:=by
 have ex:∀x y:Nat,aB (x::y::cs) v=(aQ (cs.length+1) fun j=>aQ (j+1) fun l=>sgn (j+1)*sgn l*(v (j+1) x*v l y)*aB cs (bf j (bf l v)))-aQ (cs.length+1) fun j=>aQ (j+1) fun l=>sgn (j+1)*sgn l*(v l x*v (j+1) y)*aB cs (bf j (bf l v)):=fun x y=>by
  have e0:aB (x::y::cs) v=aQ (cs.length+2) fun j=>aQ (cs.length+1) fun l=>sgn j*v j x*(sgn l*bf j v l y*aB cs (bf l (bf j v))):=by rw [uX,eE];refine fM fun j _=>?_;rw [uX,iY]
  rw [e0,MX (cs.length+1)];rw [Int.sub_eq_add_neg,←Eu]
  congr 1
  ·refine fM fun j _=>fM fun l hl=>?_
   rw [MW (by lia),show bf (j+1) v l y=v l y by unfold bf;rw [ao (by lia)]]
   grind
  ·refine fM fun l _=>?_
   rw [←Eu];refine fM fun j hj=>?_;rw [show bf j v l y=v (l+1) y by unfold bf;rw [ah (by lia)],Al]
   grind
 rw [ex a b,ex b a];have f:∀x y:Nat,(aQ (cs.length+1) fun j=>aQ (j+1) fun l=>sgn (j+1)*sgn l*(v l x*v (j+1) y)*aB cs (bf j (bf l v)))=aQ (cs.length+1) fun j=>aQ (j+1) fun l=>sgn (j+1)*sgn l*(v (j+1) y*v l x)*aB cs (bf j (bf l v)):=fun x y=>fM fun j _=>fM fun l _=>by rw [dI (v l x)]
 rw [f a b,f b a];lia
theorem qH(c:Nat):∀(cs:List Nat) (v:aF),c∈cs→aB (c::cs) v=0
 | b::cs,v,h=>by
  by_cases e:c=b
  ·subst e
   have:=Ew c c cs v;lia
  ·have h':c∈cs:=by
    rcases cp.mp h with z | z;·exact absurd z e
    ·exact z
   rw [Ew,uX];rw [show (fun j=>sgn j*v j b*aB (c::cs) (bf j v))=fun _=>0 from funext fun j=>by rw [qH c cs _ h',gq],uU]
   rfl
def aG(e:Nat→Int)(R:aF):Nat→Nat→Int
 | 0=>e
 | i+1=>R i
theorem Ex(e:Nat→Int)(R:aF):bf 0 (aG e R)=R:=by
 funext i
 unfold bf;rw [ah (by lia)]
 rfl
theorem Ey(i:Nat)(e:Nat→Int)(R:aF):bf (i+1) (aG e R)=aG e (bf i R):=by
 funext j
 unfold bf;cases j with
 | zero=>rw [ao (by lia)];rfl
 | succ j=>
  by_cases h:j<i
  ·rw [ao (by lia)]
   show R j=if j<i then R j else R (j+1)
   rw [ao h]
  ·rw [ah (by lia)]
   show R (j+1)=if j<i then R j else R (j+1)
   rw [ah h]
theorem iz(k:Nat)(C:List Nat)(e:Nat→Int)(R:aF):aB (k::C) (aG e R)=aB C R*e k+aQ C.length fun i=>R i k*(-(sgn i)*aB C (aG e (bf i R))):=by
 rw [uX,aQ];have e0:sgn 0*aG e R 0 k*aB C (bf 0 (aG e R))=aB C R*e k:=by rw [Ex];show 1*e k*aB C R=_;rw [Int.one_mul,dI]
 rw [e0]
 congr 1
 refine fM fun i _=>?_;rw [Ey,Al];show -sgn i*R i k*_=_;grind
def qI(C:List Nat)(R:aF):Prop:=∀x:Nat→Int,(∀c∈C,(aQ C.length fun i=>R i c*x i)=0)→∀k,(aQ C.length fun i=>R i k*x i)=0
theorem MY(R:aF):qI [] R:=fun _ _ _=>rfl
variable {C:List Nat} {R:aF}
theorem MZ{h:Nat→Int}{c:Nat}(sp:qI C R)(d0:aB C R≠0)(p0:aB (c::C) (aG h R)≠0):qI (c::C) (aG h R):=by
 intro x hx k;have ex:∀k,(aQ (c::C).length fun i=>aG h R i k*x i)=h k*x 0+aQ C.length fun i=>R i k*x (i+1):=fun k=>rfl;have hz:∀k,aB C R*(h k*x 0+aQ C.length fun i=>R i k*x (i+1))-x 0*aB (k::C) (aG h R)=aQ C.length fun i=>R i k*(aB C R*x (i+1)-x 0*(-(sgn i)*aB C (aG h (bf i R)))):=fun k=>by
  rw [iz,show (fun i=>R i k*(aB C R*x (i+1)-x 0*(-(sgn i)*aB C (aG h (bf i R)))))=fun i=>aB C R*(R i k*x (i+1)) + -(x 0)*(R i k*(-(sgn i)*aB C (aG h (bf i R)))) from funext fun i=>by grind,nO,←iY,←iY]
  grind
 have z:=sp _ fun c' eR=>by rw [←hz c',←ex c',hx c' (fO _ eR),qH c' C _ eR];simp
 have z1:∀k,aB C R*(h k*x 0+aQ C.length fun i=>R i k*x (i+1))=x 0*aB (k::C) (aG h R):=fun k=>by have:=hz k;rw [z k] at this;omega
 have x0:x 0=0:=by
  have e:=z1 c;rw [←ex c,hx c gg,gq] at e;rcases mM.mp e.symm with h | h;·exact h
  ·exact absurd h p0
 have e:=z1 k;rw [x0,eQ] at e;rw [ex k,x0];rcases mM.mp e with h | h;·exact absurd h d0
 ·exact h
theorem M0(sp:qI C R)(e h:Nat→Int)(c k:Nat) :
  aB C R*aB (k::c::C) (aG e (aG h R))=aB (c::C) (aG h R)*aB (k::C) (aG e R)-aB (c::C) (aG e R)*aB (k::C) (aG h R):=by
 have two:∀k,aB (k::c::C) (aG e (aG h R))=aB (c::C) (aG h R)*e k-aB (c::C) (aG e R)*h k+aQ C.length fun i=>R i k*(sgn i*aB (c::C) (aG e (aG h (bf i R)))):=fun k=>by
  rw [iz,eE,aQ];have e0:aG h R 0 k*(-(sgn 0)*aB (c::C) (aG e (bf 0 (aG h R))))=-(aB (c::C) (aG e R)*h k):=by rw [Ex];show h k*(-1*_)=_;grind
  rw [e0,show (fun i=>aG h R (i+1) k*(-(sgn (i+1))*aB (c::C) (aG e (bf (i+1) (aG h R)))))=fun i=>R i k*(sgn i*aB (c::C) (aG e (aG h (bf i R)))) from funext fun i=>by rw [Ey,Al,Int.neg_neg];rfl]
  lia
 have hz:∀k,aB C R*aB (k::c::C) (aG e (aG h R))-(aB (c::C) (aG h R)*aB (k::C) (aG e R)-aB (c::C) (aG e R)*aB (k::C) (aG h R))=aQ C.length fun i=>R i k*(aB C R*(sgn i*aB (c::C) (aG e (aG h (bf i R))))-aB (c::C) (aG h R)*(-(sgn i)*aB C (aG e (bf i R)))+aB (c::C) (aG e R)*(-(sgn i)*aB C (aG h (bf i R)))):=fun k=>by
  rw [two k,iz k C e R,iz k C h R];rw [show (fun i=>R i k*(aB C R*(sgn i*aB (c::C) (aG e (aG h (bf i R))))-aB (c::C) (aG h R)*(-(sgn i)*aB C (aG e (bf i R)))+aB (c::C) (aG e R)*(-(sgn i)*aB C (aG h (bf i R)))))=fun i=>(aB C R*(R i k*(sgn i*aB (c::C) (aG e (aG h (bf i R))))) + -(aB (c::C) (aG h R))*(R i k*(-(sgn i)*aB C (aG e (bf i R)))))+aB (c::C) (aG e R)*(R i k*(-(sgn i)*aB C (aG h (bf i R)))) from funext fun i=>by grind,nO,nO,←iY,←iY,←iY]
  grind
 have z:=sp _ fun c' eR=>by rw [←hz c',qH c' (c::C) _ (fO _ eR),qH c' C _ eR,qH c' C _ eR];simp
 have:=hz k;rw [z k] at this;omega
def jY(C:List Nat)(R:aF)(f:Nat→Int):Nat→Int:=fun k=>aB (k::C) (aG f R)
theorem M1(R:aF)(f:Nat→Int)(k:Nat):jY [] R f k=f k:=by show aB [k] (aG f R)=f k;rw [iz];show 1*f k+0=f k;lia
theorem M3(R:aF)(f:Nat→Int){c:Nat}(h:c∈C):jY C R f c=0:=qH c C _ h
theorem Ez{e:Nat→Int}:∀{C:List Nat} (S:aF),C≠[]→(∀x∈C,e x=0)→aB C (aG e S)=0
 | x::C,S,_,h=>by
  rw [iz,h x gg,gq,uh];cases C with
  | nil=>rfl
  | cons y C=>rw [show (fun i=>S i x*(-(sgn i)*aB (y::C) (aG e (bf i S))))=fun _=>0 from funext fun i=>by rw [Ez (bf i S) (by simp) fun z hz=>h z (fO _ hz)];simp,uU]
theorem M4(sp:qI C R)(f h:Nat→Int)(c k:Nat):jY C R h c*jY C R f k-jY C R f c*jY C R h k=aB C R*jY (c::C) (aG h R) f k:=(M0 sp f h c k).symm
def f_:Nat→Nat
 | 0=>1
 | n+1=>(n+1)*f_ n
theorem EA{M:Nat}:∀(n:Nat) (f:Nat→Int),(∀i,i<n→(f i).natAbs≤M)→(aQ n f).natAbs≤n*M
 | 0,_,_=>by show (0:Int).natAbs≤_;simp
 | n+1,f,h=>by rw [qG,Nat.succ_mul];exact aV (Int.natAbs_add_le ..) (Nat.add_le_add (EA n f fun i hi=>h i (by lia)) (h n (by lia)))
theorem wW{B:Nat}:∀(C:List Nat) (v:aF),(∀i c,(v i c).natAbs≤B)→(aB C v).natAbs≤f_ C.length*B ^ C.length
 | [],_,_=>by show (1:Int).natAbs≤1*B ^ 0;simp
 | c::C,v,h=>by
  rw [uX];refine aV (EA (M:=B*(f_ C.length*B ^ C.length)) _ _ fun j _=>?_) (Nat.le_of_eq ?_)
  ·rw [fE,fE]
   have s1:(sgn j).natAbs=1:=by unfold sgn;split <;> rfl
   rw [s1,Nat.one_mul];refine fQ (h j c) (wW C _ fun i c'=>?_);unfold bf
   split
   ·exact h _ _
   ·exact h _ _
  ·rw [eE,f_,Nat.pow_succ]
   rw [Nat.mul_assoc,Nat.mul_left_comm B,Nat.mul_comm B]
theorem EB(hq:a7 q):¬q∣1:=fun h=>by
 rcases hq with rfl | ⟨h2,_⟩
 ·have:=jG.mp h
  lia
 ·have:=Int.le_of_dvd (by decide) h
  lia
theorem wX{u x:Int}(hq:a7 q)(nu:¬q∣u)(h:Cg q (u*x) 0):Cg q x 0:=by unfold Cg at h ⊢;rw [ky] at h ⊢;exact y_ fun nx=>MK hq nu nx h
end My
namespace L2
open PySem PySem.Spec PyProof.Rows
theorem M5{xs ys:List Int}(h:xs.length=ys.length):((List.range xs.length).all fun j=>kP (.int (xs.getD j 0)) (.int (ys.getD j 0)))=decide (xs=ys):=by
 by_cases e:xs=ys
 ·subst e
  rw [cX rfl,p_];intro j _;exact MF rfl
 ·rw [dA e]
  cases z:((List.range xs.length).all fun j=>kP (.int (xs.getD j 0)) (.int (ys.getD j 0))) with
  | false=>rfl
  | true=>refine absurd (fF h fun j h1 h2=>?_) e;have:=p_.mp z j (fD.mpr h1);have this:(xs.getD j 0 == ys.getD j 0)=true:=this;rw [jB,i_,i_] at this;simpa [h1,h2] using this
end L2
namespace My
open PySem L2
def iA(B:Nat)(H:Hp)(q:Int)(a:Addr)(ai:fS):Prop:=∃vs:List V,H a=some (.lst vs)∧vs.length=ai.length∧∀(i:Nat) (v:V) (ps:cy),vs[i]?=some v→ai[i]?=some ps→∃r:Addr,v=.ref r∧uV B H q r ps
theorem iA.mono{B:Nat}{H H':Hp}{q:Int}{a:Addr}{ai:fS}(h:iA B H q a ai)(s:ae H H'):iA B H' q a ai:=by obtain ⟨vs,e,l,k⟩:=h;exact ⟨vs,s _ _ e,l,fun i v ps h1 h2=>by obtain ⟨r,e1,e2⟩:=k i v ps h1 h2;exact ⟨r,e1,e2.mono s⟩⟩
def M6(N:Addr):Sp:=fun vs H Q E=>∃(a:Addr) (q:Int) (B:Nat) (ai:fS) (m:Nat),vs=[.ref a]∧iA B H q a ai∧1≤ai.length∧ai.length≤40∧(∀ps∈ai,ps.length=m)∧∀H',ae H H'→Q (.int (m:Int)) H'
def M7(N:Addr):Sp:=fun vs H Q E=>∃(a:Addr) (q:Int) (B:Nat) (ai:fS) (m:Nat),vs=[.ref a]∧iA B H q a ai∧1≤ai.length∧ai.length≤40∧(∀ps∈ai,ps.length=m)∧(m≠ai.length→∀H',ae H H'→E (.ref N) none H')∧(m=ai.length→∀H',ae H H'→Q (.int (m:Int)) H')
def atT(ai:fS)(i j:Nat):Int×Int:=(ai.getD i []).getD j o1
end My
namespace L2
open PySem PySem.Spec PyProof.Rows
end L2
namespace My
open PySem L2
end My
namespace L2
open PySem PySem.Spec PyProof.Rows
section
variable {X:Cx}
end
end L2
namespace My
open PySem L2
end My
namespace L2
open PySem PySem.Spec PyProof.Rows
end L2
namespace My
open PySem L2
theorem wY{wi:TI}{ρ:St→St}{te:TE}{σ:St}{H:Hp}{Q:VK}{xs:List V}{n:Nat}(hl:xs.length=n)(iy:∀R:It→Hp→Prop,(∀J H1,ae H H1→l9 J xs H1→R J H1)→wi σ H R)(hn:n<sizeLine)
  (P:Addr→Nat→Addr→Hp→Prop) (mono:∀D i y H H' ys,P D i y H→y≠D→H D=some (.lst ys)→(∀b o,b≠D→H b=some o→H' b=some o)→P D i y H')
  (step:∀D (i:Nat) (x:V),xs[i]?=some x→∀(Hc:Hp) (R:VK),ae H Hc→(∃ys,Hc D=some (.lst ys))→(∀y H3,ae Hc H3→Hc y=none→(∃o,H3 y=some o)→P D i y H3→R (.ref y) H3)→te (some x::ρ σ) Hc R)
  (fin:∀D (A:Nat→Addr) Hc,H D=none→ae H Hc→(∀i j,i<n→j<n→A i=A j→i=j)→(∀i,i<n→P D i (A i) Hc∧A i≠D)→Hc D=some (.lst ((List.range n).map fun i=>V.ref (A i)))→Q (.ref D) Hc):ir wi ρ (fun _ H Q=>Q true H) te σ H Q:=by
 refine iy _ fun J H1 s1 js=>?_;intro D nD;have hD:H D=none:=by
  cases e:H D with
  | none=>rfl
  | some o=>rw [s1 _ _ e] at nD;cases nD
 refine ⟨fun i m ys Hc=>m=n-i∧i≤n∧Hc D=some (.lst ys)∧ae H1 Hc∧∃A:Nat→Addr,ys=(List.range i).map (fun j=>V.ref (A j))∧(∀a b,a<i→b<i→A a=A b→a=b)∧∀j,j<i→P D j (A j) Hc∧A j≠D∧∃o,Hc (A j)=some o,⟨_,rfl,cu _,ax,gT (ae.refl H1) nD,fun _=>D,rfl,(fun a b h=>by lia),fun j h=>by lia⟩,?_⟩
 rintro i m ys Hc ⟨rfl,hi,eD,sH,A,rfl,inj,hA⟩;refine ⟨eD,?_⟩;by_cases bO:i<n
 ·refine .inr ⟨js.go i Hc sH (by lia),fun x H' hy=>?_⟩
  obtain ⟨rfl,hx⟩:=js.dX i Hc x H' sH hy;rw [ao rfl];refine step D i x (hx (by lia)) _ _ (s1.trans sH) ⟨_,eD⟩ fun y H3 s3 ny ⟨o,ho⟩ hp=>?_
  have e3:=s3 _ _ eD;have yD:y≠D:=fun e=>by rw [e,eD] at ny;cases ny
  have bG:∀b o,b≠D→H3 b=some o→upd H3 D (.lst ((List.range i).map (fun j=>V.ref (A j))++[.ref y])) b=some o:=fun b o nb e=>by rw [aN nb];exact e
  have nA:∀j,j<i→A j≠y:=fun j hj e=>by obtain ⟨_,_,o',h'⟩:=hA j hj;rw [e,ny] at h';cases h'
  refine ⟨e3,by simp;lia,n-(i+1),by lia,rfl,bO,ax,gT (sH.trans s3) nD,fun j=>if j=i then y else A j,?_,fun a b ha hb e=>?_,fun j hj=>?_⟩
  ·rw [List.range_succ,uj]
   congr 1
   ·refine iM fun j hj=>?_
    dsimp only;rw [ah (by have:=fD.mp hj;lia)]
   ·simp
  ·dsimp only at e
   by_cases z1:a=i
   ·by_cases z2:b=i
    ·lia
    ·rw [ao z1,ah z2] at e
     exact absurd e.symm (nA b (by lia))
   ·by_cases z2:b=i
    ·rw [ah z1,ao z2] at e
     exact absurd e (nA a (by lia))
    ·rw [ah z1,ah z2] at e
     exact inj a b (by lia) (by lia) e
  ·dsimp only
   by_cases z:j=i
   ·rw [ao z,z]
    exact ⟨mono D i y H3 _ _ hp yD e3 bG,yD,o,bG _ _ yD ho⟩
   ·rw [ah z]
    obtain ⟨h1,h2,o',h3⟩:=hA j (by lia)
    exact ⟨mono D j (A j) H' _ _ h1 h2 eD (fun b o nb e=>bG b o nb (s3 _ _ e)),h2,o',bG _ _ h2 (s3 _ _ h3)⟩
 ·have e:i=n:=by lia
  subst e;exact .inl ⟨js.stop _ Hc sH (by lia),fin D A Hc hD (s1.trans sH) inj (fun j hj=>⟨(hA j hj).1,(hA j hj).2.1⟩) eD⟩
open PySem PySem.W PyProof.Rows
section
variable {n:Nat} {c:Nat→Int}
end
end My
namespace Tm
open PySem PySem.W PyProof.Rows
section
variable {prog:Program} {w:World} {A:Around} {E:aI} {s:Shared} {κ:SortKind} {key:Keyed→Int} {Ok:Keyed→Prop}
end
section
variable {prog:Program} {w:World} {A:Around} {E:aI} {s:Shared} {κ:SortKind} {key:Keyed→Int} {Ok:Keyed→Prop}
section
end
end
section
variable {key:Keyed→Int}
end
section
variable {prog:Program} {w:World} {A:Around} {E:aI} {s:Shared} {κ:SortKind} {key:Keyed→Int} {Ok:Keyed→Prop}
end
section
variable {prog:Program} {w:World} {A:Around} {E:aI} {s:Shared} {κ:SortKind} {key:Keyed→Int} {Ok:Keyed→Prop}
variable {arr:Array Keyed} {pend:Array (Nat×Nat×Nat)} {g:Nat}
end
section
variable {prog:Program} {w:World} {A:Around} {E:aI} {s:Shared} {κ:SortKind} {key:Keyed→Int} {Ok:Keyed→Prop} {arr:Array Keyed} {pend:Array (Nat×Nat×Nat)} {g:Nat}
end
section
variable {prog:Program} {w:World} {A:Around} {E:aI} {s:Shared} {κ:SortKind} {key:Keyed→Int} {Ok:Keyed→Prop} {arr:Array Keyed} {pend:Array (Nat×Nat×Nat)} {g:Nat}
end
section
variable {prog:Program} {w:World} {A:Around} {E:aI} {s:Shared} {κ:SortKind} {key:Keyed→Int} {Ok:Keyed→Prop} {arr:Array Keyed} {pend:Array (Nat×Nat×Nat)} {g:Nat}
end
section
variable {key:Keyed→Int} {arr Xy:Array Keyed}
end
section
variable {prog:Program} {w:World} {A:Around} {E:aI} {s:Shared} {κ:SortKind} {key:Keyed→Int} {Ok:Keyed→Prop} {arr:Array Keyed} {pend:Array (Nat×Nat×Nat)} {g:Nat}
end
end Tm
namespace My
open PySem PySem.W PyProof.Rows Tm
section
variable {prog:Program} {w:World} {A:Around} {E:aI} {s:Shared}
end
open PySem PySem.W PyProof.Rows
section
variable {prog:Program} {w:World} {A:Around} {E:aI} {s:Shared}
end
end My
namespace L2
open PySem PySem.W PyProof.Rows My
end L2
namespace My
open PySem L2
def M8(K:ay):R2:=fun x y H Q=>∃a b xs,x=.ref a∧y=.ref b∧bC K H a xs∧H b=some (.lst [])∧Q (.bl (!xs.isEmpty)) H
variable {X:Cx}
theorem M9(hu:X.A.units+64<cLine):cg X (compareOp .NotEq) (M8 X.K):=by
 intro pins s σ H x y v u Q I rx ry h;obtain ⟨a,b,xs,rfl,rfl,h1,h2,q⟩:=h;cases rx;cases ry;obtain ⟨us,r1,t1,_⟩:=I.list h1;obtain ⟨vs,r2,t2,_⟩:=I.list (bC.of h2);have l1:=r1.length;have l2:=r2.length;cases xs with
 | nil=>
  refine SeqAt.RcNeAt.lists (e:=fun _=>true) t1.isList t2.isList (by simp at l1 l2 ⊢;lia) (by lia) (fun j z1 z2=>?_) _ _ _ _ ?_
  ·simp at l1
   have:us=[]:=List.length_eq_zero_iff.mp l1.symm;subst this;simp at z1
  ·rw [all_range]
   exact ⟨.bl false,H,I,rfl,q⟩
 | cons w ws=>
  refine SeqAt.RcNeAt.lists_lengths t1.isList t2.isList ?_ (by lia) _ _ _ _ ⟨.bl true,H,I,rfl,q⟩
  simp at l1 l2 ⊢;lia
def M_(K:ay):Sp:=fun vs H Q _=>∃(P a l:Addr) (ns:List Int) (xs:List V),vs=[.ref P,.ref l]∧cj H P a∧bC K (er P H) a (ns.map V.int)∧l≠P∧H l=some (.lst xs)∧xs.length≤100 ∧
 ∀(r:Addr) (ys:List V) (H':Hp),aX P H H'→cj H' P a→er P H r=none→r≠P→H' r=some (.lst ys)→ys.Perm xs→Q (.ref r) H'
theorem EC{α:Type}:∀(zs:List α) (k:Nat) (h:k<zs.length),(zs[k]::zs.eraseIdx k).Perm zs
 | _::_,0,_=>.refl _
 | z::zs,k+1,h=>(List.Perm.swap _ _ _).trans ((EC zs k (by simpa using h)).cons z)
def gc(H:Hp)(vs:List V)(L:cy):Prop:=vs.length=L.length∧∀(k:Nat) (v:V) (p:Int×Int),vs[k]?=some v→L[k]?=some p→∃b,v=.ref b∧H b=some (.tup [.int p.1,.int p.2])
theorem gc.nil(H:Hp):gc H [] []:=⟨rfl,fun k v p h=>by simp at h⟩
variable {H H':Hp} {L:cy}
theorem gc.mono{vs:List V}(h:gc H vs L)(s:ae H H'):gc H' vs L:=⟨h.1,fun k v p h1 h2=>by obtain ⟨b,e,g⟩:=h.2 k v p h1 h2;exact ⟨b,e,s _ _ g⟩⟩
variable {xs:List V}
theorem gc.bG{vs:List V}{r:Addr}(h:gc H vs L)(e:H r=some (.lst xs))(k:∀b o,b≠r→H b=some o→H' b=some o):gc H' vs L:=⟨h.1,fun i v p h1 h2=>by obtain ⟨b,eb,g⟩:=h.2 i v p h1 h2;refine ⟨b,eb,k b _ (fun z=>?_) g⟩;rw [z,e] at g;cases g⟩
def An(H:Hp)(t:Addr)(n:Nat)(L:cy):Prop:=∃(lt:Addr) (us:List V),H t=some (.tup [.int (n:Int),.ref lt])∧H lt=some (.tup us)∧gc H us L
theorem gc.cat{us zs:List V}{M:cy}(h:gc H us L)(g:gc H zs M):gc H (us++zs) (L++M):=⟨by simp [h.1,g.1],fun k v p h1 h2=>by
 have hl:=h.1;by_cases z:k<us.length
 ·rw [lM z] at h1
  rw [lM (by lia)] at h2
  exact h.2 k v p h1 h2
 ·rw [lL (by lia)] at h1
  rw [lL (by lia),show k-L.length=k-us.length by lia] at h2
  exact g.2 _ v p h1 h2⟩
theorem ED{P a b:Addr}(p:cj H P a)(e:H b=some (.tup xs)):er P H b=some (.tup xs):=by refine nQ (fun z=>?_) e;obtain ⟨x,y,eP,_⟩:=p;rw [z,eP] at e;cases e
variable {K:ay}
theorem EE(hu:X.A.units<cLine)(hK:X.K=K:=by rfl):cg X (compareOp .NotEq) (wN K):=by subst hK;exact Ae hu
theorem EF{B B':Nat}{q:Int}{v u:V}{x m:Int}{R:VK}(hv:bE B H q v x m)(hu:bE B' H q u 0 1)(k:R (.bl (!decide (x=0))) H):wN K v u H R:=by
 cases hv with
 | bK e l bx bm=>
  cases hu with
  | bK e' l' _ _=>
   refine .inl ⟨_,_,_,_,rfl,rfl,.of e,.of e',rfl,rfl,?_⟩;have z:(f9 [V.int x,V.int m] [V.int 0,V.int 1])=decide (x=0):=by
    show ((x == 0) && ((m == 1) && true))=_;by_cases hx:x=0
    ·subst hx
     have:=l.iu;rw [Int.gcd_zero_left] at this;have:=l.pos;have:m=1:=by lia
     subst this;rfl
    ·rw [dA hx,show (x == 0)=false by simp [hx],Bool.false_and]
   rw [z];simpa using k
  | rem h0 h1 _=>lia
 | rem h0 h1 h2=>
  cases hu with
  | bK _ _ _ _=>lia
  | rem _ _ _=>
   refine .inr ⟨rfl,?_⟩;rw [show decide (V.int x=V.int 0)=decide (x=0) by simp]
   exact k
theorem EG{wi:TI}{ρ:St→St}{tt:TT}{te:TE}{σ:St}{Q:VK}(pr:Nat→Bool)(iy:∀R:It→Hp→Prop,(∀J,l9 J xs H→R J H)→wi σ H R)(hn:xs.length<sizeLine)
  (P:Addr→Nat→V→Hp→Prop) (mono:∀D i y H H' ys,P D i y H→H D=some (.lst ys)→(∀b o,b≠D→H b=some o→H' b=some o)→P D i y H')
  (test:∀(i:Nat) (x:V),xs[i]?=some x→∀(Hc:Hp) (R:Bool→Hp→Prop),ae H Hc→R (pr i) Hc→tt (some x::ρ σ) Hc R)
  (step:∀D (i:Nat) (x:V),xs[i]?=some x→∀(Hc:Hp) (R:VK),ae H Hc→(∃ys,Hc D=some (.lst ys))→(∀y H3,ae Hc H3→P D i y H3→R y H3)→te (some x::ρ σ) Hc R)
  (fin:∀D ys Hc,H D=none→ae H Hc→ys.length=((List.range xs.length).filter pr).length→(∀(k i:Nat) (y:V),ys[k]?=some y→((List.range xs.length).filter pr)[k]?=some i→P D i y Hc)→Hc D=some (.lst ys)→Q (.ref D) Hc):ir wi ρ tt te σ H Q:=by
 refine iy _ fun J js=>?_;intro D nD;refine ⟨fun i m ys Hc=>m=xs.length-i∧i≤xs.length∧Hc D=some (.lst ys)∧ae H Hc∧ys.length=((List.range i).filter pr).length∧∀(k i':Nat) (y:V),ys[k]?=some y→((List.range i).filter pr)[k]?=some i'→P D i' y Hc,⟨_,rfl,cu _,ax,gT (ae.refl H) nD,rfl,fun k i y h=>by simp at h⟩,?_⟩
 rintro i m ys Hc ⟨rfl,hi,eD,sH,ly,hP⟩;refine ⟨eD,?_⟩;by_cases bO:i<xs.length
 ·refine .inr ⟨js.go i Hc sH bO,fun x H' hy=>?_⟩
  obtain ⟨rfl,hx⟩:=js.dX i Hc x H' sH hy;refine test i x (hx bO) _ _ sH ?_;have fs:(List.range (i+1)).filter pr=(List.range i).filter pr++(if pr i=true then [i] else []):=by
   rw [List.range_succ,List.filter_append]
   congr 1
   cases e:pr i <;> simp [e]
  have fl:((List.range i).filter pr).length≤i:=aV (za _ _) (by simp)
  cases e:pr i with
  | true=>
   rw [ao rfl];refine step D i x (hx bO) _ _ sH ⟨_,eD⟩ fun y H3 s3 hp=>?_;have e3:=s3 _ _ eD;have bG:∀b o,b≠D→H3 b=some o→upd H3 D (.lst (ys++[y])) b=some o:=fun b o nb e=>by rw [aN nb];exact e
   refine ⟨e3,by lia,xs.length-(i+1),by lia,rfl,bO,ax,gT (sH.trans s3) nD,?_,fun k i' y' h1 h2=>?_⟩
   ·rw [fs,e,ao rfl,iK,iK,ly]
    rfl
   ·rw [fs,e,ao rfl] at h2
    by_cases z:k<ys.length
    ·rw [lM z] at h1
     rw [lM (by lia)] at h2
     refine mono D i' y' H' _ ys (hP k i' y' h1 h2) eD fun b o nb e=>bG b o nb (s3 _ _ e)
    ·have hk:=(cq.mp h1).1
     rw [iK,List.length_singleton] at hk;obtain rfl:k=ys.length:=by lia
     rw [lL (aD _),Nat.sub_self] at h1;rw [lL (by lia),show ys.length-((List.range i).filter pr).length=0 by lia] at h2
     cases h1;cases h2;exact mono D _ _ H3 _ ys hp e3 bG
  | false=>
   rw [ah (by simp)]
   refine ⟨xs.length-(i+1),by lia,rfl,bO,eD,sH,?_,fun k i' y' h1 h2=>?_⟩
   ·rw [fs,e,ah (by simp),t8]
    exact ly
   ·rw [fs,e,ah (by simp),t8] at h2
    exact hP k i' y' h1 h2
 ·have e:i=xs.length:=by lia
  subst e;exact .inl ⟨js.stop _ Hc sH (aD _),fin D ys Hc nD sH ly hP eD⟩
def jZ(n:Nat)(f:Nat→Nat→Bool)(i:Nat):List (Int×Int):=((List.range (n-(i+1))).filter fun k=>f i (i+1+k)).map fun k=>((i:Int),((i+1+k:Nat):Int))
def cL(n:Nat)(f:Nat→Nat→Bool):Nat→List (Int×Int)
 | 0=>[]
 | i+1=>cL n f i++jZ n f i
variable {n i:Nat} {f:Nat→Nat→Bool}
theorem Na{p:Int×Int}(h:p∈jZ n f i):∃j,i<j∧j<n∧f i j=true∧p=((i:Int),(j:Int)):=by obtain ⟨k,hk,rfl⟩:=jH.mp h;obtain ⟨h1,h2⟩:=pX.mp hk;have:=fD.mp h1;exact ⟨i+1+k,by lia,by lia,h2,rfl⟩
theorem Nb{j:Nat}(h1:i<j)(h2:j<n)(h3:f i j=true):((i:Int),(j:Int))∈jZ n f i:=by
 refine jH.mpr ⟨j-(i+1),pX.mpr ⟨fD.mpr (by lia),?_⟩,?_⟩
 ·show f i (i+1+(j-(i+1)))=true
  rw [show i+1+(j-(i+1))=j by lia]
  exact h3
 ·rw [show i+1+(j-(i+1))=j by lia]
theorem mem_of{n:Nat}{f:Nat→Nat→Bool}{p:Int×Int}:∀{k:Nat},p∈cL n f k→∃i j,i<k∧i<j∧j<n∧f i j=true∧p=((i:Int),(j:Int))
 | 0,h=>by cases h
 | k+1,h=>by
  rcases km.mp h with h | h
  ·obtain ⟨i,j,h1,h2⟩:=mem_of h
   exact ⟨i,j,by lia,h2⟩
  ·obtain ⟨j,h1⟩:=Na h
   exact ⟨k,j,by lia,h1⟩
theorem uY{n:Nat}{f:Nat→Nat→Bool}{i j:Nat}(h1:i<j)(h2:j<n)(h3:f i j=true):∀{k:Nat},i<k→((i:Int),(j:Int))∈cL n f k
 | k+1,h=>by
  by_cases z:i=k
  ·subst z
   exact cV _ (Nb h1 h2 h3)
  ·exact List.mem_append_left _ (uY h1 h2 h3 (by lia))
def jr(ai:fS)(i j:Nat):Bool:=!decide (((ai.getD i []).getD j o1).1=0)
def bN(ai:fS)(i j:Nat):Bool:=jr ai i j || jr ai j i
def Nc(C:Addr):Sp:=fun vs H Q _=>∃(z a:Addr) (q:Int) (B:Nat) (ai:fS) (n i:Nat),vs=[.ref z,.ref a,.int (i:Int)]∧cZ C H z q∧a7 q∧iA B H q a ai∧ai.length=n∧n≤40∧(∀ps∈ai,ps.length=n)∧i<n ∧
 ∀(r:Addr) (us:List V) (H':Hp),ae H H'→H r=none→H' r=some (.lst us)→gc H' us (jZ n (bN ai) i)→Q (.ref r) H'
def Nd(C N:Addr):Sp:=fun vs H Q E=>∃(z a:Addr) (q:Int) (B:Nat) (ai:fS) (m:Nat),vs=[.ref z,.ref a]∧cZ C H z q∧a7 q∧iA B H q a ai∧1≤ai.length∧ai.length≤40∧(∀ps∈ai,ps.length=m) ∧
 (m≠ai.length→∀H',ae H H'→E (.ref N) none H') ∧
 (m=ai.length→∀(t:Addr) (H':Hp),ae H H'→H t=none→An H' t m (cL m (bN ai) m)→Q (.ref t) H')
end My
namespace L2
open PySem PySem.Spec PyProof.Rows
section
variable {X:Cx} {pins:aO} {σ:St} {H:Hp} {s:Shared}
end
end L2
namespace My
open PySem L2
theorem Nf{q:Int}:(jo q).prime=if q=0 then V.aH else .int q:=by
 unfold jo
 split <;> rfl
end My
namespace L2
open PySem PySem.Spec PyProof.Rows
def Ao(o:Obj):Nat:=match o.data with
 | .dict _ ep=>ep
 | _=>0
def qJ(a:Addr)(o:Obj)(aj:List (Key×V)):It:=
 ⟨fun i H=>H a=some (.cb o (.dK aj))∧i<aj.length,fun i H x H'=>H'=H∧∃kv,aj[i]?=some kv∧x=kV kv.1,fun i H=>H a=some (.cb o (.dK aj))∧aj.length≤i⟩
variable {k:Key}
theorem Ng{v:Value}(h:mO k v=true):RelV (kV k) v:=by
 rcases jJ h with ⟨i,t,rfl,rfl⟩ | ⟨x,t,rfl,rfl⟩;·exact ⟨t,rfl⟩
 ·exact ⟨t,rfl⟩
theorem EH{aj:List (Key×V)}{vs:List (Key×Value)}:∀{i:Nat} {kv:Key×V},KV aj vs→aj[i]?=some kv→∃v,vs[i]?=some (kv.1,v)
 | _,_,.nil,h=>by simp at h
 | 0,kv,.cons (b:=b) r _,h=>by simp at h;subst h;obtain ⟨k,v⟩:=b;have e:_=k:=r.1;exact ⟨v,by rw [e];rfl⟩
 | i+1,kv,.cons _ t,h=>by simp at h;obtain ⟨v,e⟩:=EH t h;exact ⟨v,by simpa using e⟩
section
variable {X:Cx} {pins:aO} {σ:St} {H:Hp} {s:Shared}
theorem Inv.Ap{a:Addr}{o:Obj}{aj:List (Key×V)}(I:Inv X pins σ H s)(h:H a=some (.cb o (.dK aj))):∃vs,KV aj vs∧s.heap.DictAt (gK X.prog X.w) a vs (Ao o):=by obtain ⟨g,_,_,vs,r,o',es,ep,g',c,d,rest⟩:=(show cz X.prog X.w H s.heap a (.cb o (.dK aj)) from I.aw a _ h);rw [g] at g';cases g';refine ⟨vs,r,o,es,g,c,?_,rest⟩;rw [d];unfold Ao;rw [d]
end
variable {P:Program} {w:World}
theorem Nh{K:ay}{tg:Expr}(a it:Addr)(o:Obj)(aj:List (Key×V)):Turn P w K tg (qJ a o aj) [it] it (fun i h=>h.IsKeyIter it a i aj.length (Ao o)) where
 mem:=by simp
 obj:=fun i h st b hb=>by
  have e:b=it:=by simpa using hb
  subst e;obtain ⟨o,e,c,d⟩:=st;exact ⟨o,e,fun v z=>by rw [d] at z;cases z⟩
 keep:=fun i h h' st k=>by obtain ⟨o,e,c,d⟩:=st;exact ⟨o,k it (by simp) o e,c,d⟩
 item:=by
  intro X hP hw hK hc i pins s σ H E I hf st hg;subst hP hw hK;obtain ⟨eH,hi⟩:=hg;obtain ⟨vs,r,hm⟩:=I.Ap eH;have lr:aj.length=vs.length:=Paired.length r;have ek:aj[i]?=some aj[i]:=by simp [hi]
  obtain ⟨v,ev⟩:=EH r ek;obtain ⟨f0,f1,f2,f3,f4,f5⟩:=hf it (by simp)
  rw [lr] at st;refine wpAny_pyNext_dict_item st hm ev fun key h' hk gN sb=>?_;have I1:Inv X pins σ H {s with heap:=h'}:=I.turned (t':=s.toks) (fun b o hb e=>(sb.2 b hb).trans e) f0 f1 f3 f4 f5;obtain ⟨o',e,c,d⟩:=id gN;rw [←lr] at gN;exact ⟨key,rfl,uB (s:={s with heap:=h'}) e c d (by decide) ⟨kV aj[i].1,H,I1,Ng hk,⟨rfl,_,ek,rfl⟩,gN,fun b hb=>(hf b hb).1⟩⟩
 done:=by
  intro X hP hw hK hc i pins s σ H E I hf st hg;subst hP hw hK;obtain ⟨eH,hi⟩:=hg;obtain ⟨vs,r,hm⟩:=I.Ap eH;have lr:aj.length=vs.length:=Paired.length r;obtain ⟨f0,f1,f2,f3,f4,f5⟩:=hf it (by simp)
  rw [lr] at st;exact wpAny_pyNext_dict_end (I.ok.hd hc) st hm (by simp;lia) fun h' eb=>⟨rfl,I.turned (t':=s.toks) (fun b o hb e=>eb b o hb e) f0 f1 f3 f4 f5⟩
 self:=fun _ _ _ _ _ st h=>wpAny_pyIter_keyiter st h
section
variable {X:Cx} {tg:Expr}
def Ni(tl:TE):TI:=fun σ H R=>tl σ H fun x H1=>∃a aj,x=.ref a∧((H1 a=some (.dK aj)∧∀o,R (qJ a o aj) (upd H1 a (.cb o (.dK aj))))∨∃o,H1 a=some (.cb o (.dK aj))∧R (qJ a o aj) H1)
theorem Nj{l:Expr}{tl:TE}(hl:PE X l tl):PI X tg l (Ni tl):=by
 intro pins s σ H R I h;refine aE (hl pins s σ H _ I h) fun v s1 ⟨x,H1,I1,r1,q1⟩=>?_;obtain ⟨a,aj,e,q⟩:=q1;subst e;cases r1;have main:∀{H2:Hp} {o:Obj},Inv X pins σ H2 s1→H2 a=some (.cb o (.dK aj))→R (qJ a o aj) H2→wpAny (model X.prog X.w) X.A (pyIter (.ref a)) (zx X pins σ tg R) X.xe s1:=fun{H2 o} I2 eH q=>by
  obtain ⟨vs,r,hm⟩:=I2.Ap eH;obtain ⟨_,_,sys,_⟩:=(show cz X.prog X.w H2 s1.heap a (.cb o (.dK aj)) from I2.aw a _ eH);have lr:aj.length=vs.length:=Paired.length r;refine wpAny_pyIter_dict sys hm ?_;refine ⟨s1.heap.objs.size,[s1.heap.objs.size],_,_,H2,rfl,I2.kept (t':=s1.toks) fun b o e=>bT _ e,Nh a _ o aj,⟨_,dS _ rfl,rfl,by rw [lr];rfl⟩,fun b hb=>?_,q⟩
  have e:b=s1.heap.objs.size:=by simpa using hb
  subst e;exact I2.qg (aD _) (I2.aw.fresh (aD _))
 rcases q with ⟨eH,q⟩ | ⟨o,eH,q⟩
 ·obtain ⟨hz,sys,vs,r,o,es,ep,g,c,d,rest⟩:=(show cz X.prog X.w H1 s1.heap a (.dK aj) from I1.aw a _ eH)
  refine main (H2:=upd H1 a (.cb o (.dK aj))) ?_ ax (q o);exact I1.write (t':=s1.toks) (x:=a) (e:=a) (by rw [eH];exact trivial) (.inl rfl) (fun b u _ e=>e) ⟨o,g⟩ ⟨g,hz,sys,vs,r,o,es,ep,g,c,d,rest⟩
 ·exact main I1 eH q
end
section
variable (P:Program) (w:World)
end
section
variable {P:Program} {w:World} {H H':Hp} {h h':Heap} {a:Addr} {o:HO}
end
section
variable {P:Program} {w:World} {H:Hp} {h h':Heap} {x e:Addr} {o':HO}
end
section
variable {fs zd ex ze:List Addr} {H H1 H2:Hp} {h h1 h2 h':Heap} {a x e:Addr} {o:HO}
end
section
variable {X:Cx} {pins:aO} {σ:List (Option V)} {H H':Hp} {s:Shared} {h':Heap}
end
section
variable {X:Cx}
variable {a b:Expr} {ta tb:TE} {pos:Pos}
variable {tA zk:TT} {rest:List Expr}
end
section
variable {X:Cx} {pins:aO} {σ:St} {H:Hp} {s:Shared} {a:Addr} {xs ys:List V}
end
section
variable {X:Cx} {pins:aO} {σ:St} {H:Hp} {s:Shared} {E:aI}
end
section
variable {X:Cx} {st:Stmt} {rest:List Stmt} {t u:TS} {e:Expr} {te:TE} {pos:Pos}
end
section
variable {X:Cx} {pos:Pos}
end
section
variable {X:Cx} {pos:Pos}
end
section
variable {X:Cx} {tg:Expr}
end
section
variable {X:Cx} {a b c:Expr} {ta tb tc:TE} {pos:Pos}
end
section
variable {X:Cx} {a b c:Expr} {ta tb tc:TE} {pos:Pos}
end
section
variable {prog:Program} {w:World} {A:Around} {E:aI} {s:Shared} {K:ay} {x dx C f:Addr} {mA:cJ} {name:Str} {v:Value}
end
section
variable {P:Program} {w:World} {H H':Hp} {h h':Heap} {a C dx:Addr} {fs zd:List (Str×V)}
end
section
variable {X:Cx} {pins:aO} {σ:St} {H:Hp} {s:Shared} {a C dx:Addr} {fs:List (Str×V)} {f:Str} {v:V} {A:Around} {E:aI}
end
section
variable {X:Cx} {o e value:Expr} {f:Str} {pos pos' wg:Pos} {ta tv:TE}
end
section
variable {X:Cx} {pins:aO} {σ:St} {H:Hp} {s:Shared} {A:Around} {E:aI} {Q:aI} {c:Value} {b:Bool}
end
section
variable {X:Cx} {e:Expr} {es:List Expr} {te:TE} {t:TA} {pos:Pos}
end
section
variable {X:Cx} {pins:aO} {σ:St} {H:Hp} {s s':Shared}
end
section
variable {X:Cx} {CX:gw} {k:Nat} {f C:Addr} {fd:FuncData} {ps:List Str} {sp:Sp} {d8:List V} {ds:List Value} {E:XK} {x m:Str} {p pos apos:Pos} {e o:Expr} {es:List Expr} {ta:TE} {t:TA}
end
section
variable {X:Cx} {CX:gw} {k:Nat} {f C:Addr} {fd:FuncData} {ps ks:List Str} {sp:Sp} {E:XK} {x m:Str} {p pos apos Du:Pos} {e o:Expr} {es:List Expr} {J7:List Keyword} {te ta:TE} {t tk:TA} {nm:Option Str}
variable {g:List Value→List Value→List Value} {gV:List V→List V→List V}
end
section
variable {X:Cx} {x:Str} {p pos:Pos} {e:Expr} {es:List Expr} {t:TA} {id T:String} {r:List V→Hp→VK→Prop}
end
section
variable {κ:Type} [DecidableEq κ]
def nR(aj:List (κ×V))(k:κ):Option V:=(aj.find? fun kv=>decide (kv.1=k)).map (·.2)
def putK(aj:List (κ×V))(k:κ)(v:V):List (κ×V):=
 if (aj.any fun kv=>decide (kv.1=k))=true then aj.map (fun kv=>if kv.1=k then (kv.1,v) else kv) else aj++[(k,v)]
variable {p:κ×V}
theorem EI{r:List (κ×V)}{k:κ}(e:p.1=k):nR (p::r) k=some p.2:=by simp [nR,vR,e]
theorem EJ{r:List (κ×V)}{k:κ}(e:¬p.1=k):nR (p::r) k=nR r k:=by simp [nR,vR,e]
theorem EK(k:κ):∀aj:List (κ×V),(aj.any fun kv=>decide (kv.1=k))=(nR aj k).isSome
 | []=>rfl
 | p::r=>by
  rw [ug];by_cases e:p.1=k;·simp only [EI e,cX e,Bool.true_or,Option.isSome_some]
  ·rw [EJ e,dA e,Bool.false_or];exact EK k r
theorem EL(aj:List (κ×V))(k:κ)(v:V):(putK aj k v).length≤aj.length+1:=by
 unfold putK
 split
 ·rw [a8];lia
 ·rw [iK,eE,List.length_nil];lia
theorem g9.Nk{o:Option V}{u:Option Value}(r:g9 o u):o.isSome=u.isSome:=by
 cases o with
 | none=>cases u with
  | none=>rfl
  | some _=>exact (show False from r).elim
 | some _=>cases u with
  | none=>exact (show False from r).elim
  | some _=>rfl
variable {aj:List (κ×V)}
theorem KV.any{vs:List (κ×Value)}(r:KV aj vs)(k:κ):(aj.any fun kv=>decide (kv.1=k))=vs.any fun kv=>decide (kv.1=k):=by
 unfold KV at r
 induction r with
 | nil=>rfl
 | cons h t ih=>rw [ug,ug,ih,h.1]
variable {y:V} {u:Value}
theorem KV.Aq{vs:List (κ×Value)}(r:KV aj vs)(k:κ)(ry:RelV y u) :
  KV (aj.map fun kv=>if kv.1=k then (kv.1,y) else kv) (vs.map fun kv=>if kv.1=k then (kv.1,u) else kv):=by
 unfold KV at r ⊢
 induction r with
 | nil=>exact .nil
 | @cons p q ps qs h t ih=>
  rw [cQ,cQ];refine .cons ?_ ih;obtain ⟨h1,h2⟩:=h;by_cases e:p.1=k;·rw [ao e,ao (h1.symm.trans e)];exact ⟨h1,ry⟩
  ·rw [ah e,ah (fun z=>e (h1.trans z))];exact ⟨h1,h2⟩
theorem KV.put{vs:List (κ×Value)}(r:KV aj vs)(k:κ)(ry:RelV y u):KV (putK aj k y) (stored vs k u):=by
 unfold putK stored;rw [r.any k];by_cases e:(vs.any fun kv=>decide (kv.1=k))=true;·rw [ao e,ao e];exact r.Aq k ry
 ·rw [ah e,ah e];exact Paired.snoc r ⟨rfl,ry⟩
theorem KV.length{vs:List (κ×Value)}(r:KV aj vs):aj.length=vs.length:=Paired.length r
end
variable {u:Value}
theorem EM(r:RelV (kV k) u):(gK P w).is k u=true:=by
 cases k with
 | inl i=>obtain ⟨t,e⟩:=(show ∃t,u=Value.int i t from r);subst e;exact Iw P w i t
 | inr x=>obtain ⟨t,e⟩:=(show ∃t,u=Value.str x t from r);subst e;exact Iy P w x t
theorem EN{P:Program}{w:World}:∀{ks:List Key} {us:List Value},Vals (ks.map kV) us→ItemsAre (gK P w) ks us
 | [],_,r=>by rw [List.map_nil] at r;cases r;exact .nil
 | k::ks,_,r=>by
  rw [cQ] at r;cases r with
  | cons h t=>exact .cons (EM h) (EN t)
abbrev KT (H:Hp):List (List Key×V)→List (List Key×Addr×Value)→Prop:=Paired fun p q=>p.1=q.1∧H q.2.1=some (.tup (p.1.map kV))∧RelV p.2 q.2.2
variable {H:Hp} {aj:List (List Key×V)} {xs:List (List Key×Addr×Value)}
theorem KT.val(r:KT H aj xs)(k:List Key):g9 (nR aj k) ((atKey xs k).map (·.2)):=by
 induction r with
 | nil=>exact True.intro
 | @cons p q ps qs h t ih=>
  obtain ⟨h1,_,h2⟩:=h;by_cases e:p.1=k
  ·have e':q.1=k:=h1.symm.trans e
   have b:atKey (q::qs) k=some q.2:=by simp [atKey,vR,e']
   rw [EI e,b];exact h2
  ·have e':¬q.1=k:=fun z=>e (h1.trans z)
   have b:atKey (q::qs) k=atKey qs k:=by simp [atKey,vR,e']
   rw [EJ e,b];exact ih
variable {y:V}
theorem KT.Aq(r:KT H aj xs)(k:List Key)(ry:RelV y u) :
  KT H (aj.map fun kv=>if kv.1=k then (kv.1,y) else kv) (xs.map (putAt k u)):=by
 induction r with
 | nil=>exact .nil
 | @cons p q ps qs h t ih=>
  rw [cQ,cQ];refine .cons ?_ ih;obtain ⟨h1,h2,h3⟩:=h;unfold putAt;by_cases e:p.1=k;·rw [ao e,ao (h1.symm.trans e)];exact ⟨h1,h2,ry⟩
  ·rw [ah e,ah (fun z=>e (h1.trans z))];exact ⟨h1,h2,h3⟩
theorem KT.put(r:KT H aj xs)(k:List Key){b:Addr}(hb:H b=some (.tup (k.map kV)))(ry:RelV y u) :
  KT H (putK aj k y) (storedH xs k b u):=by
 have e:(aj.any fun kv=>decide (kv.1=k))=(atKey xs k).isSome:=by rw [EK,(r.val k).Nk,Option.isSome_map]
 unfold putK storedH;rw [e];by_cases q:(atKey xs k).isSome=true;·rw [ao q,ao q];exact r.Aq k ry
 ·rw [ah q,ah q];exact Paired.snoc r ⟨rfl,hb,ry⟩
theorem KT.keeps{H':Hp}(r:KT H aj xs)(ht:∀b ys,H b=some (.tup ys)→H' b=some (.tup ys)):KT H' aj xs:=
 Paired.zc r fun _ _ z=>⟨z.1,ht _ _ z.2.1,z.2.2⟩
section
variable {P:Program} {w:World} {H:Hp} {h:Heap} {a:Addr}
theorem EO{u:HO}(ok:bU P w H h)(e:Rd H a u):cz P w H h a u:=e.ok ok
theorem Nl{aj:List (Key×V)}(ok:bU P w H h)(e:Rd H a (.dK aj)):aj.length≤sizeLine∧(a == sysModules)=false∧∃vs,KV aj vs∧h.DictOf (gK P w) a vs:=
 show cz P w H h a (.dK aj) from EO ok e
theorem Nm{aj:List (Key×V)}(ok:bU P w H h)(e:H a=some (.dK aj)):aj.length≤sizeLine∧(a == sysModules)=false∧∃vs,KV aj vs∧h.DictOf (gK P w) a vs:=Nl ok (.inl e)
theorem ER{ks:List Key}(ok:bU P w H h)(e:H a=some (.tup (ks.map kV))):(tupleKind (gK P w)).is h ks a:=by obtain ⟨_,ag,r,o,h1,h2,n,h3⟩:=(show cz P w H h a (.tup (ks.map kV)) from ok a _ e);exact ⟨o,ag.toArray,n,h1,h2,h3,by simpa using EN r⟩
theorem Nn(ok:bU P w H h)(e:Rd H a (.dT aj)):aj.length≤sizeLine∧(a == sysModules)=false ∧
  ∃xs,KT H aj xs∧h.DictOfH (tupleKind (gK P w)) a xs:=by
 obtain ⟨z,y,xs,r,o,es,ep,h1,h2,h3,h4,h5⟩:=(show cz P w H h a (.dT aj) from EO ok e);refine ⟨z,y,xs,r,o,es,ep,h1,h2,h3,h4,fun x hx=>?_,h5⟩;have all:∀{l:List (List Key×V)} {m:List (List Key×Addr×Value)},KT H l m→∀x∈m,(tupleKind (gK P w)).is h x.1 x.2.1:=by
  intro l m q
  induction q with
  | nil=>intro x hx;exact nomatch hx
  | @cons p q ps qs hq t ih=>
   intro x hx;rcases cp.mp hx with e | hx
   ·subst e
    exact ER ok (by rw [←hq.1];exact hq.2.1)
   ·exact ih x hx
 exact all r x hx
theorem Np(ok:bU P w H h)(e:H a=some (.dT aj)):aj.length≤sizeLine∧(a == sysModules)=false ∧
  ∃xs,KT H aj xs∧h.DictOfH (tupleKind (gK P w)) a xs:=Nn ok (.inl e)
end
def Ar(H:Hp)(a:Addr)(y v:V)(H':Hp):Prop:=
 (∃aj k,H a=some (.dK aj)∧y=kV k∧aj.length<sizeLine∧H'=upd H a (.dK (putK aj k v))) ∨
 ∃aj k b,H a=some (.dT aj)∧y=.ref b∧H b=some (.tup (k.map kV))∧aj.length<sizeLine∧H'=upd H a (.dT (putK aj k v))
section
variable {X:Cx} {pins:aO} {σ:St} {H:Hp} {s:Shared} {a:Addr} {y v:V} {u r:Value} {o:Option V} {A:Around} {E:aI}
theorem Inv.big(I:Inv X pins σ H s):sysModules<s.heap.objs.size:=by have h:mainGlobals<s.heap.objs.size:=(I.mod.glob.keeps I.bk).lt;exact Nat.lt_trans (by decide) h
variable {h':Heap}
theorem ES{t':Nat}{ob:HO}(I:Inv X pins σ H s)(mu:uu (H a))(hs:Heap.SameBut a s.heap h')(he:∃q,h'.get? a=some q)(new:cz X.prog X.w (upd H a ob) h' a ob) :
  Inv X pins σ (upd H a ob) {s with heap:=h',toks:=t'}:=
 I.write (x:=a) (e:=a) mu (.inl rfl) (fun b q hb z=>(hs.2 b hb).trans z) he new
variable {H':Hp}
theorem Nq{aj:List (Key×V)}{vs:List (Key×Value)}(z:aj.length≤sizeLine)(hd:(a == sysModules)=false)(rel:KV aj vs)(dd:h'.DictOf (gK P w) a vs) :
  cz P w H' h' a (.dK aj):=⟨z,hd,vs,rel,dd⟩
theorem Nr{Q:Unit→Shared→Prop}(hu:A.units+1<cLine)(I:Inv X pins σ H s)(g:Ar H a y v H')(ry:RelV y u)(rv:RelV v r)(h:∀s',Inv X pins σ H' s'→Q () s') :
  wpAny (model X.prog X.w) A (setItem (.ref a) u r) Q E s:=by
 rcases g with ⟨aj,k,e,ey,l,eH⟩ | ⟨aj,k,b,e,ey,eb,l,eH⟩
 ·subst ey eH
  obtain ⟨z,hd,vs,rel,dd⟩:=Nm I.aw e;have hz:vs.length≤sizeLine:=by rw [←rel.length];exact z
  have hl:(putK aj k v).length≤sizeLine:=by have:=EL aj k v;lia
  refine wpAny_setItem_pairs (hsz:=hz) (EM ry) dd fun h' uK hs=>h _ ?_;have he:∃q,h'.get? a=some q:=let ⟨q,_,_,hq,_⟩:=uK;⟨q,hq⟩
  exact ES I (by rw [e];exact True.intro) hs he (Nq hl hd (rel.put k rv) uK)
 ·subst ey eH
  cases (show u=Value.ref b from ry);obtain ⟨z,hd,xs,rel,dd⟩:=Np I.aw e;have hz:xs.length≤sizeLine:=by rw [←Paired.length rel];exact z
  have hl:(putK aj k v).length≤sizeLine:=by have:=EL aj k v;lia
  refine wpAny_setItem_heap (hsz:=hz) (tupleKind_room_in1 hu) (ER I.aw eb) dd fun h' uK hs=>h _ ?_;obtain ⟨q,es,ep,hq,h2,h3,h4,_,h5⟩:=uK;refine ES I (by rw [e];exact True.intro) hs ⟨q,hq⟩ ⟨hl,hd,_,(rel.put k eb rv).keeps fun c ys ec=>?_,q,es,ep,hq,h2,h3,h4,h5⟩
  rw [aN (Iz ec e (fun z=>nomatch z))];exact ec
end
section
variable {X:Cx} {pins:aO} {σ:St} {H:Hp} {s:Shared} {a:Addr} {aj:List (Key×V)} {k:Key} {u:Value} {A:Around} {E:aI}
end
def Nt(td ty tv:TE):TS:=fun D σ H=>tv σ H fun v H1=>td σ H1 fun x H2=>ty σ H2 fun y H3=>∃a H4,x=.ref a∧Ar H3 a y v H4∧D.nx σ H4
section
variable {X:Cx} {o i e value:Expr} {pos pos' wg:Pos} {td ty tv:TE}
theorem As(hu:X.A.units+1<cLine)(ho:PE X o td)(hi:PE X i ty)(hv:PE X value tv)(hs:swapsWith value (some (.Subscript o i pos')) pos.line X.env=pure false) :
  PS X (.Assign [.Subscript o i pos'] value pos) (Nt td ty tv):=by
 intro pins s σ H D I h;refine wpAny_Assign_Subscript (aE (hv pins s σ H _ I h) fun r s1 ⟨v,H1,I1,rv,q1⟩=>aE (ho pins s1 σ H1 _ I1 q1) fun u s2 ⟨x,H2,I2,rx,q2⟩=>aE (hi pins s2 σ H2 _ I2 q2) fun iv s3 ⟨y,H3,I3,ry,a,H4,ex,g,q3⟩=>?_) hs;subst ex;obtain rfl:u=Value.ref a:=rx;exact Nr hu I3 g ry rv fun s4 I4=>⟨σ,H4,I4,q3⟩
end
theorem Nu(h:Heap)(hb:sysModules<h.objs.size):cz P w H (h.push {cls:=.type "dict",data:=.dict #[]}) h.objs.size (.dK []):=
 ⟨cu _,kj.mpr (Ne.symm (cP hb)),[],.nil,Heap.DictOf.new h⟩
def Nv:TE:=fun _ H Q=>∀p,H p=none→Q (.ref p) (upd H p (.dK []))
section
variable {X:Cx} {pos:Pos}
theorem Nw:PE X (.Dict [] [] pos) Nv:=fun pins s σ H Q I h=>wpAny_Dict_empty ⟨.ref s.heap.objs.size,_,I.laid (a:=s.heap.objs.size) (o:=.dK []) (t':=s.toks) (fun _ _ q=>bT _ q) (aD _) (Nu s.heap I.big),rfl,h _ (I.aw.fresh (aD _))⟩
end
section
variable {X:Cx} {pins:aO} {σ:St} {H:Hp} {s:Shared} {a:Addr} {y d:V} {u r:Value} {o:Option V} {A:Around} {E:aI}
end
section
variable {X:Cx} {o e f:Expr} {apos gz:Pos} {td ty tx:TE}
end
section
variable {X:Cx} {pins:aO} {σ:St} {H:Hp} {s:Shared} {a:Addr} {aj:List (Key×V)} {A:Around} {E:aI}
end
section
variable {X:Cx} {pins:aO} {σ:St} {H:Hp} {s:Shared} {a:Addr} {y:V} {u:Value} {A:Around} {E:aI}
end
end L2
namespace Att
open PySem PySem.W PySem.Calls PyProof.Rows
section
variable {prog:Program} {w:World} {A:Around} {E:aI} {s:Shared} {K:Frag}
end
end Att
namespace L2
open PySem PySem.Spec PyProof.Rows
section
variable {P:Program} {w:World} {K:ay} {mg:cJ} {base:Heap}
end
section
variable {X:Cx}
end
section
variable {κ:Type} [DecidableEq κ]
end
theorem ET:∀{us:List Value} {ns:List Int},IntsAre us ns→Vals (ns.map V.int) us
 | _,_,.nil=>.nil
 | _,_,.cons a u r=>.cons ⟨u,rfl⟩ (ET r)
def Nx:List V→Hp→VK→Prop:=fun xs H Q=>∃(a:Addr) (zs:List Int),xs=[.ref a]∧H a=some (.lst (zs.map V.int))∧zs.length<64∧∀(ws:List Int) (D:Addr),ws.Perm zs→ws.Pairwise (·≤·)→H D=none→Q (.ref D) (upd H D (.lst (ws.map V.int)))
theorem EU{X:Cx}:gv X (.builtin "sorted") Nx:=by
 intro pins s σ H xs us Q I r h;obtain ⟨a,zs,rfl,ha,Xz,k⟩:=h;obtain ⟨u,rfl,ru⟩:=vals1 r;cases ru;obtain ⟨ag,rv,pl,hz⟩:=I.list (.of ha);have hl:=rv.length;rw [a8] at hl;refine sorted_ints pl.isList (intsAre_of rv) (by lia) fun out EV a1 a2 a3=>?_
 obtain ⟨e,he⟩:=sortedAll_at s.heap ag out;refine ⟨.ref (s.heap.objs.size+1),_,I.laid (t':=s.toks) (o:=.lst (EV.map .int)) (fun _ _=>sortedAll_old) (jC _) ⟨?_,out.toList,e,ET a1,?_⟩,rfl,k EV _ a2 a3 (I.aw.fresh (jC _))⟩
 ·rw [a8,a2.length_eq]
  rw [sizeLine_eq];lia
 ·simpa using he
end L2
namespace My
open PySem L2
def dk(ks:List Nat):List (Key×V):=ks.map fun k:Nat=>((Sum.inl (k:Int):Key),V.bl true)
def eK(ks:List Nat)(k:Nat):List Nat:=if k∈ks then ks else ks++[k]
theorem Ny{a b:Nat}:((Sum.inl (a:Int):Key)=Sum.inl (b:Int))↔a=b:=by
 constructor
 ·intro h
  have:=Sum.inl.inj h;lia
 ·rintro rfl;rfl
theorem Nz(ks:List Nat):(dk ks).length=ks.length:=a8 _
theorem NA(ks:List Nat)(k:Nat):((dk ks).any fun kv=>decide (kv.1=(Sum.inl (k:Int):Key)))=decide (k∈ks):=by
 rw [mE,List.any_eq_true,um];constructor
 ·rintro ⟨kv,h1,h2⟩
  obtain ⟨j,hj,rfl⟩:=jH.mp h1;have:=Ny.mp (eF h2);subst this;exact hj
 ·intro h
  exact ⟨_,jH.mpr ⟨k,h,rfl⟩,cX rfl⟩
theorem NB(ks:List Nat)(k:Nat):putK (dk ks) (Sum.inl (k:Int):Key) (V.bl true)=dk (eK ks k):=by
 unfold putK eK;rw [NA];by_cases h:k∈ks
 ·rw [ao (cX h),ao h]
  unfold dk;rw [gI];refine iM fun j _=>?_;show (if _ then _ else _)=_
  split <;> rfl
 ·rw [ah (by rw [um];exact h),ah h]
  unfold dk;rw [uj];rfl
variable {ks:List Nat} {k j:Nat}
theorem wZ:j∈eK ks k↔j∈ks∨j=k:=by
 unfold eK;by_cases h:k∈ks
 ·rw [ao h]
  constructor;·exact .inl
  ·rintro (e | rfl)
   ·exact e
   ·exact h
 ·rw [ah h,km,ja]
theorem NC(h:ks.Nodup):(eK ks k).Nodup:=by
 unfold eK;by_cases m:k∈ks;·rw [ao m];exact h
 ·rw [ah m]
  refine List.nodup_append.mpr ⟨h,(by simp),fun a ha b hb=>?_⟩
  rw [ja] at hb;subst hb;rintro rfl;exact m ha
def j4(n:Nat)(ks:List Nat):Prop:=ks.Nodup∧∀k∈ks,k<n
theorem j4.nil(n:Nat):j4 n []:=⟨List.nodup_nil,fun _ h=>by cases h⟩
variable {n:Nat}
theorem j4.add(h:j4 n ks)(hk:k<n):j4 n (eK ks k):=⟨NC h.1,fun j hj=>by
 rcases wZ.mp hj with e | rfl;·exact h.2 j e
 ·exact hk⟩
theorem Au:∀{n:Nat} {ks:List Nat},ks.Nodup→(∀k∈ks,k<n)→ks.length≤n
 | 0,ks,_,h=>by
  cases ks with
  | nil=>exact aD _
  | cons a r=>exact absurd (h a (gg ..)) (mF _)
 | n+1,ks,nd,h=>by
  have e:=Au (n:=n) (ks:=ks.erase n) (nd.erase n) (fun k hk=>by have m:=(List.Nodup.mem_erase_iff nd).mp hk;have:=h k m.2;have:=m.1;lia)
  by_cases hm:n∈ks
  ·have:=List.length_erase_of_mem hm
   lia
  ·rw [List.erase_of_not_mem hm] at e
   lia
theorem j4.len(h:j4 n ks):ks.length≤n:=Au h.1 h.2
structure dE (H:Hp) (D:Addr) (n:Nat) (ds:Nat→Addr) (un:Nat→Prop) (f:Nat→List Nat):Prop where
 lst:H D=some (.lst ((List.range n).map fun i=>V.ref (ds i)))
 inj:∀i j,i<n→j<n→ds i=ds j→i=j
 ne:∀i,i<n→ds i≠D
 at':∀i,i<n→un i→H (ds i)=some (.dK (dk (f i)))
 pl:∀i,i<n→j4 n (f i)
def e8(f:Nat→List Nat)(i:Nat)(ks:List Nat):Nat→List Nat:=fun j=>if j=i then ks else f j
variable {H:Hp} {D:Addr} {ds:Nat→Addr} {f:Nat→List Nat} {i:Nat}
theorem dE.put{un:Nat→Prop}(h:dE H D n ds un f)(hi:i<n)(hj:j<n)(ui:un i)(hn:n≤1000) :
  Ar H (ds i) (.int (j:Int)) (.bl true) (upd H (ds i) (.dK (dk (eK (f i) j))))∧dE (upd H (ds i) (.dK (dk (eK (f i) j)))) D n ds un (e8 f i (eK (f i) j)):=by
 refine ⟨.inl ⟨dk (f i),Sum.inl (j:Int),h.at' i hi ui,rfl,?_,by rw [NB]⟩,?_,h.inj,h.ne,fun k hk uk=>?_,fun k hk=>?_⟩
 ·rw [Nz]
  have:=(h.pl i hi).len;exact jE this (jE hn (by rw [sizeLine_eq];decide))
 ·rw [aN (Ne.symm (h.ne i hi))]
  exact h.lst
 ·unfold e8
  by_cases e:k=i
  ·subst e
   rw [ao rfl,ax]
  ·rw [ah e,aN (fun z=>e (h.inj k i hk hi z))]
   exact h.at' k hk uk
 ·unfold e8
  by_cases e:k=i;·rw [ao e];exact (h.pl i hi).add hj
  ·rw [ah e];exact h.pl k hk
theorem dE.ix{un:Nat→Prop}(h:dE H D n ds un f)(hi:i<n):iT ((List.range n).map fun i=>V.ref (ds i)) (i:Int)=some (V.ref (ds i)):=
 kN (by rw [cE,jb hi];rfl)
def Av(n:Nat)(L:cy):Prop:=∀p∈L,0≤p.1∧p.1<(n:Int)∧0≤p.2∧p.2<(n:Int)
def k4(n:Nat)(L:cy)(f:Nat→List Nat):Prop:=∀i j:Nat,i<n→(j∈f i↔((i:Int),(j:Int))∈L∨((j:Int),(i:Int))∈L)
theorem k4.nil(n:Nat):k4 n [] (fun _=>[]):=fun i j _=>by simp
theorem k4.more{L:cy}(h:k4 n L f)(hi:i<n)(hj:j<n):k4 n (L++[((i:Int),(j:Int))]) (e8 (e8 f i (eK (f i) j)) j (eK (e8 f i (eK (f i) j) j) i)):=fun a b ha=>by
 have e1:∀x y:Nat,y∈e8 f i (eK (f i) j) x↔y∈f x∨(x=i∧y=j):=fun x y=>by
  unfold e8;by_cases e:x=i
  ·subst e
   rw [ao rfl,wZ];simp
  ·rw [ah e]
   simp [e]
 have e2:b∈e8 (e8 f i (eK (f i) j)) j (eK (e8 f i (eK (f i) j) j) i) a↔b∈e8 f i (eK (f i) j) a∨(a=j∧b=i):=by
  unfold e8;by_cases e:a=j
  ·subst e
   rw [ao rfl,wZ];simp
  ·rw [ah e]
   simp [e]
 rw [e2,e1,h a b ha];simp only [km,ja,Prod.mk.injEq];constructor
 ·rintro ((e | e) | ⟨rfl,rfl⟩)
  ·rcases e with e | e
   ·exact .inl (.inl e)
   ·exact .inr (.inl e)
  ·exact .inl (.inr ⟨by lia,by lia⟩)
  ·exact .inr (.inr ⟨rfl,rfl⟩)
 ·rintro ((e | ⟨e1,e2⟩) | (e | ⟨e1,e2⟩))
  ·exact .inl (.inl (.inl e))
  ·exact .inl (.inr ⟨by lia,by lia⟩)
  ·exact .inl (.inl (.inr e))
  ·exact .inr ⟨by lia,by lia⟩
def ND:Sp:=fun vs H Q _=>∃(t:Addr) (n:Nat) (L:cy),vs=[.ref t]∧An H t n L∧Av n L∧n≤1000 ∧
 ∀(H':Hp) (D:Addr) (ds:Nat→Addr) (f:Nat→List Nat),ae H H'→H D=none→(∀i,i<n→H (ds i)=none)→dE H' D n ds (fun _=>True) f→k4 n L f→Q (.ref D) H'
end My
namespace L2
open PySem PySem.Spec PyProof.Rows
def NF(K:ay):R2:=fun x y H Q=>∃(a b:Addr) (xs ys:List Int),x=.ref a∧y=.ref b∧bC K H a (xs.map V.int)∧bC K H b (ys.map V.int)∧Q (.bl (decide (xs=ys))) H
theorem NG{X:Cx}(hu:X.A.units+64<cLine):cg X (compareOp .Eq) (NF X.K):=by
 intro pins s σ H x y v u Q I rx ry h;obtain ⟨a,b,xs,ys,rfl,rfl,h1,h2,q⟩:=h;cases rx;cases ry;obtain ⟨us,r1,t1,_⟩:=I.list h1;obtain ⟨vs,r2,t2,_⟩:=I.list h2;have l1:=r1.length;have l2:=r2.length;rw [a8] at l1 l2;by_cases hl:xs.length=ys.length
 ·refine SeqAt.RcAt.lists (e:=fun j=>kP (.int (xs.getD j 0)) (.int (ys.getD j 0))) t1.isList t2.isList (by simp;lia) (by lia) (fun j z1 z2=>?_) _ _ _ _ ?_
  ·have XA:j<us.length:=by simpa using z1
   have XB:j<vs.length:=by simpa using z2
   have ex:(xs.map V.int)[j]?=some (.int (xs.getD j 0)):=by rw [cE,i_];simp [show j<xs.length by lia]
   have ey:(ys.map V.int)[j]?=some (.int (ys.getD j 0)):=by rw [cE,i_];simp [show j<ys.length by lia]
   obtain ⟨x',ze,rx⟩:=r1.get ex;obtain ⟨y',NH,ry⟩:=r2.get ey;have e1:us.toArray[j]=x':=by simpa using (cq.mp ze).2
   have e2:vs.toArray[j]=y':=by simpa using (cq.mp NH).2
   rw [e1,e2];exact DH rx ry rfl rfl
  ·rw [show us.toArray.size=xs.length by simp;lia,M5 hl]
   exact ⟨.bl (decide (xs=ys)),H,I,rfl,q⟩
 ·rw [dA (fun e=>hl (by rw [e]))] at q
  refine SeqAt.RcAt.lists_lengths t1.isList t2.isList ?_ (by lia) _ _ _ _ ⟨.bl false,H,I,rfl,q⟩
  simp;lia
end L2
namespace My
open PySem L2
def iN(k:Nat):Int:=(k:Int)
def k6(zs:List Int)(n:Nat):Prop:=zs.Perm ((List.range n).map iN)
instance (zs:List Int) (n:Nat):Decidable (k6 zs n):=by unfold k6;exact inferInstance
theorem NI(n:Nat):((List.range n).map iN).Pairwise (·≤·):=by rw [List.pairwise_map];exact List.Pairwise.imp (fun h=>by unfold iN;lia) List.pairwise_lt_range
variable {ws zs:List Int} {n:Nat}
theorem NJ(p:ws.Perm zs)(o:ws.Pairwise (·≤·)):decide (ws=(List.range n).map iN)=decide (k6 zs n):=by
 by_cases h:k6 zs n
 ·rw [cX h]
  refine cX ?_;exact (p.trans h).eq_of_pairwise (fun a b _ _ h1 h2=>by lia) o (NI n)
 ·rw [dA h]
  refine dA fun e=>h ?_;subst e;exact p.symm
def NK:Sp:=fun vs H Q _=>∃(a:Addr) (zs:List Int) (n:Nat),vs=[.ref a,.int (n:Int)]∧H a=some (.lst (zs.map V.int))∧zs.length<64∧n≤1000∧(∀H',ae H H'→Q (.bl (decide (k6 zs n))) H')
def NL(N:Addr):Sp:=fun vs H Q E=>∃(a:Addr) (zs:List Int) (n:Nat),vs=[.ref a,.int (n:Int)]∧H a=some (.lst (zs.map V.int))∧zs.length<64∧n≤1000 ∧
 (¬k6 zs n→∀H',ae H H'→E (.ref N) none H')∧(k6 zs n→∀H',ae H H'→Q .aH H')
def NM(H:Hp)(a:Addr)(n:Nat)(o:List Nat):Prop:=H a=some (.lst (o.map fun k:Nat=>V.int (k:Int)))∧o.Perm (List.range n)
def NN:Sp:=fun vs H Q _=>∃(a:Addr) (n:Nat) (o:List Nat),vs=[.ref a]∧NM H a n o∧n≤1000 ∧
 ∀(r:Addr) (H':Hp),ae H H'→H r=none→H' r=some (.lst ((List.range n).map fun p=>V.int (o.idxOf p:Int)))→Q (.ref r) H'
variable {H H1:Hp} {D:Addr}
theorem NO(s:ae H H1)(e:H1 D=none):H D=none:=by
 cases z:H D with
 | none=>rfl
 | some o=>rw [s _ _ z] at e;cases e
theorem w5(s:ae H H1){o:HO}(e:H1 D=none):ae H (upd H1 D o):=gT s (NO s e)
variable {k:Nat}
theorem j6(h:k<n):kM n (k:Int)=some k:=by unfold kM;rw [ao (by lia),ao (by lia),fj]
def i3(o:List Nat)(k p:Nat):Int:=if o.idxOf p<k then (o.idxOf p:Int) else 0
variable {o:List Nat}
theorem iB(h:o.Perm (List.range n)):o.Nodup:=h.nodup_iff.mpr List.nodup_range
theorem eL(h:o.Perm (List.range n)):o.length=n:=by rw [h.length_eq,dH]
variable {p:Nat}
theorem bW(h:o.Perm (List.range n)):p∈o↔p<n:=by rw [h.mem_iff,fD]
theorem md(nd:o.Nodup)(hk:k<o.length):o.idxOf o[k]=k:=nd.idxOf_getElem k hk
theorem cS(h:p∈o):∃hk:o.idxOf p<o.length,o[o.idxOf p]=p:=⟨List.idxOf_lt_length_of_mem h,List.getElem_idxOf _⟩
theorem NP(h:o.Perm (List.range n))(hk:k<o.length):((List.range n).map fun p=>V.int (i3 o k p)).set o[k] (.int (k:Int))=(List.range n).map fun p=>V.int (i3 o (k+1) p):=by
 have nd:=iB h;refine fF (by simp) fun q h1 h2=>?_
 have hq:q<n:=by simpa using h2
 rw [List.getElem_set];by_cases e:o[k]=q
 ·rw [ao e]
  simp only [fR,gJ];unfold i3;rw [←e,md nd hk,ao (vI k)]
 ·rw [ah e]
  simp only [fR,gJ];unfold i3;have ne:o.idxOf q≠k:=fun z=>by obtain ⟨hz,ez⟩:=cS ((bW h).mpr hq);subst z;exact e ez
  by_cases z:o.idxOf q<k;·rw [ao z,ao (by lia)]
  ·rw [ah z,ah (by lia)]
theorem NQ(n:Nat)(o:List Nat):(List.replicate n [V.int 0]).flatten=(List.range n).map fun p=>V.int (i3 o 0 p):=by
 have e:∀n:Nat,(List.replicate n [V.int 0]).flatten=List.replicate n (V.int 0):=fun n=>by
  induction n with
  | zero=>rfl
  | succ n ih=>rw [pZ,t9,ih];rfl
 rw [e];refine fF (by simp) fun q h1 h2=>?_
 simp [i3]
theorem NR(h:o.Perm (List.range n)):(List.range n).map (fun p=>V.int (i3 o o.length p))=(List.range n).map fun p=>V.int (o.idxOf p:Int):=by refine iM fun p hp=>?_;unfold i3;rw [ao (List.idxOf_lt_length_of_mem ((bW h).mpr (fD.mp hp)))]
def me(n:Nat)(ds:Nat→Addr)(un:Nat→Prop)(H H':Hp):Prop:=∀b o,H b=some o→(∀i,i<n→un i→b≠ds i)→H' b=some o
variable {ds:Nat→Addr}
theorem me.refl{un:Nat→Prop}:me n ds un H H:=fun _ _ h _=>h
variable {i:Nat}
theorem me.put{un:Nat→Prop}(h:me n ds un H H1)(hi:i<n)(ui:un i){o:HO}:me n ds un H (upd H1 (ds i) o):=fun b u e k=>by rw [aN (k i hi ui)];exact h b u e k
theorem take_snoc{α:Type}{xs:List α}{x:α}(h:xs[i]?=some x):xs.take (i+1)=xs.take i++[x]:=by rw [List.take_succ,h];rfl
def gf(n:Nat)(f:Nat→List Nat)(ps:List Nat)(i j:Nat)(g:Nat→List Nat):Prop:=∀a b:Nat,a<n→(b∈g a↔b∈f a∨(a≠b∧(a∈ps.take i∧b∈ps∨ps[i]?=some a∧b∈ps.take j)))
theorem gf.start(n:Nat)(f:Nat→List Nat)(ps:List Nat):gf n f ps 0 0 f:=fun a b _=>by simp
variable {f g:Nat→List Nat} {ps:List Nat}
theorem gf.row(h:gf n f ps i ps.length g):gf n f ps (i+1) 0 g:=fun a b ha=>by
 rw [h a b ha,jF];cases e:ps[i]? with
 | none=>
  have:ps.length≤i:=yZ.mp e;rw [uo this,uo (by lia)]
  simp
 | some x=>
  rw [take_snoc e];simp only [km,ja,Option.some.injEq,List.take_zero,mL,and_false,or_false];constructor
  ·rintro (z | ⟨z,z1 | z1⟩)
   ·exact .inl z
   ·exact .inr ⟨z,.inl z1.1,z1.2⟩
   ·exact .inr ⟨z,.inr z1.1.symm,z1.2⟩
  ·rintro (z | ⟨z,z1 | z1,z2⟩)
   ·exact .inl z
   ·exact .inr ⟨z,.inl ⟨z1,z2⟩⟩
   ·exact .inr ⟨z,.inr ⟨z1.symm,z2⟩⟩
variable {j:Nat}
theorem gf.same{x:Nat}(h:gf n f ps i j g)(hi:ps[i]?=some x)(hj:ps[j]?=some x):gf n f ps i (j+1) g:=fun a b ha=>by
 rw [h a b ha,take_snoc hj];simp only [km,ja,hi,Option.some.injEq];constructor
 ·rintro (z | ⟨z,z1 | z1⟩)
  ·exact .inl z
  ·exact .inr ⟨z,.inl z1⟩
  ·exact .inr ⟨z,.inr ⟨z1.1,.inl z1.2⟩⟩
 ·rintro (z | ⟨z,z1 | ⟨z1,z2 | z2⟩⟩)
  ·exact .inl z
  ·exact .inr ⟨z,.inl z1⟩
  ·exact .inr ⟨z,.inr ⟨z1,z2⟩⟩
  ·exact absurd (z1.symm.trans z2.symm) z
theorem gf.put{x y:Nat}(h:gf n f ps i j g)(hi:ps[i]?=some x)(hj:ps[j]?=some y)(ne:x≠y):gf n f ps i (j+1) (e8 g x (eK (g x) y)):=fun a b ha=>by
 have e1:b∈e8 g x (eK (g x) y) a↔b∈g a∨(a=x∧b=y):=by
  unfold e8;by_cases e:a=x
  ·subst e
   rw [ao rfl,wZ];simp
  ·rw [ah e]
   simp [e]
 rw [e1,h a b ha,take_snoc hj];simp only [km,ja,hi,Option.some.injEq];constructor
 ·rintro ((z | ⟨z,z1 | z1⟩) | ⟨rfl,rfl⟩)
  ·exact .inl z
  ·exact .inr ⟨z,.inl z1⟩
  ·exact .inr ⟨z,.inr ⟨z1.1,.inl z1.2⟩⟩
  ·exact .inr ⟨ne,.inr ⟨rfl,.inr rfl⟩⟩
 ·rintro (z | ⟨z,z1 | ⟨z1,z2 | z2⟩⟩)
  ·exact .inl (.inl z)
  ·exact .inl (.inr ⟨z,.inl z1⟩)
  ·exact .inl (.inr ⟨z,.inr ⟨z1,z2⟩⟩)
  ·exact .inr ⟨z1.symm,z2⟩
theorem gf.done(h:gf n f ps ps.length 0 g):∀a b:Nat,a<n→(b∈g a↔b∈f a∨(a≠b∧a∈ps∧b∈ps)):=fun a b ha=>by rw [h a b ha,jF];simp
def NS:Sp:=fun vs H Q _=>∃(D pl:Addr) (n:Nat) (ds:Nat→Addr) (un:Nat→Prop) (f:Nat→List Nat) (ps:List Nat),vs=[.ref D,.ref pl]∧dE H D n ds un f∧H pl=some (.lst (ps.map fun k:Nat=>V.int (k:Int)))∧(∀p∈ps,p<n∧un p)∧n≤1000 ∧
 ∀(H':Hp) (g:Nat→List Nat),me n ds un H H'→dE H' D n ds un g→(∀a b:Nat,a<n→(b∈g a↔b∈f a∨(a≠b∧a∈ps∧b∈ps)))→Q .aH H'
theorem dE.mono{H':Hp}{un:Nat→Prop}(h:dE H D n ds un f)(s:ae H H'):dE H' D n ds un f:=⟨s _ _ h.lst,h.inj,h.ne,fun i hi ui=>s _ _ (h.at' i hi ui),h.pl⟩
theorem dE.less{un EW:Nat→Prop}(h:dE H D n ds un f)(k:∀i,i<n→EW i→un i):dE H D n ds EW f:=⟨h.lst,h.inj,h.ne,fun i hi ui=>h.at' i hi (k i hi ui),h.pl⟩
variable {x:Addr}
theorem dE.upd{un:Nat→Prop}(h:dE H D n ds un f){o:HO}(n1:x≠D)(n2:∀i,i<n→un i→ds i≠x):dE (upd H x o) D n ds un f:=⟨by rw [aN (Ne.symm n1)];exact h.lst,h.inj,h.ne,fun i hi ui=>by rw [aN (n2 i hi ui)];exact h.at' i hi ui,h.pl⟩
variable {a:Addr}
theorem NT{o:Obj}{aj:List (Key×V)}(h:H1 a=some (.cb o (.dK aj))):l9 (qJ a o aj) (aj.map fun kv=>kV kv.1) H1 where
 go:=fun i Hc s hi=>⟨s _ _ h,by simpa using hi⟩
 dX:=fun i Hc x H' s y=>⟨y.1,fun _=>by obtain ⟨kv,e,rfl⟩:=y.2;rw [cE,e];rfl⟩
 stop:=fun i Hc s hi=>⟨s _ _ h,by simpa using hi⟩
theorem NU(ks:List Nat):(dk ks).map (fun kv=>kV kv.1)=ks.map fun k:Nat=>V.int (k:Int):=by unfold dk;rw [gI];rfl
theorem NV(ks:List Nat):(List.range ks.length).map (fun i=>ks.getD i 0)=ks:=by
 refine fF (by simp) fun i h1 h2=>?_
 simp [i_,h2]
theorem NW(ks:List Nat)(pr:Nat→Bool):((List.range ks.length).filter fun i=>pr (ks.getD i 0)).map (fun i=>ks.getD i 0)=ks.filter pr:=by have e:=List.filter_map (f:=fun i=>ks.getD i 0) (l:=List.range ks.length) (p:=pr);rw [NV] at e;exact e.symm
variable {ρ:St→St} {tt:TT} {te:TE} {σ:St} {Q:VK} {ks:List Nat}
theorem NX{ob:Obj}(h:H a=some (.cb ob (.dK (dk ks))))(pr:Nat→Bool)(hl:ks.length<sizeLine)
  (test:∀k∈ks,∀(Hc:Hp) (R:Bool→Hp→Prop),ae H Hc→R (pr k) Hc→tt (some (.int (k:Int))::ρ σ) Hc R)
  (step:∀k∈ks,∀(Hc:Hp) (R:VK),R (.int (k:Int)) Hc→te (some (.int (k:Int))::ρ σ) Hc R)
  (fin:∀D Hc,H D=none→ae H Hc→Hc D=some (.lst ((ks.filter pr).map fun k:Nat=>V.int (k:Int)))→Q (.ref D) Hc):ir (fun _ H R=>R (qJ a ob (dk ks)) H) ρ tt te σ H Q:=by
 have at':∀{i:Nat} {x:V},(ks.map fun k:Nat=>V.int (k:Int))[i]?=some x→i<ks.length∧x=.int ((ks.getD i 0:Nat):Int)∧ks.getD i 0∈ks:=fun{i x} hx=>by
  have hi:i<ks.length:=by have:=(cq.mp hx).1;simpa using this
  rw [cE] at hx;simp [hi] at hx;rw [getD_at hi];exact ⟨hi,hx.symm,gk hi⟩
 refine EG (xs:=ks.map fun k:Nat=>V.int (k:Int)) (fun i=>pr (ks.getD i 0)) (fun R k=>k _ (by rw [←NU];exact NT h)) (by rw [a8];exact hl) (fun _ i y _=>y=.int ((ks.getD i 0:Nat):Int)) (fun _ _ _ _ _ _ h _ _=>h) ?_ ?_ ?_
 ·intro i x hx Hc R sc hR
  obtain ⟨_,rfl,m⟩:=at' hx;exact test _ m Hc R sc hR
 ·intro D i x hx Hc R sc _ kc
  obtain ⟨_,rfl,m⟩:=at' hx;exact step _ m Hc R (kc _ Hc (ae.refl _) rfl)
 ·intro D ys Hc nD sc ly hP eD
  refine fin D Hc nD sc ?_;rw [eD,←NW ks pr,gI];rw [a8] at ly hP
  congr 2
  refine fF (by simpa using ly) fun k h1 h2=>?_
  have h3:k<((List.range ks.length).filter fun i=>pr (ks.getD i 0)).length:=by simpa using h2
  rw [fR];exact hP k _ _ (d6 h1) (d6 h3)
theorem EX(p:ws.Perm (ks.map iN)):∃ms:List Nat,ws=ms.map iN∧ms.Perm ks:=by
 refine ⟨ws.map Int.toNat,?_,?_⟩
 ·rw [gI]
  conv=>lhs;rw [←qc ws]
  refine iM fun z hz=>?_
  obtain ⟨k,_,rfl⟩:=jH.mp (p.mem_iff.mp hz)
  show iN k=iN (Int.toNat (iN k))
  unfold iN
  rw [fj]
 ·have:=p.map Int.toNat
  rw [gI] at this
  have e:ks.map (Int.toNat ∘ iN)=ks:=by
   conv=>rhs;rw [←qc ks]
   exact iM fun k _=>fj k
  rw [e] at this
  exact this
structure e9 (n:Nat) (o:List Nat) (p:Nat) (ms:List Nat):Prop where
 up:ms.Pairwise (· < ·)
 lt:∀q∈ms,q<n
 la:∀q∈ms,o.idxOf p<o.idxOf q
theorem NY{ms:List Nat}(hk:j4 n ks)(h:ms.Perm (ks.filter fun q=>decide (o.idxOf p<o.idxOf q)))(s:(ms.map iN).Pairwise (·≤·)):e9 n o p ms:=by
 have m:∀q∈ms,q∈ks∧o.idxOf p<o.idxOf q:=fun q hq=>by have:=pX.mp (h.mem_iff.mp hq);exact ⟨this.1,by simpa using this.2⟩
 refine ⟨?_,fun q hq=>hk.2 q (m q hq).1,fun q hq=>(m q hq).2⟩;have nd:ms.Nodup:=h.nodup_iff.mpr (hk.1.filter _);rw [List.pairwise_map] at s;refine List.Pairwise.imp₂ (fun a b h1 h2=>?_) s nd;have h1:(a:Int)≤(b:Int):=h1;have h2:a≠b:=h2;lia
def qK(H:Hp)(D:Addr)(n:Nat)(rs:Nat→Addr)(g:Nat→List Nat):Prop:=H D=some (.lst ((List.range n).map fun p=>V.ref (rs p)))∧∀p,p<n→H (rs p)=some (.lst ((g p).map fun k:Nat=>V.int (k:Int)))
theorem NZ(h:k6 zs n):∃o:List Nat,zs=o.map iN∧o.Perm (List.range n):=EX h
def i4(rs:Nat→Addr)(p:Nat)(x:Addr):Nat→Addr:=fun q=>if q=p then x else rs q
theorem N1(n:Nat)(rs:Nat→Addr)(p:Nat)(x:Addr):((List.range n).map fun q=>V.ref (rs q)).set p (.ref x)=(List.range n).map fun q=>V.ref (i4 rs p x q):=by
 refine fF (by simp) fun q h1 h2=>?_
 rw [List.getElem_set,fR,gJ,fR,gJ];unfold i4;by_cases e:p=q
 ·subst e
  rw [ao rfl,ao rfl]
 ·rw [ah e,ah (Ne.symm e)]
variable {rs:Nat→Addr}
theorem EY:i4 rs p x p=x:=ao rfl
variable {q:Nat}
theorem N2(h:q≠p):i4 rs p x q=rs q:=ah h
theorem N3{x:List Nat}:e8 f p x p=x:=ao rfl
theorem N4{x:List Nat}(h:q≠p):e8 f p x q=f q:=ah h
theorem bH{g:Nat→V}(h:p<n):iT ((List.range n).map g) (p:Int)=some (g p):=kN (by rw [cE,jb h];rfl)
theorem N5(o ks:List Nat)(p:Nat):(ks.filter fun q=>decide ((o.idxOf p:Int)<(o.idxOf q:Int)))=ks.filter fun q=>decide (o.idxOf p<o.idxOf q):=by refine List.filter_congr fun q _=>?_;rw [mE,um,um];lia
theorem nS(h:o.Perm (List.range n))(hp:p<n)(hq:q<n)(ne:p≠q):o.idxOf p≠o.idxOf q:=fun z=>by
 obtain ⟨h1,e1⟩:=cS ((bW h).mpr hp);obtain ⟨h2,e2⟩:=cS ((bW h).mpr hq);refine ne ?_;rw [←e1,←e2]
 congr 1
theorem N6{wi:TI}(h:wi σ H fun J H1=>ir (fun _ H R=>R J H) ρ tt te σ H1 Q):ir wi ρ tt te σ H Q:=h
end My
namespace L2
open PySem PySem.Spec PyProof.Rows
section
variable {X:Cx} {pins:aO} {σ:St} {H:Hp} {s:Shared}
end
end L2
namespace My
open PySem L2
theorem N7{n:Nat}{o:List Nat}(h:o.Perm (List.range n)){p:Nat}{ms:List Nat}(k:e9 n o p ms):ms.length≤n-1-o.idxOf p:=by
 have nd:(ms.map fun q=>o.idxOf q-(o.idxOf p+1)).Nodup:=by rw [List.nodup_iff_pairwise_ne,List.pairwise_map];refine List.Pairwise.imp_of_mem (fun{a b} ha hb lt=>?_) k.up;have h1:=k.la a ha;have h2:=k.la b hb;have ne:=nS h (k.lt a ha) (k.lt b hb) (cP lt);lia
 have:=Au (n:=n-1-o.idxOf p) nd (fun x hx=>by obtain ⟨q,hq,rfl⟩:=jH.mp hx;have h1:=k.la q hq;have h2:=(cS ((bW h).mpr (k.lt q hq))).1;rw [eL h] at h2;lia)
 rwa [a8] at this
end My
namespace L2
open PySem PySem.Spec PyProof.Rows
end L2
namespace My
open PySem L2
def N8:Sp:=fun vs H Q _=>∃m:Nat,vs=[.int (m:Int)]∧m≤1000∧Q (.int ((m:Int)*m+3*m+1)) H
end My
namespace L2
open PySem PySem.Spec PyProof.Rows
end L2
namespace My
open PySem L2
end My
namespace L2
open PySem PySem.Spec PyProof.Rows
end L2
namespace My
open PySem L2
end My
namespace L2
open PySem PySem.Spec PyProof.Rows
end L2
namespace My
open PySem L2
def Aw:V→Nat
 | .int i=>i.toNat
 | _=>0
theorem N9{ys:List V}{n:Nat}(p:ys.Perm (eZ n)):∃o:List Nat,ys=o.map (fun k:Nat=>V.int (k:Int))∧o.Perm (List.range n):=by
 refine ⟨ys.map Aw,?_,?_⟩
 ·rw [gI]
  conv=>lhs;rw [←qc ys]
  refine iM fun y hy=>?_
  obtain ⟨k,_,rfl⟩:=jH.mp (p.mem_iff.mp hy)
  show V.int (k:Int)=V.int (((k:Int).toNat:Nat):Int)
  rw [fj]
 ·have:=p.map Aw
  unfold eZ at this
  rw [gI] at this
  have e:(List.range n).map (Aw ∘ fun i:Nat=>V.int (i:Int))=List.range n:=by
   conv=>rhs;rw [←qc (List.range n)]
   exact iM fun k _=>fj k
  rw [e] at this
  exact this
variable {n:Nat} {cM:Nat→Nat→Prop} {dF:Nat→Prop} {s:Nat}
end My
namespace L2
open PySem PySem.Spec PyProof.Rows
end L2
namespace My
open PySem L2
end My
namespace L2
open PySem PySem.Spec PyProof.Rows
end L2
namespace My
open PySem L2
end My
namespace L2
open PySem PySem.Spec PyProof.Rows My
end L2
namespace My
open PySem L2
end My
namespace L2
open PySem PySem.Spec PyProof.Rows My
end L2
namespace My
open PySem L2
inductive Wk (cM:Nat→Nat→Prop) (dF:Nat→Prop) (s:Nat):Nat→Prop where
 | one {b:Nat}:cM s b→Wk cM dF s b
 | more {a b:Nat}:Wk cM dF s a→dF a→cM a b→Wk cM dF s b
section
variable {cM:Nat→Nat→Prop} {dF qL:Nat→Prop} {s t:Nat}
theorem Wk.mono(h:Wk cM dF s t)(k:∀x,dF x→qL x):Wk cM qL s t:=by
 induction h with
 | one ab=>exact .one ab
 | more _ o ab ih=>exact .more ih (k _ o) ab
theorem Wk.cons{a:Nat}(ab:cM s a)(ta:dF a)(h:Wk cM dF a t):Wk cM dF s t:=by
 induction h with
 | one e=>exact .more (.one ab) ta e
 | more _ o e ih=>exact .more ih o e
theorem Wk.symm(sy:∀a b,cM a b→cM b a)(h:Wk cM dF s t):Wk cM dF t s:=by
 induction h with
 | one ab=>exact .one (sy _ _ ab)
 | more _ o ab ih=>exact ih.cons (sy _ _ ab) o
variable {p:Nat}
theorem Wk.trans(h:Wk cM dF s p)(tp:dF p)(h':Wk cM dF p t):Wk cM dF s t:=by
 induction h' with
 | one ab=>exact .more h tp ab
 | more _ o ab ih=>exact .more ih o ab
theorem Wk.step(k:∀x,qL x↔dF x∨x=p):Wk cM qL s t↔Wk cM dF s t∨(Wk cM dF s p∧Wk cM dF p t):=by
 constructor
 ·intro h
  induction h with
  | one ab=>exact .inl (.one ab)
  | more _ o ab ih=>
   rcases (k _).mp o with o | rfl
   ·rcases ih with ih | ⟨i1,i2⟩
    ·exact .inl (.more ih o ab)
    ·exact .inr ⟨i1,.more i2 o ab⟩
   ·rcases ih with ih | ⟨i1,_⟩
    ·exact .inr ⟨ih,.one ab⟩
    ·exact .inr ⟨i1,.one ab⟩
 ·have m:∀x,dF x→qL x:=fun x h=>(k x).mpr (.inl h)
  rintro (h | ⟨h,h'⟩);·exact h.mono m
  ·exact (h.mono m).trans ((k p).mpr (.inr rfl)) (h'.mono m)
end
def aL(n:Nat)(L:cy)(a b:Nat):Prop:=a<n∧b<n∧(((a:Int),(b:Int))∈L∨((b:Int),(a:Int))∈L)
variable {n:Nat} {L:cy}
theorem w9(a b:Nat)(h:aL n L a b):aL n L b a:=⟨h.2.1,h.1,h.2.2.symm⟩
def Ax(L:cy):Prop:=∀p∈L,p.1≠p.2
def nU(n:Nat)(o:List Nat)(k x:Nat):Prop:=x<n∧o.idxOf x<k
def nV(n:Nat)(L:cy)(o:List Nat)(k:Nat)(f:Nat→List Nat):Prop:=∀a b:Nat,a<n→b<n→k≤o.idxOf a→k≤o.idxOf b→(b∈f a↔a≠b∧Wk (aL n L) (nU n o k) a b)
variable {o:List Nat} {f:Nat→List Nat}
theorem nV.start(nb:k4 n L f)(ns:Ax L):nV n L o 0 f:=fun a b ha hb _ _=>by
 rw [nb a b ha];constructor
 ·intro h
  refine ⟨fun e=>?_,.one ⟨ha,hb,h⟩⟩;subst e;rcases h with h | h <;> exact ns _ h rfl
 ·rintro ⟨_,h⟩
  cases h with
  | one ab=>exact ab.2.2
  | more _ o _=>exact absurd o.2 (mF _)
variable {k:Nat} {ms:List Nat}
theorem nV.step(ho:o.Perm (List.range n)){p:Nat}{g:Nat→List Nat}(h:nV n L o k f)(hp:p<n)(ip:o.idxOf p=k)(hm:∀q,q∈ms↔q∈f p∧k<o.idxOf q)(ml:∀q∈ms,q<n)
  (con:∀a b:Nat,a<n→(b∈g a↔b∈f a∨(a≠b∧a∈ms∧b∈ms))):nV n L o (k+1) g:=fun a b ha hb ka kb=>by
 have th:∀x,nU n o (k+1) x↔nU n o k x∨x=p:=fun x=>by
  unfold nU;constructor
  ·rintro ⟨h1,h2⟩
   by_cases e:o.idxOf x=k
   ·right
    by_cases z:x=p;·exact z
    ·exact absurd (e.trans ip.symm) (nS ho h1 hp z)
   ·exact .inl ⟨h1,by lia⟩
  ·rintro (⟨h1,h2⟩ | rfl)
   ·exact ⟨h1,by lia⟩
   ·exact ⟨hp,by lia⟩
 have ap:a≠p:=fun e=>by subst e;lia
 have bp:b≠p:=fun e=>by subst e;lia
 have ea:=h p a hp ha (by lia) (by lia)
 have eb:=h p b hp hb (by lia) (by lia)
 rw [con a b ha,h a b ha hb (by lia) (by lia),hm a,hm b,ea,eb,Wk.step th]
 constructor
 ·rintro (⟨h1,h2⟩ | ⟨h1,⟨⟨_,h2⟩,_⟩,⟨_,h3⟩,_⟩)
  ·exact ⟨h1,.inl h2⟩
  ·exact ⟨h1,.inr ⟨h2.symm w9,h3⟩⟩
 ·rintro ⟨h1,h2 | ⟨h2,h3⟩⟩
  ·exact .inl ⟨h1,h2⟩
  ·exact .inr ⟨h1,⟨⟨Ne.symm ap,h2.symm w9⟩,by lia⟩,⟨Ne.symm bp,h3⟩,by lia⟩
def eM(n:Nat)(L:cy)(o:List Nat)(p:Nat)(ms:List Nat):Prop:=∀q,q∈ms↔q<n∧o.idxOf p<o.idxOf q∧Wk (aL n L) (nU n o (o.idxOf p)) p q
def N_(N:Addr):Sp:=fun vs H Q E=>∃(t a:Addr) (n:Nat) (L:cy) (zs:List Int),vs=[.ref t,.ref a]∧An H t n L∧Av n L∧Ax L∧n≤60∧H a=some (.lst (zs.map V.int))∧zs.length<64 ∧
 (¬k6 zs n→∀H',ae H H'→E (.ref N) none H') ∧
 ∀o:List Nat,zs=o.map iN→o.Perm (List.range n)→∀(H':Hp) (D:Addr) (rs:Nat→Addr) (g:Nat→List Nat),ae H H'→H D=none→(∀p,p<n→H (rs p)=none)→qK H' D n rs g→(∀p,p<n→e9 n o p (g p)∧eM n L o p (g p))→Q (.ref D) H'
def gE(M:aF):List Nat→Nat→Nat→Int
 | []=>fun _ _=>0
 | p::C=>aG (M p) (gE M C)
def aA(M:aF)(C:List Nat):Int:=aB C (gE M C)
def az(M:aF)(C:List Nat)(f:Nat→Int):Nat→Int:=jY C (gE M C) f
def bZ(q:Int)(M:aF):List Nat→Prop
 | []=>True
 | p::C=>bZ q M C∧¬q∣az M C (M p) p
section
variable {q:Int} {M:aF} {C:List Nat} {p k:Nat} {f:Nat→Int}
theorem uZ:az M [] f k=f k:=M1 _ f k
theorem ju(hq:a7 q):∀{C:List Nat},bZ q M C→¬q∣aA M C
 | [],_=>EB hq
 | _::_,h=>h.2
theorem u0{x:Int}(h:¬q∣x):x≠0:=fun e=>h (by rw [e];exact qd q)
theorem EZ(hq:a7 q):∀{C:List Nat},bZ q M C→qI C (gE M C)
 | [],_=>MY _
 | _::_,h=>MZ (EZ hq h.1) (u0 (ju hq h.1)) (u0 h.2)
theorem qM(hq:a7 q)(h:bZ q M C)(p:Nat)(f:Nat→Int)(k:Nat):az M C (M p) p*az M C f k-az M C f p*az M C (M p) k=aA M C*az M (p::C) f k:=M4 (EZ hq h) f (M p) p k
variable {c:Nat}
theorem w_(h:c∈C):az M C f c=0:=M3 _ f h
theorem xa(hq:a7 q):∀{C:List Nat},bZ q M C→∀r∈C,∀k,az M C (M r) k=0
 | [],_,_,hr,_=>nomatch hr
 | p::C,h,r,hr,k=>by
  have d0:=u0 (ju hq h.1);have e:=qM hq h.1 p (M r) k;have z:aA M C*az M (p::C) (M r) k=0:=by
   rcases cp.mp hr with rfl | hr;·rw [←e];exact lN _
   ·rw [←e,xa hq h.1 r hr k,xa hq h.1 r hr p,gq,eQ,lN]
  exact (mM.mp z).resolve_left d0
theorem E1:∀(C:List Nat) (i:Nat),i<C.length→gE M C i=M (C.getD i 0)
 | _::_,0,_=>rfl
 | _::C,i+1,h=>E1 C i (Nat.lt_of_succ_lt_succ h)
theorem Oa(M:aF)(C:List Nat)(f:Nat→Int):∃y:Nat→Int,∀k,az M C f k=aA M C*f k+aQ C.length fun i=>M (C.getD i 0) k*y i:=⟨fun i=>-(sgn i)*aB C (aG f (bf i (gE M C))),fun k=>by
 unfold az jY;rw [iz k C f (gE M C)]
 congr 1
 exact fM fun i hi=>by rw [E1 C i hi]⟩
theorem E2:∀{C:List Nat} {R:aF} {e e':Nat→Int},(∀c∈C,e c=e' c)→aB C (aG e R)=aB C (aG e' R)
 | [],_,_,_,_=>rfl
 | k::C,R,e,e',h=>by
  rw [iz,iz,h k (gg ..)]
  congr 1
  exact fM fun i hi=>by rw [E2 (C:=C) fun c hc=>h c (fO _ hc)]
theorem Ay:∀{C:List Nat},C≠[]→∀{R:aF} (a b:Int) (e e':Nat→Int),aB C (aG (fun k=>a*e k+b*e' k) R)=a*aB C (aG e R)+b*aB C (aG e' R)
 | [],h,_,_,_,_,_=>absurd rfl h
 | k::C,_,R,a,b,e,e'=>by
  rw [iz,iz,iz];by_cases z:C=[]
  ·subst z
   show _+0=a*(_+0)+b*(_+0);grind
  ·have s:(aQ C.length fun i=>R i k*(-(sgn i)*aB C (aG (fun k=>a*e k+b*e' k) (bf i R))))=a*(aQ C.length fun i=>R i k*(-(sgn i)*aB C (aG e (bf i R))))+b*aQ C.length fun i=>R i k*(-(sgn i)*aB C (aG e' (bf i R))):=by rw [iY,iY,←nO];exact fM fun i _=>by rw [Ay z a b e e'];grind
   rw [s];grind
def dl(c:Nat):Nat→Int:=fun k=>if k=c then 1 else 0
theorem E3{C:List Nat}(hC:C≠[]){R:aF}{f:Nat→Int}:∀{l:List Nat},l.Nodup→aB C (aG (fun k=>if k∈l then f k else 0) R)=(l.map fun c=>f c*aB C (aG (dl c) R)).sum
 | [],_=>by
  have:=Ay hC (R:=R) 0 0 (fun _=>0) (fun _=>0);rw [show (fun k=>if k∈([]:List Nat) then f k else 0)=fun k=>0*(fun _:Nat=>(0:Int)) k+0*(fun _:Nat=>(0:Int)) k from funext fun k=>by simp,this]
  simp
 | c::l,nd=>by
  rw [jD] at nd;rw [cQ,da,←E3 hC nd.2];have:=Ay hC (R:=R) (f c) 1 (dl c) (fun k=>if k∈l then f k else 0)
  rw [Int.one_mul] at this;rw [←this]
  congr 1
  congr 1
  funext k
  unfold dl;by_cases e:k=c
  ·subst e
   simp [nd.1]
  ·by_cases h:k∈l <;> simp [e,h]
def dO(M:aF)(C:List Nat)(n c:Nat):Int:=-aB (n::C) (aG (dl c) (gE M C))
theorem Ob(nd:C.Nodup)(hn:n∉C):az M C f n=aA M C*f n-(C.map fun c=>f c*dO M C n c).sum:=by
 have hC:n::C≠[]:=List.cons_ne_nil _ _;have e1:az M C f n=((n::C).map fun c=>f c*aB (n::C) (aG (dl c) (gE M C))).sum:=by rw [←E3 hC (jD.mpr ⟨hn,nd⟩)];unfold az jY;exact E2 fun c hc=>by rw [ao hc]
 have e2:aB (n::C) (aG (dl n) (gE M C))=aA M C:=by
  rw [iz];have:(aQ C.length fun i=>gE M C i n*(-(sgn i)*aB C (aG (dl n) (bf i (gE M C)))))=0:=by rw [←uU C.length];refine fM fun i hi=>?_;rw [Ez (e:=dl n) _ (fun z=>by rw [z] at hi;exact absurd hi (mF _)) fun x hx=>ah (fun z:x=n=>hn (z▸hx)),gq,gq]
  rw [this];unfold dl aA;simp
 rw [e1,cQ,da,e2];have e3:((C.map fun c=>f c*aB (n::C) (aG (dl c) (gE M C))).sum)=-(C.map fun c=>f c*dO M C n c).sum:=by
  have gen:∀(w:Nat→Int) (l:List Nat),(l.map fun c=>f c*w c).sum=-(l.map fun c=>f c * -w c).sum:=fun w l=>by
   induction l with
   | nil=>rfl
   | cons x l ih=>rw [cQ,da,cQ,da,ih];grind
  exact gen (fun c=>aB (n::C) (aG (dl c) (gE M C))) C
 rw [e3,dI];lia
theorem E4(hq:a7 q)(g:bZ q M C)(nd:C.Nodup)(hn:n∉C){r:Nat}(hr:r∈C):(C.map fun c=>M r c*dO M C n c).sum=aA M C*M r n:=by have:=Ob (M:=M) (f:=M r) nd hn;rw [xa hq g r hr n] at this;lia
theorem xb(a:Int)(F:Nat→Int):∀l:List Nat,(l.map fun c=>a*F c).sum=a*(l.map F).sum
 | []=>(gq a).symm
 | x::l=>by rw [cQ,da,cQ,da,xb a F l,Int.mul_add]
theorem E5(F G:Nat→Int):∀l:List Nat,(l.map fun c=>F c+G c).sum=(l.map F).sum+(l.map G).sum
 | []=>rfl
 | x::l=>by rw [cQ,da,cQ,da,cQ,da,E5 F G l];lia
theorem E6(F:aF):∀(m:Nat) (l:List Nat),(l.map fun c=>aQ m fun i=>F i c).sum=aQ m fun i=>(l.map (F i)).sum
 | m,[]=>(uU m).symm
 | m,x::l=>by rw [cQ,da,E6 F m l,←nO];exact fM fun i _=>by rw [cQ,da]
theorem E7(hq:a7 q)(g:bZ q M C)(nd:C.Nodup)(hn:n∉C){C':List Nat}(sub:∀r∈C',r∈C)(hp:p∈C):(C.map fun c=>az M C' (M p) c*dO M C n c).sum=aA M C*az M C' (M p) n:=by
 obtain ⟨y,hy⟩:=Oa M C' (M p);have e:(fun c=>az M C' (M p) c*dO M C n c)=fun c=>aA M C'*(M p c*dO M C n c)+aQ C'.length fun i=>y i*(M (C'.getD i 0) c*dO M C n c):=by
  funext c
  rw [hy c,Int.add_mul,kr,dI (aQ _ _),iY]
  congr 1
  exact fM fun i _=>by grind
 rw [e,E5,xb,E4 hq g nd hn hp,E6];have e2:(aQ C'.length fun i=>(C.map fun c=>y i*(M (C'.getD i 0) c*dO M C n c)).sum)=aA M C*aQ C'.length fun i=>M (C'.getD i 0) n*y i:=by
  rw [iY];refine fM fun i hi=>?_;have mem:C'.getD i 0∈C':=by rw [i_,d6 hi];exact gk hi
  rw [xb,E4 hq g nd hn (sub _ mem)];grind
 rw [e2,hy n];grind
theorem mf(hq:a7 q){n:Nat}{cM:Nat→Nat→Prop}(zero:∀a b,a<n→b<n→a≠b→¬cM a b→M a b=0):∀{C:List Nat},bZ q M C→(∀c∈C,c<n)→∀i j,i<n→j<n→i∉C→j∉C→i≠j→¬Wk cM (·∈C) i j→az M C (M i) j=0
 | [],_,_,i,j,li,lj,_,_,ij,nw=>by rw [uZ];exact zero i j li lj ij fun z=>nw (.one z)
 | p::C,g,lc,i,j,li,lj,hi,hj,ij,nw=>by
  rw [cp,not_or] at hi hj;have lp:=lc p (gg ..);have Az:∀c∈C,c<n:=fun c hc=>lc c (fO _ hc);have st:=Wk.step (cM:=cM) (dF:=(·∈C)) (qL:=(·∈p::C)) (s:=i) (t:=j) (p:=p) fun x=>by rw [cp];exact Or.comm
  rw [st,not_or] at nw;have e:=qM hq g.1 p (M i) j;rw [mf hq zero g.1 Az i j li lj hi.2 hj.2 ij nw.1,gq] at e;have z:az M C (M i) p*az M C (M p) j=0:=by
   by_cases pC:p∈C;·rw [w_ pC,eQ]
   ·by_cases w:Wk cM (·∈C) i p
    ·rw [mf hq zero g.1 Az p j lp lj pC hj.2 (Ne.symm hj.1) fun z=>nw.2 ⟨w,z⟩,gq]
    ·rw [mf hq zero g.1 Az i p li lp hi.2 pC hi.1 w,eQ]
  rw [z] at e;exact (mM.mp (show aA M C*az M (p::C) (M i) j=0 by lia)).resolve_left (u0 (ju hq g.1))
theorem xc{B:Nat}(hB:∀i k,(M i k).natAbs≤B):∀(C:List Nat) (i k:Nat),(gE M C i k).natAbs≤B
 | [],_,_=>cu _
 | p::_,0,k=>hB p k
 | _::C,i+1,k=>xc hB C i k
theorem E8{B:Nat}{R:aF}(hf:∀k,(f k).natAbs≤B)(hR:∀i k,(R i k).natAbs≤B):∀i k,(aG f R i k).natAbs≤B
 | 0,k=>hf k
 | i+1,k=>hR i k
variable {B:Nat}
theorem Oc(hB:∀i k,(M i k).natAbs≤B)(hf:∀k,(f k).natAbs≤B):(az M C f k).natAbs≤f_ (C.length+1)*B ^ (C.length+1):=wW (k::C) _ (E8 hf (xc hB C))
theorem Od(hB:∀i k,(M i k).natAbs≤B):(aA M C).natAbs≤f_ C.length*B ^ C.length:=wW C _ (xc hB C)
theorem Oe(b1:1≤B)(hB:∀i k,(M i k).natAbs≤B):(dO M C n c).natAbs≤f_ (C.length+1)*B ^ (C.length+1):=by unfold dO;rw [mJ];exact wW (n::C) _ (E8 (fun k=>by unfold dl;split;exact b1;exact cu _) (xc hB C))
end
def aK(B:Nat)(H:Hp)(q:Int)(v:V)(T U:Int):Prop:=∃x m:Int,bE B H q v x m∧q∣x*U-T*m∧¬q∣U
section
variable {B Y:Nat} {H H':Hp} {q:Int} {v u:V} {T U T' U':Int}
theorem aK.mono(h:aK B H q v T U)(s:ae H H'):aK B H' q v T U:=let ⟨x,m,h1,h2⟩:=h;⟨x,m,h1.mono s,h2⟩
theorem aK.eq(hq:a7 q)(h:aK B H q v T U)(e:Cg q (T*U') (T'*U))(nu:¬q∣U'):aK B H q v T' U':=by
 obtain ⟨x,m,h1,h2,h3⟩:=h;refine ⟨x,m,h1,?_,nu⟩;have c:Cg q (U*(x*U'-T'*m)) 0:=by
  have a:Cg q (U'*(x*U)) (U'*(T*m)):=Cg.mulL U' h2;have b:Cg q (m*(T*U')) (m*(T'*U)):=Cg.mulL m e;have d:=a.trans ((Cg.of_eq (by grind)).trans b)
  have d2:=d.sub (Cg.refl (m*(T'*U)));exact (Cg.of_eq (by grind)).trans (d2.trans (Cg.of_eq (by lia)))
 have:=wX hq h3 c;unfold Cg at this
 rwa [ky] at this
theorem aK.bd(h:aK B H q v T U)(bt:T.natAbs≤Y)(bu:U.natAbs≤Y):aK Y H q v T U:=by
 obtain ⟨x,m,h1,h2,h3⟩:=h;cases h1 with
 | rem a b c=>exact ⟨_,_,.rem a b c,h2,h3⟩
 | bK e l bx bm=>
  have h2:=jG.mp h2;have U0:U≠0:=fun z=>h3 (by rw [z];exact ku 0)
  have le:m≤(U.natAbs:Int)∧x.natAbs≤T.natAbs:=by
   by_cases up:0<U
   ·have:=wL l up (show x*U=T*m by lia)
    exact ⟨by lia,this.2⟩
   ·have:=wL l (show 0 < -U by lia) (show x * -U=-T*m by rw [kx,Int.neg_mul];lia)
    rw [mJ] at this;exact ⟨by lia,this.2⟩
  have mp:=l.pos;exact ⟨x,m,.bK e l (by lia) (by lia),by rw [h2];exact ku 0,h3⟩
theorem AA(hq:a7 q)(h:aK B H q v T U):q∣T↔∃x m,bE B H q v x m∧x=0:=by
 obtain ⟨x,m,h1,h2,h3⟩:=h;constructor
 ·intro d
  refine ⟨x,m,h1,?_⟩;have c:Cg q (U*x) 0:=by
   have:q∣x*U:=by
    have:=Int.dvd_add h2 (Int.dvd_mul_of_dvd_left (c:=m) d)
    rwa [Int.sub_add_cancel] at this
   unfold Cg;rw [ky,dI];exact this
  have:=wX hq h3 c;unfold Cg at this;rw [ky] at this;cases h1 with
  | bK=>exact jG.mp this
  | rem a b c=>
   obtain ⟨k,hk⟩:=this;have:k=0:=by
    rcases Int.lt_trichotomy k 0 with z | z | z
    ·have:q*k≤q*(-1):=qa (by lia) (by lia)
     lia
    ·exact z
    ·have:q*1≤q*k:=qa (by lia) (by lia)
     lia
   rw [hk,this,gq]
 ·rintro ⟨x',m',qC,rfl⟩
  have e:x=0:=by
   cases h1 with
   | bK e l=>
    cases qC with
    | bK e' l'=>rw [e] at e';cases e';rfl
   | rem=>cases qC;rfl
  subst e;have:q∣T*m:=by have:=h2;rw [eQ,qb] at this;exact Int.dvd_neg.mp this
  cases h1 with
  | bK e l=>
   have:=jG.mp this;have mp:=l.pos;have:T=0:=(mM.mp this).resolve_right (by lia)
   rw [this];exact ku 0
  | rem=>rwa [fh] at this
end
section
variable {H:Hp} {q:Int} {v u:V} {T U T' U':Int} {C N z:Addr} {Q:VK} {E:XK}
theorem xf{B:Nat}{x m:Int}(h:bE B H q v x m)(b:B≤10 ^ 300):bJ x∧bJ m∧1≤m:=by
 cases h with
 | bK e l bx bm=>exact ⟨aV bx b,aV bm b,l.pos⟩
 | rem h0 h1 h2=>exact ⟨aV (show _≤997 by lia) (by decide +kernel),by unfold bJ;decide +kernel,by decide⟩
variable {X Y Y':Nat}
theorem E9{fr:Int→Int→Int→Int→Int}{rm:Int→Int→Int}(hw:cZ C H z q)(hq:a7 q)(hv:aK X H q v T U)(hu:aK Y H q u T' U')(bX:X≤10 ^ 300)(bY:Y≤10 ^ 300)(top bot:Int)
  (hf:∀x m y n,q∣x*U-T*m→q∣y*U'-T'*n→q∣fr x m y n*bot-top*(m*n)) (hr:∀x y,fr x 1 y 1=rm x y) (nb:¬q∣bot) (bt:top.natAbs≤Y') (bb:bot.natAbs≤Y')
  (k:∀(v':V) (H':Hp),ae H H'→aK Y' H' q v' top bot→Q v' H'):iW C fr rm [.ref z,v,u] H Q E:=by
 obtain ⟨x,m,h1,h2,h3⟩:=hv
 obtain ⟨y,n,g1,g2,g3⟩:=hu
 obtain ⟨a1,a2,a3⟩:=xf h1 bX
 obtain ⟨b1,b2,b3⟩:=xf g1 bY
 have key:=hf x m y n h2 g2
 refine ⟨z,q,v,u,rfl,hw,?_⟩
 cases h1 with
 | bK e l bx bm=>
  cases g1 with
  | bK e' l' AB wC=>
   refine .inl ⟨rfl,_,_,x,m,y,n,rfl,rfl,e,e',l,l',a1,a2,b1,b2,fun r' H' a d s' er la ea=>k _ H' s' ?_⟩
   have key:=jG.mp key
   have mn:m*n≠0:=Int.ne_of_gt (Int.mul_pos (by lia) (by lia))
   have ew:a*bot=top*d:=by
    refine y8 mn ?_
    have:fr x m y n*bot=top*(m*n):=by omega
    calc a*bot*(m*n)=a*(m*n)*bot:=by grind
     _=fr x m y n*d*bot:=by rw [ea]
     _=fr x m y n*bot*d:=by grind
     _=top*(m*n)*d:=by rw [this]
     _=top*d*(m*n):=by grind
   have W:aK (a.natAbs+d.natAbs) H' 0 (.ref r') top bot:=⟨a,d,.bK er la (by lia) (by lia),by rw [ew,lN];exact ku 0,nb⟩
   exact W.bd bt bb
  | rem h0 h1 h2=>lia
 | rem h0 qC nG=>
  cases g1 with
  | bK e' l' AB wC=>lia
  | rem g0 g1 qN=>
   have nF:2≤q:=by rcases hq with h | h <;> lia
   refine .inr ⟨nF,x,y,rfl,rfl,h0,by lia,k _ H (ae.refl _) ⟨_,1,.rem (fP _ (by lia)) (gH _ (by lia)) nG,?_,nb⟩⟩
   rw [fh,fh] at key
   rw [hr] at key
   rw [fh]
   have c:Cg q (rm x y % q*bot) (rm x y*bot):=(Et q _).mulR bot
   exact c.trans key
theorem AD(hw:cZ C H z q)(hq:a7 q)(hv:aK X H q v T U)(hu:aK Y H q u T' U')(bX:X≤10 ^ 300)(bY:Y≤10 ^ 300)(nb:¬q∣U*U')(bt:(T*U'-T'*U).natAbs≤Y')(bb:(U*U').natAbs≤Y')
  (k:∀(v':V) (H':Hp),ae H H'→aK Y' H' q v' (T*U'-T'*U) (U*U')→Q v' H'):iW C (fun x m y n=>x*n-y*m) (fun i j=>i-j) [.ref z,v,u] H Q E:=
 E9 hw hq hv hu bX bY _ _ (fun x m y n h1 h2=>by obtain ⟨a,ha⟩:=h1;obtain ⟨b,hb⟩:=h2;exact ⟨n*U'*a-m*U*b,by grind⟩) (fun x y=>by rw [fh,fh]) nb bt bb k
theorem xg(hw:cZ C H z q)(hq:a7 q)(hv:aK X H q v T U)(hu:aK Y H q u T' U')(bX:X≤10 ^ 300)(bY:Y≤10 ^ 300)(nb:¬q∣U*U')(bt:(T*T').natAbs≤Y')(bb:(U*U').natAbs≤Y')
  (k:∀(v':V) (H':Hp),ae H H'→aK Y' H' q v' (T*T') (U*U')→Q v' H'):iW C (fun x m y n=>x*y) (fun i j=>i*j) [.ref z,v,u] H Q E:=
 E9 hw hq hv hu bX bY _ _ (fun x m y n h1 h2=>by obtain ⟨a,ha⟩:=h1;obtain ⟨b,hb⟩:=h2;exact ⟨y*U'*a+T*m*b,by grind⟩) (fun x y=>rfl) nb bt bb k
theorem ei(hq:a7 q){a b:Int}(ha:¬q∣a)(hb:¬q∣b):¬q∣a*b:=fun d=>hb (by
 have:=wX hq ha (show Cg q (a*b) 0 by unfold Cg;rwa [ky])
 unfold Cg at this
 rwa [ky] at this)
theorem AE(hw:cZ C H z q)(hq:a7 q)(hv:aK X H q v T U)(hu:aK Y H q u T' U')(bX:X≤10 ^ 300)(bY:Y≤10 ^ 300)(nt:¬q∣T')(bt:(T*U').natAbs≤Y')(bb:(U*T').natAbs≤Y')
  (k:∀(v':V) (H':Hp),ae H H'→aK Y' H' q v' (T*U') (U*T')→Q v' H'):uR C N [.ref z,v,u] H Q E:=by
 have ny:∀{y n},bE Y H q u y n→q∣y*U'-T'*n→¬q∣U'→y≠0:=fun{y n} g1 g2 g3 e=>nt ((AA hq ⟨y,n,g1,g2,g3⟩).mpr ⟨y,n,g1,e⟩)
 obtain ⟨x,m,h1,h2,h3⟩:=hv
 obtain ⟨y,n,g1,g2,g3⟩:=hu
 have y0:=ny g1 g2 g3
 obtain ⟨a1,a2,a3⟩:=xf h1 bX
 obtain ⟨b1,b2,b3⟩:=xf g1 bY
 have nb:=ei hq h3 nt
 refine ⟨z,q,v,u,rfl,hw,?_⟩
 cases h1 with
 | bK e l bx bm=>
  cases g1 with
  | bK e' l' AB wC=>
   refine .inl ⟨rfl,_,_,x,m,y,n,rfl,rfl,e,e',l,l',a1,a2,b1,b2,fun z=>absurd z y0,fun _ r' H' a d s' er la ea=>k _ H' s' ?_⟩
   have h2:=jG.mp h2
   have g2:=jG.mp g2
   have my:m*y≠0:=fun z=>(mM.mp z).elim (fun z=>by lia) y0
   have ew:a*(U*T')=T*U'*d:=by
    refine y8 (a:=m*y) my ?_
    have e1:x*U=T*m:=by lia
    have e2:T'*n=y*U':=by lia
    calc a*(U*T')*(m*y)=a*(m*y)*(U*T'):=by grind
     _=x*n*d*(U*T'):=by rw [ea]
     _=x*U*(T'*n)*d:=by grind
     _=T*m*(y*U')*d:=by rw [e1,e2]
     _=T*U'*d*(m*y):=by grind
   have W:aK (a.natAbs+d.natAbs) H' 0 (.ref r') (T*U') (U*T'):=⟨a,d,.bK er la (by lia) (by lia),by rw [ew,lN];exact ku 0,nb⟩
   exact W.bd bt bb
  | rem h0 h1 h2=>lia
 | rem h0 qC nG=>
  cases g1 with
  | bK e' l' AB wC=>lia
  | rem g0 g1 qN=>
   have fZ:2≤q∧q≤997∧gP q=true:=by rcases hq with h | h;lia;exact h
   refine .inr ⟨fZ.1,x,y,rfl,rfl,fZ.2.1,fZ.2.2,h0,qC,g0,g1,fun z=>absurd z y0,fun _ r r0 r1 er=>k _ H (ae.refl _) ⟨r,1,.rem r0 r1 nG,?_,nb⟩⟩
   have c1:Cg q (r*y) x:=by
    have:=Et q (r*y)
    rw [er] at this
    exact this.symm
   have c2:Cg q (x*U) (T*1):=h2
   have c3:Cg q (y*U') (T'*1):=g2
   rw [fh] at c2 c3 ⊢
   have e1:Cg q (r*(U*T')) (r*U*(y*U')):=(Cg.of_eq (by grind)).trans ((c3.symm).mulL (r*U))
   have e2:Cg q (r*U*(y*U')) (x*(U*U')):=(Cg.of_eq (show r*U*(y*U')=r*y*(U*U') by grind)).trans (c1.mulR (U*U'))
   have e3:Cg q (x*(U*U')) (T*U'):=(Cg.of_eq (show x*(U*U')=x*U*U' by grind)).trans (c2.mulR U')
   exact e1.trans (e2.trans e3)
end
def bS(o:List Nat):List V:=o.map fun k:Nat=>V.int (k:Int)
structure WTab (H:Hp) (a:Addr) (n:Nat) (rs:Nat→Addr) (vf:Nat→Nat→V):Prop where
 lst:H a=some (.lst ((List.range n).map fun i=>V.ref (rs i)))
 inj:∀i j,i<n→j<n→rs i=rs j→i=j
 ne:∀i,i<n→rs i≠a
 at':∀i,i<n→H (rs i)=some (.lst ((List.range n).map (vf i)))
def mh(vf:Nat→Nat→V)(i j:Nat)(w:V):Nat→Nat→V:=fun i' j'=>if i'=i∧j'=j then w else vf i' j'
variable {j:Nat} {w:V}
theorem map_set{f:Nat→V}:((List.range n).map f).set j w=(List.range n).map fun j'=>if j'=j then w else f j':=by
 refine fF (by simp) fun i h1 h2=>?_
 rw [List.getElem_set];simp;by_cases e:j=i;·subst e;simp
 ·rw [ah e,ah (Ne.symm e)]
section
variable {H H':Hp} {a:Addr} {n:Nat} {rs:Nat→Addr} {vf:Nat→Nat→V}
theorem WTab.bG(h:WTab H a n rs vf)(k:∀b o,(b=a∨∃i,i<n∧b=rs i)→H b=some o→H' b=some o):WTab H' a n rs vf:=
 ⟨k _ _ (.inl rfl) h.lst,h.inj,h.ne,fun i hi=>k _ _ (.inr ⟨i,hi,rfl⟩) (h.at' i hi)⟩
theorem WTab.mono(h:WTab H a n rs vf)(s:ae H H'):WTab H' a n rs vf:=h.bG fun b o _ e=>s b o e
theorem WTab.put(h:WTab H a n rs vf){i:Nat}(w:V)(hi:i<n):WTab (upd H (rs i) (.lst (((List.range n).map (vf i)).set j w))) a n rs (mh vf i j w):=by
 refine ⟨by rw [aN (Ne.symm (h.ne i hi))];exact h.lst,h.inj,h.ne,fun i' dj=>?_⟩
 by_cases e:i'=i
 ·subst e
  rw [ax,map_set]
  congr 2
  refine iM fun j' _=>?_;unfold mh;simp
 ·rw [aN (fun z=>e (h.inj i' i dj hi z)),h.at' i' dj]
  congr 2
  refine iM fun j' _=>?_;unfold mh;simp [e]
end
structure E_ (q:Int) (X n p:Nat) (ms:List Nat) (T U T' U':aF):Prop where
 k7:¬q∣T p p
 nz:∀i j,i<n→j<n→¬q∣U' i j
 bt:∀i j,i<n→j<n→(T' i j).natAbs≤X∧(U' i j).natAbs≤X
 low:∀i∈ms,Cg q (T i p*U p p*U' i p) (T' i p*(U i p*T p p))
 ent:∀i∈ms,∀j∈ms,Cg q ((T i j*(U' i p*U p j)-T' i p*T p j*U i j)*U' i j) (T' i j*(U i j*(U' i p*U p j)))
 u3:∀i j,i<n→j<n→(i∉ms∨(j≠p∧j∉ms))→Cg q (T i j*U' i j) (T' i j*U i j)
def c_(X:Nat)(H:Hp)(q:Int)(n:Nat)(vf:Nat→Nat→V)(T U:aF):Prop:=∀i j,i<n→j<n→aK X H q (vf i j) (T i j) (U i j)
def eN(n:Nat)(rs:Nat→Addr)(H H':Hp):Prop:=∀b o,(∀i,i<n→b≠rs i)→H b=some o→H' b=some o
def Of(C:Addr):Sp:=fun vs H Q _=>∃(z a b:Addr) (q:Int) (n X p:Nat) (rs:Nat→Addr) (vf:Nat→Nat→V) (ms:List Nat) (T U T' U':aF),vs=[.ref z,.ref a,.int (p:Int),.ref b]∧cZ C H z q∧a7 q∧WTab H a n rs vf∧H b=some (.lst (bS ms))∧(∀i,i<n→b≠rs i∧z≠rs i)∧p<n∧(∀m∈ms,m<n∧m≠p)∧ms.Nodup∧n≤60∧1000≤X∧X≤10 ^ 100∧c_ X H q n vf T U∧(∀i j,i<n→j<n→(T i j).natAbs≤X∧(U i j).natAbs≤X)∧E_ q X n p ms T U T' U' ∧
 ∀(H':Hp) (gU:Nat→Nat→V),eN n rs H H'→WTab H' a n rs gU→c_ X H' q n gU T' U'→Q .aH H'
def iC(D:Nat→Nat→Bool)(T T':aF):Nat→Nat→Int:=fun i j=>if D i j then T' i j else T i j
theorem eN.refl(n:Nat)(rs:Nat→Addr)(H:Hp):eN n rs H H:=fun _ _ _ e=>e
variable {rs:Nat→Addr} {H H1:Hp}
theorem eN.same{H2:Hp}(h:eN n rs H H1)(s:ae H1 H2):eN n rs H H2:=fun b o nb e=>s _ _ (h b o nb e)
variable {i:Nat}
theorem eN.put{o:HO}(h:eN n rs H H1)(hi:i<n):eN n rs H (upd H1 (rs i) o):=fun b u nb e=>by rw [aN (nb i hi)];exact h b u nb e
theorem int_at{x:V}(h:(bS ms)[k]?=some x):∃i:Nat,ms[k]?=some i∧x=.int (i:Int):=by
 unfold bS at h;rw [cE] at h;cases e:ms[k]? with
 | none=>rw [e] at h;cases h
 | some i=>rw [e] at h;exact ⟨i,rfl,(Option.some.inj h).symm⟩
theorem xh(nd:ms.Nodup)(h:ms[k]?=some i):i∉ms.take k:=fun z=>by have h2:=(vK (k+1) ms).nodup nd;rw [take_snoc h,List.nodup_append] at h2;exact h2.2.2 i z i (ja.mpr rfl) rfl
variable {D:Nat→Nat→Bool} {T T':aF}
theorem eA(h:D i j=true):iC D T T' i j=T' i j:=by unfold iC;rw [ao h]
theorem dq(h:D i j=false):iC D T T' i j=T i j:=by unfold iC;rw [h];rfl
variable {X:Nat} {q:Int} {vf:Nat→Nat→V} {U U':aF}
theorem c_.put{H':Hp}(h:c_ X H q n vf T U)(k:∀v t u,aK X H q v t u→aK X H' q v t u)(hw:aK X H' q w (T' i j) (U' i j))(o:∀i' j',i'<n→j'<n→¬(i'=i∧j'=j)→T' i' j'=T i' j'∧U' i' j'=U i' j'):c_ X H' q n (mh vf i j w) T' U':=fun i' j' dj dP=>by
 unfold mh;by_cases e:i'=i∧j'=j
 ·rw [ao e,e.1,e.2]
  exact hw
 ·rw [ah e,(o i' j' dj dP e).1,(o i' j' dj dP e).2]
  exact k _ _ _ (h i' j' dj dP)
theorem c_.to(h:c_ X H q n vf T U)(o:∀i' j',i'<n→j'<n→T' i' j'=T i' j'∧U' i' j'=U i' j'):c_ X H q n vf T' U':=fun i j hi hj=>by rw [(o i j hi hj).1,(o i j hi hj).2];exact h i j hi hj
theorem c_.Fb(hq:a7 q)(h:c_ X H q n vf T U)(o:∀i j,i<n→j<n→(T' i j=T i j∧U' i j=U i j)∨(Cg q (T i j*U' i j) (T' i j*U i j)∧¬q∣U' i j∧(T' i j).natAbs≤X∧(U' i j).natAbs≤X)):c_ X H q n vf T' U':=fun i j hi hj=>by
 rcases o i j hi hj with ⟨e1,e2⟩ | ⟨e1,e2,e3,e4⟩
 ·rw [e1,e2]
  exact h i j hi hj
 ·exact ((h i j hi hj).eq hq e1 e2).bd e3 e4
theorem aK.put{v:V}{t u:Int}{b:Addr}{xs:List V}{o:HO}(h:aK X H q v t u)(e:H b=some (.lst xs)):aK X (upd H b o) q v t u:=by
 obtain ⟨x,m,h1,h2⟩:=h;refine ⟨x,m,?_,h2⟩;cases h1 with
 | bK e' l bx bm=>exact .bK (by rw [aN (fun z=>by rw [z,e] at e';cases e')];exact e') l bx bm
 | rem a b c=>exact .rem a b c
end My
namespace L2
open PySem PySem.Spec PyProof.Rows
section
variable {X:Cx} {a b:Expr} {rest:List Expr} {pos:Pos} {ta tb:TE}
end
end L2
namespace My
open PySem L2
end My
namespace L2
open PySem PySem.Spec PyProof.Rows
section
variable {prog:Program} {w:World} {A:Around} {E:aI} {s:Shared}
end
section
variable {prog:Program} {w:World} {A:Around} {E:aI} {s:Shared}
end
section
variable {X:Cx}
end
section
variable {prog:Program} {w:World} {A:Around} {E:aI} {s:Shared}
end
end L2
namespace My
open PySem L2
end My
namespace L2
open PySem PySem.Spec PyProof.Rows
end L2
namespace My
open PySem L2
end My
namespace L2
open PySem PySem.Spec PyProof.Rows
section
variable {X:Cx}
end
end L2
namespace My
open PySem L2
end My
namespace L2
open PySem
section
variable {prog:Program} {w:World} {A:Around} {E:aI} {s:Shared}
end
end L2
namespace My
open PySem L2
end My
namespace L2
open PySem PySem.Spec PyProof.Rows My
end L2
namespace My
open PySem L2
section
variable {P a d:Addr} {H Hc:Hp} {n m:Nat} {L:cy}
end
section
variable {n:Nat} {E:Nat→Nat→Prop} {pos rk:Nat→Nat}
end
open PySem PySem.W PyProof.Rows Tm
section
variable {prog:Program} {w:World} {A:Around} {E:aI} {s:Shared}
end
open PySem PySem.W PyProof.Rows
section
variable {prog:Program} {w:World} {A:Around} {E:aI} {s:Shared}
end
end My
namespace L2
open PySem PySem.W PyProof.Rows My
end L2
namespace My
open PySem PySem.W PyProof.Rows
section
variable {prog:Program} {w:World} {A:Around} {E:aI} {s:Shared} {R:Result→Shared→Prop}
end
open PySem PySem.W PyProof.Rows L2
section
variable {prog:Program} {w:World} {A:Around} {s:Shared}
end
end My
namespace L2
open PySem PySem.W PyProof.Rows My
end L2
namespace My
open PySem L2
end My
namespace L2
open PySem PySem.Spec PyProof.Rows My
end L2
namespace My
open PySem L2
end My
namespace L2
open PySem
section
variable {prog:Program} {w:World} {A:Around} {E:aI} {s:Shared}
end
open PySem PySem.Spec PyProof.Rows My
end L2
namespace My
open PySem L2
end My
namespace L2
open PySem PySem.W PyProof.Rows
section
variable {prog:Program} {w:World} {A:Around} {E:aI} {s:Shared}
end
open AutoSeq1 (wpAny_loadPart')
section
variable {prog:Program} {w:World} {A:Around} {E:aI} {s:Shared}
end
end L2
namespace My
open PySem L2
end My
namespace L2
open PySem PySem.Spec PyProof.Rows My
end L2
namespace My
open PySem L2
open PySem L2 Classical
theorem bh{a b:TS}{D:Ends}{σ:St}{H:Hp}(h:∀R:St→Hp→Prop,(∀σ H,b D σ H→R σ H)→a {D with nx:=R} σ H):zo a b D σ H:=h _ fun _ _ h=>h
end My
namespace L2
open PySem PySem.Spec PyProof.Rows
end L2
namespace My
open PySem L2 Classical
open PySem L2
end My
namespace L2
open PySem PySem.Spec PyProof.Rows My
section
variable {X:Cx}
end
end L2
namespace My
open PySem L2
end My
namespace L2
open PySem PySem.Spec PyProof.Rows My
theorem xi{K:ay}{l:Addr}{xs:List V}{H1:Hp}(h:bC K H1 l xs):Eg (qD K l) ((List.range xs.length).zip xs |>.map fun p=>(V.int (p.1:Int),p.2)) H1 where
 go:=fun i Hc s hi=>by
  have hi:i<xs.length:=by simpa using hi
  exact ⟨xs,xs[i],s.seq h,by simp [hi]⟩
 dX:=fun i Hc v H' s y=>by
  obtain ⟨T,x,nT,e1,e2,e3⟩:=y;refine ⟨T,.int (i:Int),x,e1,nT,e2,fun hi=>?_⟩;have hi:i<xs.length:=by simpa using hi
  have:=e3 xs (s.seq h);rw [cE,(List.getElem?_zip_eq_some (z:=(i,x))).mpr ⟨jb hi,this⟩];rfl
 stop:=fun i Hc s hi=>by
  have hi:xs.length≤i:=by simpa using hi
  exact ⟨xs,s.seq h,hi⟩
end L2
namespace My
open PySem L2
end My
namespace L2
open PySem PySem.Spec PyProof.Rows
section
variable {prog:Program} {w:World} {A:Around} {E:aI} {s:Shared}
end
open AutoSeq1 (wpAny_loadPart')
section
variable {prog:Program} {w:World} {A:Around} {E:aI} {s:Shared}
end
section
variable {prog:Program} {w:World} {A:Around} {E:aI} {s:Shared}
end
section
variable {X:Cx}
end
open PySem PySem.Spec PyProof.Rows My
end L2
namespace My
open PySem L2
def i5(T:Addr)(H H':Hp):Prop:=∀b o,b≠T→H b=some o→H' b=some o
theorem i5.of{T:Addr}{H H1:Hp}(a:ae H H1):i5 T H H1:=fun c o _ e=>a c o e
end My
namespace L2
open PySem
end L2
namespace My
open PySem L2
def Fe(m:Nat):Nat:=m*m+3*m+1
end My
namespace L2
open PySem
variable {X:Cx}
open PySem PySem.Spec PyProof.Rows
section
variable {prog:Program} {w:World} {A:Around} {E:aI} {s:Shared}
end
section
variable {X:Cx} {tg:Expr}
end
section
variable {prog:Program} {w:World} {K:Type} [DecidableEq K] {knd:HeapKind prog w K} {A:Around} {E:aI} {s:Shared}
end
section
variable {prog:Program} {w:World} {A:Around} {E:aI} {s:Shared}
end
section
variable {X:Cx} {pins:aO} {σ:St} {H:Hp} {s:Shared}
end
section
variable {X:Cx} {tg:Expr}
end
open PySem PySem.W PyProof.Rows My
end L2
namespace My
open PySem L2
end My
namespace L2
open PySem
end L2
namespace My
end My
namespace L2
open PySem PySem.Spec PyProof.Rows
open PySem PySem.Spec PyProof.Rows PySem.W
open PySem PySem.Spec PyProof.Rows PySem.W Att
section
variable {prog:Program} {w:World} {A:Around} {E:aI} {s:Shared}
end
section
variable {X:Cx}
end
end L2
namespace My
open PySem L2
def k8(n:Nat)(g:Nat→List Nat):Nat:=((List.range n).map fun x=>Fe (g x).length).sum
section
variable {n:Nat} {cM:Nat→Nat→Prop} {dF:Nat→Prop} {p q:Nat}
end
theorem qO{n:Nat}{o:List Nat}(ho:o.Perm (List.range n)){k x:Nat}:x∈o.take k↔nU n o k x:=by
 have nd:=iB ho;constructor
 ·intro h
  obtain ⟨i,hi,e⟩:=List.getElem_of_mem h;rw [lK] at hi;rw [List.getElem_take] at e;subst e;exact ⟨(bW ho).mp (gk _),by rw [md nd];lia⟩
 ·rintro ⟨h1,h2⟩
  obtain ⟨hk,e⟩:=cS ((bW ho).mpr h1);have:o.idxOf x<(o.take k).length:=by rw [lK];lia
  have:=gk this
  rwa [List.getElem_take,e] at this
def cO(o:List Nat)(k:Nat):List Nat:=(o.take k).reverse
def sT(M:aF)(D:Nat→Int)(o:List Nat)(k i j:Nat):Int:=
 if k≤o.idxOf i∧k≤o.idxOf j then az M (cO o k) (M i) j else if o.idxOf i≤o.idxOf j then az M (cO o (o.idxOf i)) (M i) j else az M (cO o (o.idxOf j)) (M i) j*D j
def sU(M:aF)(D:Nat→Int)(o:List Nat)(k i j:Nat):Int:=
 if k≤o.idxOf i∧k≤o.idxOf j then D i*aA M (cO o k) else if o.idxOf i≤o.idxOf j then D i*aA M (cO o (o.idxOf i)) else D i*aA M (cO o (o.idxOf j+1))
section
variable {q:Int} {M:aF} {D:Nat→Int} {o:List Nat} {n k:Nat}
theorem jv(h:k<o.length):cO o (k+1)=o[k]::cO o k:=by unfold cO;rw [List.take_succ,d6 h];simp
theorem cN(ho:o.Perm (List.range n)){x:Nat}:x∈cO o k↔nU n o k x:=by unfold cO;rw [List.mem_reverse];exact qO ho
theorem gF(h:bZ q M (cO o k)):∀{j:Nat},j≤k→bZ q M (cO o j):=by
 have go:∀d j,j+d=k→bZ q M (cO o j):=fun d=>by
  induction d with
  | zero=>intro j e;rw [show j=k by lia];exact h
  | succ d ih=>
   intro j e;have:=ih (j+1) (by lia)
   by_cases hl:j<o.length
   ·rw [jv hl] at this
    exact this.1
   ·have e:cO o j=cO o (j+1):=by unfold cO;rw [uo (by lia),uo (by lia)]
    rw [e];exact this
 exact fun{j} hj=>go (k-j) j (by lia)
theorem Og(hq:a7 q){L:cy}{ms:List Nat}{X p:Nat}(ho:o.Perm (List.range n))(hp:p<n)(ip:o.idxOf p=k)(g:bZ q M (cO o k))(k7:¬q∣az M (cO o k) (M p) p)(hD:∀i,¬q∣D i)
  (zero:∀a b,a<n→b<n→a≠b→¬aL n L a b→M a b=0) (dQ:eM n L o p ms) (bd:∀k i j,k≤n→(sT M D o k i j).natAbs≤X∧(sU M D o k i j).natAbs≤X):E_ q X n p ms (sT M D o k) (sU M D o k) (sT M D o (k+1)) (sU M D o (k+1)):=by
 have lo:=eL ho;have Ff:=iB ho;have kl:k<o.length:=by rw [←ip];exact (cS ((bW ho).mpr hp)).1
 have kn:k<n:=by lia
 have pk:o[k]=p:=by have:=(cS ((bW ho).mpr hp)).2;simp only [ip] at this;exact this
 have cs:cO o (k+1)=p::cO o k:=by rw [jv kl,pk]
 have g':bZ q M (cO o (k+1)):=by rw [cs];exact ⟨g,k7⟩
 have dz:∀j,j≤k+1→¬q∣aA M (cO o j):=fun j hj=>ju hq (gF g' hj);have mlt:∀{i},i∈ms→i<n∧k<o.idxOf i:=fun{i} h=>by have:=(dQ i).mp h;rw [ip] at this;exact ⟨this.1,this.2.1⟩
 have u4:aA M (cO o (k+1))=az M (cO o k) (M p) p:=by rw [cs];rfl
 have step:∀i j,az M (cO o k) (M p) p*az M (cO o k) (M i) j-az M (cO o k) (M i) p*az M (cO o k) (M p) j=aA M (cO o k)*az M (cO o (k+1)) (M i) j:=fun i j=>by rw [cs];exact qM hq g p (M i) j
 have bG:∀{i},i<n→k<o.idxOf i→i∉ms→az M (cO o k) (M i) p=0∧az M (cO o k) (M p) i=0:=fun{i} hi hk nm=>by
  have nc:i∉cO o k:=fun z=>by have:=((cN ho).mp z).2;lia
  have pc:p∉cO o k:=fun z=>by have:=((cN ho).mp z).2;lia
  have ne:p≠i:=fun z=>by rw [←z] at hk;lia
  have nw:¬Wk (aL n L) (·∈cO o k) p i:=fun z=>nm ((dQ i).mpr ⟨hi,by lia,by rw [ip];exact z.mono fun x hx=>(cN ho).mp hx⟩)
  have lc:∀c∈cO o k,c<n:=fun c hc=>((cN ho).mp hc).1;exact ⟨mf hq zero g lc i p hi hp nc pc (Ne.symm ne) fun z=>nw (z.symm w9),mf hq zero g lc p i hp hi pc nc ne nw⟩
 have tp:∀j,k≤o.idxOf j→sT M D o k p j=az M (cO o k) (M p) j∧sU M D o k p j=D p*aA M (cO o k):=fun j hj=>by
  unfold sT sU;rw [ao ⟨by lia,hj⟩,ao ⟨by lia,hj⟩]
  exact ⟨rfl,rfl⟩
 have tk:∀i j,k≤o.idxOf i→k≤o.idxOf j→sT M D o k i j=az M (cO o k) (M i) j∧sU M D o k i j=D i*aA M (cO o k):=fun i j hi hj=>by unfold sT sU;rw [ao ⟨hi,hj⟩,ao ⟨hi,hj⟩];exact ⟨rfl,rfl⟩
 have qv:∀i j,k+1≤o.idxOf i→k+1≤o.idxOf j→sT M D o (k+1) i j=az M (cO o (k+1)) (M i) j∧sU M D o (k+1) i j=D i*aA M (cO o (k+1)):=fun i j hi hj=>by unfold sT sU;rw [ao ⟨hi,hj⟩,ao ⟨hi,hj⟩];exact ⟨rfl,rfl⟩
 have u5:∀i,k<o.idxOf i→sT M D o (k+1) i p=az M (cO o k) (M i) p*D p∧sU M D o (k+1) i p=D i*aA M (cO o (k+1)):=fun i hi=>by
  unfold sT sU;rw [ah (by lia),ah (by lia),ah (by lia),ah (by lia),ip]
  exact ⟨rfl,rfl⟩
 refine ⟨?_,fun i j _ _=>?_,fun i j _ _=>bd (k+1) i j kn,fun i hi=>?_,fun i hi j hj=>?_,fun i j b8 d5 h=>?_⟩
 ·rw [(tp p (by lia)).1]
  exact k7
 ·unfold sU
  split
  ·exact ei hq (hD i) (dz _ (by lia))
  ·rename_i h1
   split
   ·exact ei hq (hD i) (dz _ (by lia))
   ·exact ei hq (hD i) (dz _ (by lia))
 ·have h1:=(mlt hi).2
  rw [(tk i p (by lia) (by lia)).1,(tk i p (by lia) (by lia)).2,(tp p (by lia)).1,(tp p (by lia)).2,(u5 i h1).1,(u5 i h1).2,u4]
  exact Cg.of_eq (by grind)
 ·have h1:=(mlt hi).2
  have h2:=(mlt hj).2;rw [(tk i j (by lia) (by lia)).1,(tk i j (by lia) (by lia)).2,(tp j (by lia)).1,(tp j (by lia)).2,(u5 i h1).1,(u5 i h1).2,(qv i j (by lia) (by lia)).1,(qv i j (by lia) (by lia)).2]
  have st:=step i j;rw [←u4] at st;generalize az M (cO o k) (M i) j=x at st ⊢;generalize az M (cO o k) (M i) p=y at st ⊢;generalize az M (cO o k) (M p) j=w at st ⊢;generalize az M (cO o (k+1)) (M i) j=x' at st ⊢;generalize aA M (cO o k)=d at st ⊢;generalize aA M (cO o (k+1))=d' at st ⊢;refine Cg.of_eq ?_;have e:(x*(D i*d'*(D p*d))-y*D p*w*(D i*d))*(D i*d')=D i*D p*d*(d'*x-y*w)*(D i*d'):=by grind
  rw [e,st];grind
 ·by_cases h1:k<o.idxOf i∧k<o.idxOf j
  ·rw [(tk i j (by lia) (by lia)).1,(tk i j (by lia) (by lia)).2,(qv i j (by lia) (by lia)).1,(qv i j (by lia) (by lia)).2]
   have st:=step i j;rw [←u4] at st;have z:az M (cO o k) (M i) p*az M (cO o k) (M p) j=0:=by
    rcases h with h | ⟨_,h⟩;·rw [(bG b8 h1.1 h).1,eQ]
    ·rw [(bG d5 h1.2 h).2,gq]
   rw [z,ky] at st;exact Cg.of_eq (by grind)
  ·by_cases h2:k<o.idxOf i∧o.idxOf j=k
   ·have ej:j=p:=y_ fun z=>nS ho d5 hp z (by lia)
    subst ej;have nm:i∉ms:=by
     rcases h with h | ⟨h,_⟩;·exact h
     ·exact absurd rfl h
    rw [(tk i j (by lia) (by lia)).1,(u5 i h2.1).1,(bG b8 h2.1 nm).1]
    exact Cg.of_eq (by simp)
   ·have e:sT M D o (k+1) i j=sT M D o k i j∧sU M D o (k+1) i j=sU M D o k i j:=by
     by_cases h3:o.idxOf i=k∧k≤o.idxOf j
     ·have a1:¬(k+1≤o.idxOf i∧k+1≤o.idxOf j):=by lia
      have a2:o.idxOf i≤o.idxOf j:=by lia
      have a3:k≤o.idxOf i∧k≤o.idxOf j:=by lia
      unfold sT sU;rw [ah a1,ao a2,ao a3,ah a1,ao a2,ao a3,h3.1];exact ⟨rfl,rfl⟩
     ·have a1:¬(k+1≤o.idxOf i∧k+1≤o.idxOf j):=by lia
      have a2:¬(k≤o.idxOf i∧k≤o.idxOf j):=by lia
      unfold sT sU;rw [ah a1,ah a2,ah a1,ah a2];exact ⟨rfl,rfl⟩
    rw [e.1,e.2];exact Cg.refl _
end
end My
namespace L2
open PySem PySem.Spec PyProof.Rows
def u6(K:ay)(a:Addr)(n:Nat):It:=
 ⟨fun i H=>i<n∧∃xs,bC K H a xs∧xs.length=n,fun i H x H'=>H'=H∧∀xs,bC K H a xs→xs[n-1-i]?=some x,fun i H=>n≤i⟩
theorem Oh{P:Program}{w:World}{K:ay}{tg:Expr}(a it:Addr)(n:Nat):Turn P w K tg (u6 K a n) [it] it (fun i h=>i≤n∧h.IsRevIter it a ((n:Int)-1-i)) where
 mem:=by simp
 obj:=fun i h st b hb=>by
  have e:b=it:=by simpa using hb
  subst e;obtain ⟨_,o,e,c,d⟩:=st;exact ⟨o,e,fun v z=>by rw [d] at z;cases z⟩
 keep:=fun i h h' st k=>⟨st.1,by obtain ⟨_,o,e,c,d⟩:=st;exact ⟨o,k it (by simp) o e,c,d⟩⟩
 item:=by
  intro X hP hw hK hc i pins s σ H E I hf st hg;subst hP hw hK;obtain ⟨il,xs,hq,hx⟩:=hg;obtain ⟨ag,rv,p,hz⟩:=I.list hq;have hl:=rv.length;have hi:n-1-i<xs.length:=by lia
  obtain ⟨u,hu,ru⟩:=rv.get (d6 hi);obtain ⟨f0,f1,f2,f3,f4,f5⟩:=hf it (by simp)
  have AF:s.heap.IsRevIter it a ((n-1-i:Nat):Int):=by
   have:=st.2
   rwa [show (n:Int)-1-(i:Int)=((n-1-i:Nat):Int) by lia] at this
  refine wpAny_pyNext_rev_item AF p.isList (x:=u) (by simpa using hu) fun h' gN sb=>?_
  have I1:Inv X pins σ H {s with heap:=h'}:=I.turned (t':=s.toks) (fun b o hb e=>(sb.2 b hb).trans e) f0 f1 f3 f4 f5;obtain ⟨o,e,c,d⟩:=id gN;have df:i+1≤n∧h'.IsRevIter it a ((n:Int)-1-((i+1:Nat):Int)):=⟨by lia,by rwa [show (n:Int)-1-((i+1:Nat):Int)=((n-1-i:Nat):Int)-1 by lia]⟩
  exact ⟨u,rfl,uB (s:={s with heap:=h'}) e c d (by decide) ⟨xs[n-1-i],H,I1,ru,⟨rfl,fun ys hy=>by rw [I.zm hy hq];exact d6 hi⟩,df,fun b hb=>(hf b hb).1⟩⟩
 done:=by
  intro X hP hw hK hc i pins s σ H E I hf st hg;subst hP hw hK;have hg:n≤i:=hg;obtain ⟨f0,f1,f2,f3,f4,f5⟩:=hf it (by simp)
  have AF:s.heap.IsRevIter it a (-1):=by
   have:=st.2
   rwa [show (n:Int)-1-(i:Int)=-1 by have:=st.1;lia] at this
  exact wpAny_pyNext_rev_end (I.ok.hd hc) AF fun h' eb=>⟨rfl,I.turned (t':=s.toks) (fun b o hb e=>eb b o hb e) f0 f1 f3 f4 f5⟩
 self:=fun _ _ _ _ _ st h=>wpAny_pyIter_revIter st.2 h
section
variable {X:Cx} {tg:Expr}
def Oi(K:ay)(ta:TA):TI:=fun σ H R=>ta σ H fun vs H1=>∃(l:Addr) (xs:List V),vs=[.ref l]∧bC K H1 l xs∧R (u6 K l xs.length) H1
theorem Oj{a:Expr}{ta:TA}{p pos:Pos}(hg:Gl X "reversed")(hm:X.mg "reversed"=none)(ha:PA X [a] ta)(hs:starEach [a] X.env=[(false,eval a X.env)]:=by rfl):PI X tg (.Call (.Name "reversed" p) [a] [] pos) (Oi X.K ta):=by
 intro pins s σ H R I h;refine Call_ (mW I hg hm boot_reversed (t6 (aE (ha pos pins s σ H _ I h) fun us s1 ⟨vs,H1,I1,r1,q1⟩=>?_) hs rfl));obtain ⟨l,xs,e,hq,q⟩:=q1;subst e;cases r1 with
 | cons r rr=>
  cases rr;cases r;obtain ⟨ag,rv,pl,hz⟩:=I1.list hq;have hl:=rv.length;refine call_reversed_list pl.isList ?_;refine wpAny_pyIter_revIter (i:=(ag.toArray.size:Int)-1) ⟨_,dS _ rfl,rfl,rfl⟩ ?_;refine ⟨s1.heap.objs.size,[s1.heap.objs.size],_,_,H1,rfl,I1.kept (t':=s1.toks) fun b o e=>bT _ e,Oh l _ xs.length,⟨cu _,_,dS _ rfl,rfl,?_⟩,fun b hb=>?_,q⟩
  ·rw [hl,cW,show ((ag.length:Int)-1-((0:Nat):Int))=(ag.length:Int)-1 by lia]
   rfl
  ·have e:b=s1.heap.objs.size:=by simpa using hb
   subst e;exact I1.qg (aD _) (I1.aw.fresh (aD _))
theorem Ol{K:ay}{a:Addr}{xs:List V}{g:TG}{tb:TS}{D:Ends}{σ:St}{H:Hp}(Pv:Nat→St→Hp→Prop)(h0:Pv 0 σ H)(hl:∀i σ H,i≤xs.length→Pv i σ H→bC K H a xs)
  (hs:∀i x σ H,i<xs.length→xs[xs.length-1-i]?=some x→Pv i σ H→g x σ H fun σ2 H2=>tb {D with nx:=Pv (i+1),ct:=Pv (i+1),bk:=D.nx} σ2 H2) (hd:∀σ H,Pv xs.length σ H→D.nx σ H) :
  ∃W:Nat→Nat→St→Hp→Prop,(∃m,W 0 m σ H)∧∀i m σ H,W i m σ H→
   ((u6 K a xs.length).stop i H∧D.nx σ H)∨((u6 K a xs.length).go i H∧∃N:St→Hp→Prop,(∀σ' H',N σ' H'→∃m',m'<m∧W (i+1) m' σ' H')∧∀x H',(u6 K a xs.length).dX i H x H'→g x σ H' fun σ2 H2=>tb {D with nx:=N,ct:=N,bk:=D.nx} σ2 H2):=by
 refine ⟨fun i m σ H=>m=xs.length-i∧i≤xs.length∧Pv i σ H,⟨xs.length,by simp,cu _,h0⟩,?_⟩
 rintro i m σ H ⟨rfl,hi,p⟩;have q1:=hl i σ H hi p;by_cases bO:i<xs.length
 ·refine .inr ⟨⟨bO,xs,q1,rfl⟩,Pv (i+1),fun σ' H' p'=>⟨xs.length-(i+1),by lia,rfl,bO,p'⟩,fun v H' hy=>?_⟩
  obtain ⟨rfl,hy⟩:=hy;exact hs i v σ H' bO (hy xs q1) p
 ·have e:i=xs.length:=by lia
  subst e;exact .inl ⟨aD _,hd σ H p⟩
end
end L2
namespace My
open PySem L2
structure u7 (q:Int) (n X:Nat) (ai:fS) (o:List Nat) (M:aF) (D:Nat→Int):Prop where
 k9:∀i j,i<n→j<n→q∣(atT ai i j).1*D i-M i j*(atT ai i j).2
 dn:∀i,¬q∣D i
 zero:∀i j,i<n→j<n→(atT ai i j).1=0→M i j=0
 bd:∀k i j,k≤n→(sT M D o k i j).natAbs≤X∧(sU M D o k i j).natAbs≤X
 X1:1000≤X
 fz:X≤10 ^ 100
structure AG (H0 H:Hp) (q:Int) (n X:Nat) (L:cy) (o:List Nat) (M:aF) (D:Nat→Int) (k:Nat) (wk ot:Addr) (rs:Nat→Addr) (vf:Nat→Nat→V) (ls:Nat→Addr) (g:Nat→List Nat):Prop where
 tab:WTab H wk n rs vf
 new:H0 wk=none∧∀i,i<n→H0 (rs i)=none
 k9:c_ X H q n vf (sT M D o k) (sU M D o k)
 dQ:qK H ot n ls g
 ok:∀p,p<n→e9 n o p (g p)∧eM n L o p (g p)
 sep:(∀i,i<n→ot≠rs i∧∀j,j<n→ls j≠rs i)
def Om(C N:Addr):Sp:=fun vs H Q _=>∃(z a d:Addr) (q:Int) (B X n:Nat) (ai:fS) (o:List Nat) (M:aF) (D:Nat→Int),vs=[.ref z,.ref a,.ref d]∧cZ C H z q∧a7 q∧iA B H q a ai∧B≤10 ^ 100∧ai.length=n∧1≤n∧n≤40∧(∀ps∈ai,ps.length=n)∧H d=some (.lst (bS o))∧o.Perm (List.range n)∧u7 q n X ai o M D ∧
 (∀(k:Nat) (hk:k<o.length),bZ q M (cO o k)→q∣az M (cO o k) (M o[k]) o[k]→∀(tp wk ot:Addr) (H':Hp) (rs ls:Nat→Addr) (vf:Nat→Nat→V) (g:Nat→List Nat),ae H H'→H' tp=some (.tup [.ref wk,.ref ot,.int ((k:Int)+1)])→AG H H' q n X (cL n (bN ai) n) o M D k wk ot rs vf ls g→Q (.ref tp) H') ∧
 (bZ q M (cO o n)→∀(tp wk ot:Addr) (H':Hp) (rs ls:Nat→Addr) (vf:Nat→Nat→V) (g:Nat→List Nat),ae H H'→H' tp=some (.tup [.ref wk,.ref ot,.aH])→AG H H' q n X (cL n (bN ai) n) o M D n wk ot rs vf ls g→Q (.ref tp) H')
section
variable {H:Hp} {q:Int} {a:Addr} {B n:Nat} {ai:fS}
theorem Oo(h:iA B H q a ai)(l:ai.length=n)(w:∀ps∈ai,ps.length=n):∃(ra:Nat→Addr) (vf:Nat→Nat→V),H a=some (.lst ((List.range n).map fun i=>V.ref (ra i)))∧(∀i,i<n→H (ra i)=some (.lst ((List.range n).map (vf i))))∧∀i j,i<n→j<n→bE B H q (vf i j) (atT ai i j).1 (atT ai i j).2:=by
 obtain ⟨vs,ea,lv,f⟩:=h;have row:∀i,i<n→∃(r:Addr) (us:List V),vs[i]?=some (.ref r)∧H r=some (.lst us)∧us.length=n∧∀j,j<n→bE B H q (us.getD j .aH) (atT ai i j).1 (atT ai i j).2:=fun i hi=>by
  have hv:i<vs.length:=by lia
  have hp:i<ai.length:=by lia
  obtain ⟨r,er,us,eu,lu,fu⟩:=f i vs[i] ai[i] (d6 hv) (d6 hp);have lw:=w _ (gk hp);refine ⟨r,us,by rw [d6 hv,er],eu,by lia,fun j hj=>?_⟩
  have hu:j<us.length:=by lia
  have hr:j<(ai[i]).length:=by lia
  have:=fu j us[j] ai[i][j] (d6 hu) (d6 hr);unfold atT;rw [getD_at hp,getD_at hr,getD_at hu];exact this
 refine ⟨fun i=>if h:i<n then (row i h).choose else 0,fun i j=>if h:i<n then (row i h).choose_spec.choose.getD j .aH else .aH,?_,fun i hi=>?_,fun i j hi hj=>?_⟩
 ·rw [ea]
  congr 2
  refine fF (by simp;lia) fun i h1 h2=>?_
  have hi:i<n:=by simpa using h2
  have e:some vs[i]=some (V.ref (row i hi).choose):=(d6 h1).symm.trans (row i hi).choose_spec.choose_spec.1;rw [Option.some.inj e];simp [hi]
 ·simp only [gr hi]
  have e:=(row i hi).choose_spec.choose_spec;refine e.2.1.trans ?_
  congr 2
  refine fF (by rw [a8,dH];exact e.2.2.1) fun j h1 h2=>?_
  rw [fR,gJ,getD_at h1]
 ·simp only [gr hi]
  exact (row i hi).choose_spec.choose_spec.2.2.2 j hj
theorem qP{X:Nat}{v:V}{x m t u:Int}(h:bE B H q v x m)(d:q∣x*u-t*m)(nu:¬q∣u)(bt:t.natAbs≤X)(bu:u.natAbs≤X):aK X H q v t u:=aK.bd (B:=B) ⟨x,m,h,d,nu⟩ bt bu
end
variable {n:Nat}
theorem Oq{f:Nat→Nat→Bool}:∀z∈cL n f n,0≤z.1∧z.1<z.2∧z.2<(n:Int):=fun z hz=>by obtain ⟨i,j,_,h2,h3,h4,rfl⟩:=mem_of hz;dsimp only;lia
variable {a b:Nat}
theorem Fg{ai:fS}(ha:a<n)(hb:b<n)(ab:a≠b)(h:¬aL n (cL n (bN ai) n) a b):(atT ai a b).1=0:=y_ fun z=>h ⟨ha,hb,by
 have t1:jr ai a b=true:=by unfold jr;unfold atT at z;simpa using z
 rcases Nat.lt_or_gt_of_ne ab with l | l;·exact .inl (uY l hb (by unfold bN;rw [t1];rfl) (by lia))
 ·exact .inr (uY l ha (by unfold bN;rw [t1,Bool.or_true]) (by lia))⟩
variable {H:Hp} {q:Int}
theorem Ot{B B':Nat}{v:V}{x m x' m':Int}(h:bE B H q v x m)(g:bE B' H q v x' m'):x=x'∧m=m':=by
 cases h with
 | bK e l=>
  cases g with
  | bK e' l'=>rw [e] at e';cases e';exact ⟨rfl,rfl⟩
 | rem=>cases g;exact ⟨rfl,rfl⟩
def sL(M:aF)(o:List Nat)(n k i:Nat):Int:=az M (cO o (min k (o.idxOf i))) (M i) n
def sW(M:aF)(D:Nat→Int)(o:List Nat)(k i:Nat):Int:=D i*aA M (cO o (min k (o.idxOf i)))
def b_(H:Hp)(e:Addr)(n:Nat)(av:Nat→V):Prop:=H e=some (.lst ((List.range n).map av))
def Ou(C:Addr):Sp:=fun vs H Q _=>∃(z wk ot d e:Addr) (q:Int) (X n:Nat) (L:cy) (o:List Nat) (M:aF) (D:Nat→Int) (rs ls:Nat→Addr) (vf:Nat→Nat→V) (g:Nat→List Nat) (av:Nat→V),vs=[.ref z,.ref wk,.ref ot,.ref d,.ref e]∧cZ C H z q∧a7 q∧1≤n∧n≤40∧WTab H wk n rs vf∧c_ X H q n vf (sT M D o n) (sU M D o n)∧qK H ot n ls g∧(∀p,p<n→e9 n o p (g p)∧eM n L o p (g p))∧H d=some (.lst (bS o))∧o.Perm (List.range n)∧b_ H e n av∧(∀i,i<n→aK X H q (av i) (M i n) (D i)) ∧
 bZ q M (cO o n)∧(∀i,¬q∣D i)∧(∀a b,a<n→b<n→a≠b→¬aL n L a b→M a b=0)∧1000≤X∧X≤10 ^ 100∧(∀k i j,k≤n→(sT M D o k i j).natAbs≤X∧(sU M D o k i j).natAbs≤X)∧(∀k i,k≤n→(sL M o n k i).natAbs≤X∧(sW M D o k i).natAbs≤X) ∧
 ∀(r:Addr) (lv:Nat→V) (H':Hp),ae H H'→H r=none→b_ H' r n lv→(∀i,i<n→aK X H' q (lv i) (sL M o n n i) (sW M D o n i))→Q (.ref r) H'
theorem Ov{M:aF}{D:Nat→Int}{o:List Nat}{k p:Nat}{L:cy}{ms:List Nat}(hq:a7 q)(ho:o.Perm (List.range n))(hp:p<n)(ip:o.idxOf p=k)(gn:bZ q M (cO o n))
  (zero:∀a b,a<n→b<n→a≠b→¬aL n L a b→M a b=0) (dQ:eM n L o p ms) :
  (∀i∈ms,Cg q ((sL M o n k i*(sU M D o n i p*sW M D o k p)-sT M D o n i p*sL M o n k p*sW M D o k i)*sW M D o (k+1) i) (sL M o n (k+1) i*(sW M D o k i*(sU M D o n i p*sW M D o k p)))) ∧
  ∀i,i<n→i∉ms→Cg q (sL M o n k i*sW M D o (k+1) i) (sL M o n (k+1) i*sW M D o k i):=by
 have lo:=eL ho;have kl:k<o.length:=by rw [←ip];exact (cS ((bW ho).mpr hp)).1
 have pk:o[k]=p:=by have:=(cS ((bW ho).mpr hp)).2;simp only [ip] at this;exact this
 have cs:cO o (k+1)=p::cO o k:=by rw [jv kl,pk]
 have g:=gF gn (show k≤n by lia)
 have u4:aA M (cO o (k+1))=az M (cO o k) (M p) p:=by rw [cs];rfl
 have step:∀i j,aA M (cO o (k+1))*az M (cO o k) (M i) j-az M (cO o k) (M i) p*az M (cO o k) (M p) j=aA M (cO o k)*az M (cO o (k+1)) (M i) j:=fun i j=>by rw [u4,cs];exact qM hq g p (M i) j
 have lp:sL M o n k p=az M (cO o k) (M p) n∧sW M D o k p=D p*aA M (cO o k):=by unfold sL sW;rw [ip,Nat.min_self];exact ⟨rfl,rfl⟩
 have lk:∀i,k<o.idxOf i→sL M o n k i=az M (cO o k) (M i) n∧sW M D o k i=D i*aA M (cO o k)∧sL M o n (k+1) i=az M (cO o (k+1)) (M i) n∧sW M D o (k+1) i=D i*aA M (cO o (k+1)):=fun i h=>by
  unfold sL sW;rw [Nat.min_eq_left (by lia),Nat.min_eq_left (by lia)]
  exact ⟨rfl,rfl,rfl,rfl⟩
 have tl:∀i,i<n→k<o.idxOf i→sT M D o n i p=az M (cO o k) (M i) p*D p∧sU M D o n i p=D i*aA M (cO o (k+1)):=fun i hi h=>by
  have h1:¬(n≤o.idxOf i∧n≤o.idxOf p):=by lia
  have h2:¬o.idxOf i≤o.idxOf p:=by lia
  unfold sT sU;rw [ah h1,ah h2,ah h1,ah h2,ip];exact ⟨rfl,rfl⟩
 refine ⟨fun i hi=>?_,fun i hi nm=>?_⟩
 ·have hl:=(dQ i).mp hi
  rw [ip] at hl;obtain ⟨a1,a2,a3,a4⟩:=lk i hl.2.1;rw [a1,a2,a3,a4,(tl i hl.1 hl.2.1).1,(tl i hl.1 hl.2.1).2,lp.1,lp.2];have st:=step i n;generalize az M (cO o k) (M i) n=x at st ⊢;generalize az M (cO o k) (M i) p=y at st ⊢;generalize az M (cO o k) (M p) n=w at st ⊢;generalize az M (cO o (k+1)) (M i) n=x' at st ⊢;generalize aA M (cO o k)=d at st ⊢;generalize aA M (cO o (k+1))=d' at st ⊢;refine Cg.of_eq ?_;have e:(x*(D i*d'*(D p*d))-y*D p*w*(D i*d))*(D i*d')=D i*D p*d*(d'*x-y*w)*(D i*d'):=by grind
  rw [e,st];grind
 ·by_cases h:k<o.idxOf i
  ·obtain ⟨a1,a2,a3,a4⟩:=lk i h
   rw [a1,a2,a3,a4];have nc:i∉cO o k:=fun z=>by have:=((cN ho).mp z).2;lia
   have pc:p∉cO o k:=fun z=>by have:=((cN ho).mp z).2;lia
   have ne:i≠p:=fun z=>by rw [z] at h;lia
   have z:az M (cO o k) (M i) p=0:=mf hq zero g (fun c hc=>((cN ho).mp hc).1) i p hi hp nc pc ne fun w=>nm ((dQ i).mpr ⟨hi,by lia,by rw [ip];exact (w.symm w9).mono fun x hx=>(cN ho).mp hx⟩)
   have st:=step i n;rw [z,eQ,ky] at st;exact Cg.of_eq (by grind)
  ·have e:sL M o n (k+1) i=sL M o n k i∧sW M D o (k+1) i=sW M D o k i:=by
    unfold sL sW;rw [Nat.min_eq_right (by lia),Nat.min_eq_right (by lia)]
    exact ⟨rfl,rfl⟩
   rw [e.1,e.2];exact Cg.refl _
structure AH (q:Int) (X n:Nat) (T U:aF) (g:Nat→List Nat) (ps:List Nat) (A B x y:Nat→Int) (S R:aF):Prop where
 s0:∀p∈ps,Cg q (A p*R p 0) (S p 0*B p)
 Ow:∀p∈ps,∀l j,(g p)[l]?=some j→Cg q ((S p l*(U p j*y j)-T p j*x j*R p l)*R p (l+1)) (S p (l+1)*(R p l*(U p j*y j)))
 fin:∀p∈ps,Cg q (S p (g p).length*U p p*y p) (x p*(R p (g p).length*T p p))
 AI:∀p∈ps,∀l,¬q∣R p l
 AJ:∀p,¬q∣y p
 k7:∀p∈ps,¬q∣T p p
 bd:(∀p∈ps,∀l,l≤(g p).length→(S p l).natAbs≤X∧(R p l).natAbs≤X)∧∀p,(x p).natAbs≤X∧(y p).natAbs≤X
 u3:∀p,p<n→p∉ps→A p=x p∧B p=y p
def Ox(C:Addr):Sp:=fun vs H Q _=>∃(z wk ot d e:Addr) (q:Int) (X n:Nat) (ps:List Nat) (T U:aF) (rs ls:Nat→Addr) (vf:Nat→Nat→V) (g:Nat→List Nat) (av:Nat→V) (A B x y:Nat→Int) (S R:aF),vs=[.ref z,.ref wk,.ref ot,.ref d,.ref e]∧cZ C H z q∧a7 q∧n≤40∧WTab H wk n rs vf∧c_ X H q n vf T U∧(∀i j,i<n→j<n→(T i j).natAbs≤X∧(U i j).natAbs≤X)∧qK H ot n ls g∧H d=some (.lst (bS ps))∧ps.Nodup∧(∀p∈ps,p<n∧(∀j∈g p,j<n∧j≠p))∧(∀k p,ps[k]?=some p→∀j∈g p,j∉ps.take (k+1))∧b_ H e n av∧(∀i,i<n→aK X H q (av i) (A i) (B i))∧1000≤X∧X≤10 ^ 100∧AH q X n T U g ps A B x y S R ∧
 ∀(r:Addr) (lv:Nat→V) (H':Hp),ae H H'→H r=none→b_ H' r n lv→(∀i,i<n→aK X H' q (lv i) (x i) (y i))→Q (.ref r) H'
theorem Oy{l l':List Int}(p:l.Perm l'):l.sum=l'.sum:=by
 induction p with
 | nil=>rfl
 | cons x _ ih=>rw [da,da,ih]
 | swap x y l=>rw [da,da,da,da];lia
 | trans _ _ a b=>exact a.trans b
theorem u9{F:Nat→Int}{p:Nat}:∀{C l:List Nat},C.Nodup→l.Nodup→(∀c∈l,c∈C)→(∀c∈C,c∉l→F c=0)→(C.map F).sum=(l.map F).sum
 | [],l,_,_,sub,_=>by
  cases l with
  | nil=>rfl
  | cons x r=>exact absurd (sub x (gg ..)) (by simp)
 | c::C,l,nd,nl,sub,z=>by
  rw [jD] at nd;by_cases h:c∈l
  ·have pm:=List.perm_cons_erase h
   have e:(l.map F).sum=F c+((l.erase c).map F).sum:=by rw [Oy (pm.map F),cQ,da]
   rw [cQ,da,e,u9 (p:=p) (l:=l.erase c) nd.2 (nl.erase c) (fun x hx=>?_) fun x hx nx=>?_]
   ·have:=sub x (List.mem_of_mem_erase hx)
    rcases cp.mp this with rfl | h2;·exact absurd hx (List.Nodup.not_mem_erase nl)
    ·exact h2
   ·refine z x (fO _ hx) fun hl=>nx ?_
    exact (List.mem_erase_of_ne (fun e:x=c=>nd.1 (e▸hx))).mpr hl
  ·rw [cQ,da,z c (gg ..) h,uh]
   exact u9 (p:=p) nd.2 nl (fun x hx=>(cp.mp (sub x hx)).resolve_left fun e=>h (e▸hx)) fun x hx nx=>z x (fO _ hx) nx
section
variable {q:Int} {M:aF} {D:Nat→Int} {o:List Nat} {n:Nat} {L:cy} {g:Nat→List Nat}
def rS(M:aF)(o:List Nat)(g:Nat→List Nat)(C:List Nat)(m:Nat)(a:Nat→Int)(p l:Nat):Int:=az M (cO o (o.idxOf p)) (M p) m*a p-(((g p).take l).map fun j=>az M (cO o (o.idxOf p)) (M p) j*dO M C m j).sum
theorem Oz(hq:a7 q)(ho:o.Perm (List.range n))(gd:bZ q M (cO o n))(zero:∀a b,a<n→b<n→a≠b→¬aL n L a b→M a b=0){p:Nat}(hp:p<n)(cR:e9 n o p (g p)∧eM n L o p (g p)){m:Nat}(hm:m∉cO o n) :
  az M (cO o (o.idxOf p)) (M p) p*dO M (cO o n) m p+((g p).map fun j=>az M (cO o (o.idxOf p)) (M p) j*dO M (cO o n) m j).sum=aA M (cO o n)*az M (cO o (o.idxOf p)) (M p) m:=by
 have lo:=eL ho;have kl:=(cS ((bW ho).mpr hp)).1;have nd:(cO o n).Nodup:=by
  unfold cO;rw [uo (by lia)]
  exact (List.reverse_perm _).nodup_iff.mpr (iB ho)
 have mem:∀c,c∈cO o n↔c<n:=fun c=>by rw [cN ho];exact ⟨fun h=>h.1,fun h=>⟨h,by have:=(cS ((bW ho).mpr h)).1;lia⟩⟩
 have sub:∀r∈cO o (o.idxOf p),r∈cO o n:=fun r hr=>(mem r).mpr ((cN ho).mp hr).1;have AK:(g p).Nodup:=cR.1.up.imp (fun h=>cP h);have pg:p∉g p:=fun zz=>by have:=cR.1.la p zz;lia
 rw [←E7 hq gd nd hm sub ((mem p).mpr hp),u9 (p:=p) (l:=p::g p) nd (jD.mpr ⟨pg,AK⟩) (fun c hc=>?_) fun c hc nc=>?_,cQ,da]
 ·rcases cp.mp hc with rfl | hc
  ·exact (mem _).mpr hp
  ·exact (mem _).mpr (cR.1.lt c hc)
 ·rw [cp,not_or] at nc
  have cn:=(mem c).mp hc;by_cases h:c∈cO o (o.idxOf p);·rw [w_ h,eQ]
  ·have ci:o.idxOf p<o.idxOf c:=by have h1:¬o.idxOf c<o.idxOf p:=fun z=>h ((cN ho).mpr ⟨cn,z⟩);have h2:=nS ho cn hp nc.1;lia
   have pc:p∉cO o (o.idxOf p):=fun z=>by have:=((cN ho).mp z).2;lia
   rw [mf hq zero (gF gd (by lia)) (fun c hc=>((cN ho).mp hc).1) p c hp cn pc h (Ne.symm nc.1) fun w=>nc.2 ((cR.2 c).mpr ⟨cn,ci,w.mono fun x hx=>(cN ho).mp hx⟩),eQ]
theorem OA{X:Nat}(hq:a7 q)(ho:o.Perm (List.range n))(gd:bZ q M (cO o n))(hD:∀i,¬q∣D i)(zero:∀a b,a<n→b<n→a≠b→¬aL n L a b→M a b=0)(cR:∀p,p<n→e9 n o p (g p)∧eM n L o p (g p))
  (b1:∀p l,p<n→l≤(g p).length→(rS M o g (cO o n) n (fun _=>aA M (cO o n)) p l).natAbs≤X∧(D p*aA M (cO o (o.idxOf p))*aA M (cO o n)).natAbs≤X) (b2:∀p,(dO M (cO o n) n p).natAbs≤X∧(aA M (cO o n)).natAbs≤X) :
  AH q X n (sT M D o n) (sU M D o n) g o (sL M o n n) (sW M D o n) (dO M (cO o n) n) (fun _=>aA M (cO o n)) (rS M o g (cO o n) n fun _=>aA M (cO o n)) (fun p _=>D p*aA M (cO o (o.idxOf p))*aA M (cO o n)):=by
 have lo:=eL ho;have lt:∀{p},p∈o→p<n∧o.idxOf p<n:=fun{p} hp=>⟨(bW ho).mp hp,by have:=(cS hp).1;lia⟩
 have up:∀{p},p∈o→∀j,o.idxOf p≤o.idxOf j→sT M D o n p j=az M (cO o (o.idxOf p)) (M p) j∧sU M D o n p j=D p*aA M (cO o (o.idxOf p)):=fun{p} hp j h=>by
  have h1:¬(n≤o.idxOf p∧n≤o.idxOf j):=by have:=(lt hp).2;lia
  unfold sT sU;rw [ah h1,ao h,ah h1,ao h];exact ⟨rfl,rfl⟩
 have dz:∀j,j≤n→¬q∣aA M (cO o j):=fun j hj=>ju hq (gF gd hj);have lw:∀{p},p∈o→sL M o n n p=az M (cO o (o.idxOf p)) (M p) n∧sW M D o n p=D p*aA M (cO o (o.idxOf p)):=fun{p} hp=>by
  have:=(lt hp).2;unfold sL sW;rw [Nat.min_eq_right (by lia)]
  exact ⟨rfl,rfl⟩
 have OB:n∉cO o n:=fun z=>by have:=((cN ho).mp z).1;lia
 refine ⟨fun p hp=>?_,fun p hp l j hj=>?_,fun p hp=>?_,fun p hp l=>?_,fun p=>dz n (aD _),fun p hp=>?_,⟨fun p hp l hl=>b1 p l (lt hp).1 hl,b2⟩,fun p hp h=>absurd ((bW ho).mpr hp) h⟩
 ·rw [(lw hp).1,(lw hp).2]
  refine Cg.of_eq ?_;unfold rS;simp;grind
 ·have jm:=g7 hj
  have jl:=(cR p (lt hp).1).1.la j jm;rw [(up hp j (by lia)).1,(up hp j (by lia)).2]
  unfold rS;rw [take_snoc hj,uj,List.sum_append,List.map_singleton,List.sum_singleton];exact Cg.of_eq (by grind)
 ·rw [(up hp p (aD _)).1,(up hp p (aD _)).2]
  have OC:=Oz hq ho gd zero (lt hp).1 (cR p (lt hp).1) OB;unfold rS;rw [jF];exact Cg.of_eq (by grind)
 ·exact ei hq (ei hq (hD p) (dz _ (by have:=(lt hp).2;lia))) (dz n (aD _))
 ·rw [(up hp p (aD _)).1]
  have:=dz (o.idxOf p+1) (by have:=(lt hp).2;lia)
  have kl:=(cS hp).1
  rwa [jv kl,(cS hp).2] at this
end
section
variable {q:Int} {M:aF} {D:Nat→Int} {o:List Nat} {n:Nat} {L:cy} {g:Nat→List Nat}
def dr(M:aF)(o:List Nat)(k t c:Nat):Int:=if c=t then aA M (cO o k) else if o.idxOf c<k then -dO M (cO o k) t c else 0
def mS(M:aF)(o:List Nat)(g:Nat→List Nat)(k t p l:Nat):Int:=-(((g p).take l).map fun j=>az M (cO o (o.idxOf p)) (M p) j*dr M o k t j).sum
variable {k t:Nat}
theorem OD(hq:a7 q)(ho:o.Perm (List.range n))(ht:t<n)(it:o.idxOf t=k)(gd:bZ q M (cO o k))(zero:∀a b,a<n→b<n→a≠b→¬aL n L a b→M a b=0){p:Nat}(hp:p<n)(pk:o.idxOf p<k)(cR:e9 n o p (g p)∧eM n L o p (g p)) :
  az M (cO o (o.idxOf p)) (M p) p*dr M o k t p+((g p).map fun j=>az M (cO o (o.idxOf p)) (M p) j*dr M o k t j).sum=0:=by
 have lo:=eL ho;have all:∀c,c∈List.range n↔c<n:=fun c=>fD;have Fh:(cO o k).Nodup:=by unfold cO;exact (List.reverse_perm _).nodup_iff.mpr ((vK k o).nodup (iB ho))
 have tC:t∉cO o k:=fun z=>by have:=((cN ho).mp z).2;lia
 have AK:(g p).Nodup:=cR.1.up.imp (fun h=>cP h);have pg:p∉g p:=fun zz=>by have:=cR.1.la p zz;lia
 have e1:((List.range n).map fun c=>az M (cO o (o.idxOf p)) (M p) c*dr M o k t c).sum=((p::g p).map fun c=>az M (cO o (o.idxOf p)) (M p) c*dr M o k t c).sum:=u9 (p:=p) List.nodup_range (jD.mpr ⟨pg,AK⟩) (fun c hc=>(all c).mpr (by
   rcases cp.mp hc with rfl | hc;·exact hp
   ·exact cR.1.lt c hc)) fun c hc nc=>by
  rw [cp,not_or] at nc;have cn:=(all c).mp hc;by_cases h:c∈cO o (o.idxOf p);·rw [w_ h,eQ]
  ·have ci:o.idxOf p<o.idxOf c:=by have h1:¬o.idxOf c<o.idxOf p:=fun z=>h ((cN ho).mpr ⟨cn,z⟩);have h2:=nS ho cn hp nc.1;lia
   have pc:p∉cO o (o.idxOf p):=fun z=>by have:=((cN ho).mp z).2;lia
   rw [mf hq zero (gF gd (by lia)) (fun c hc=>((cN ho).mp hc).1) p c hp cn pc h (Ne.symm nc.1) fun w=>nc.2 ((cR.2 c).mpr ⟨cn,ci,w.mono fun x hx=>(cN ho).mp hx⟩),eQ]
 have e2:((List.range n).map fun c=>az M (cO o (o.idxOf p)) (M p) c*dr M o k t c).sum=((t::cO o k).map fun c=>az M (cO o (o.idxOf p)) (M p) c*dr M o k t c).sum:=u9 (p:=p) List.nodup_range (jD.mpr ⟨tC,Fh⟩) (fun c hc=>(all c).mpr (by
   rcases cp.mp hc with rfl | hc;·exact ht
   ·exact ((cN ho).mp hc).1)) fun c hc nc=>by
  rw [cp,not_or] at nc;have cn:=(all c).mp hc;have:¬o.idxOf c<k:=fun z=>nc.2 ((cN ho).mpr ⟨cn,z⟩);unfold dr;rw [ah nc.1,ah this,gq]
 rw [←da,←cQ (f:=fun j=>az M (cO o (o.idxOf p)) (M p) j*dr M o k t j),←e1,e2,cQ,da];have e3:((cO o k).map fun c=>az M (cO o (o.idxOf p)) (M p) c*dr M o k t c).sum=-((cO o k).map fun c=>az M (cO o (o.idxOf p)) (M p) c*dO M (cO o k) t c).sum:=by
  have:((cO o k).map fun c=>az M (cO o (o.idxOf p)) (M p) c*dr M o k t c)=(cO o k).map fun c=>-1*(az M (cO o (o.idxOf p)) (M p) c*dO M (cO o k) t c):=iM fun c hc=>by have h1:c≠t:=fun z=>tC (z▸hc);unfold dr;rw [ah h1,ao ((cN ho).mp hc).2];grind
  rw [this,xb];lia
 rw [e3,E7 hq gd Fh tC (fun r hr=>(cN ho).mpr ⟨((cN ho).mp hr).1,by have:=((cN ho).mp hr).2;lia⟩) ((cN ho).mpr ⟨hp,pk⟩)]
 unfold dr;rw [ao rfl];grind
theorem OE{X:Nat}(hq:a7 q)(ho:o.Perm (List.range n))(ht:t<n)(it:o.idxOf t=k)(gd:bZ q M (cO o k))(hD:∀i,¬q∣D i)(zero:∀a b,a<n→b<n→a≠b→¬aL n L a b→M a b=0)(cR:∀p,p<n→e9 n o p (g p)∧eM n L o p (g p))
  (b1:∀p l,p<n→l≤(g p).length→(mS M o g k t p l).natAbs≤X∧(D p*aA M (cO o (o.idxOf p))*aA M (cO o k)).natAbs≤X) (b2:∀p,(dr M o k t p).natAbs≤X∧(aA M (cO o k)).natAbs≤X) :
  AH q X n (sT M D o k) (sU M D o k) g (o.take k) (fun i=>if i=t then aA M (cO o k) else 0) (fun _=>aA M (cO o k)) (dr M o k t) (fun _=>aA M (cO o k)) (mS M o g k t) (fun p _=>D p*aA M (cO o (o.idxOf p))*aA M (cO o k)):=by
 have lo:=eL ho;have lt:∀{p},p∈o.take k→p<n∧o.idxOf p<k:=fun{p} hp=>(qO ho).mp hp;have up:∀{p},p∈o.take k→∀j,o.idxOf p≤o.idxOf j→sT M D o k p j=az M (cO o (o.idxOf p)) (M p) j∧sU M D o k p j=D p*aA M (cO o (o.idxOf p)):=fun{p} hp j h=>by
  have h1:¬(k≤o.idxOf p∧k≤o.idxOf j):=by have:=(lt hp).2;lia
  unfold sT sU;rw [ah h1,ao h,ah h1,ao h];exact ⟨rfl,rfl⟩
 have dz:∀j,j≤k→¬q∣aA M (cO o j):=fun j hj=>ju hq (gF gd hj);refine ⟨fun p hp=>?_,fun p hp l j hj=>?_,fun p hp=>?_,fun p hp l=>?_,fun p=>dz k (aD _),fun p hp=>?_,⟨fun p hp l hl=>b1 p l (lt hp).1 hl,b2⟩,fun p hp h=>⟨?_,rfl⟩⟩
 ·have:p≠t:=fun z=>by have:=(lt hp).2;rw [z] at this;lia
  unfold mS;simp [this];exact Cg.refl _
 ·have jm:=g7 hj
  have jl:=(cR p (lt hp).1).1.la j jm;rw [(up hp j (by lia)).1,(up hp j (by lia)).2]
  unfold mS;rw [take_snoc hj,uj,List.sum_append,List.map_singleton,List.sum_singleton];exact Cg.of_eq (by grind)
 ·rw [(up hp p (aD _)).1,(up hp p (aD _)).2]
  have OC:=OD (M:=M) hq ho ht it gd zero (lt hp).1 (lt hp).2 (cR p (lt hp).1);unfold mS;rw [jF];exact Cg.of_eq (by grind)
 ·exact ei hq (ei hq (hD p) (dz _ (by have:=(lt hp).2;lia))) (dz k (aD _))
 ·rw [(up hp p (aD _)).1]
  have:=dz (o.idxOf p+1) (by have:=(lt hp).2;lia)
  have pm:p∈o:=List.mem_of_mem_take hp;have kl:=(cS pm).1
  rwa [jv kl,(cS pm).2] at this
 ·have:¬o.idxOf p<k:=fun z=>h ((qO ho).mpr ⟨hp,z⟩)
  unfold dr;by_cases e:p=t;·rw [ao e,ao e]
  ·rw [ah e,ah e,ah this]
end
def OF(C:Addr):Sp:=fun vs H Q _=>∃(z wk ot d:Addr) (q:Int) (X n k t:Nat) (L:cy) (o:List Nat) (M:aF) (D:Nat→Int) (rs ls:Nat→Addr) (vf:Nat→Nat→V) (g:Nat→List Nat),vs=[.ref z,.ref wk,.ref ot,.ref d,.int ((k:Int)+1)]∧cZ C H z q∧a7 q∧n≤40∧WTab H wk n rs vf∧c_ X H q n vf (sT M D o k) (sU M D o k)∧qK H ot n ls g∧(∀p,p<n→e9 n o p (g p)∧eM n L o p (g p))∧H d=some (.lst (bS o))∧o.Perm (List.range n)∧t<n∧o.idxOf t=k∧bZ q M (cO o k)∧(∀i,¬q∣D i)∧(∀a b,a<n→b<n→a≠b→¬aL n L a b→M a b=0)∧1000≤X∧X≤10 ^ 100∧(∀k i j,k≤n→(sT M D o k i j).natAbs≤X∧(sU M D o k i j).natAbs≤X) ∧
 (∀p l,p<n→l≤(g p).length→(mS M o g k t p l).natAbs≤X∧(D p*aA M (cO o (o.idxOf p))*aA M (cO o k)).natAbs≤X)∧(∀p,(dr M o k t p).natAbs≤X∧(aA M (cO o k)).natAbs≤X) ∧
 ∀(r:Addr) (lv:Nat→V) (H':Hp),ae H H'→H r=none→b_ H' r n lv→(∀i,i<n→aK X H' q (lv i) (dr M o k t i) (aA M (cO o k)))→Q (.ref r) H'
structure AL (q:Int) (n X:Nat) (H:Hp) (e:Addr) (av:Nat→V) (o:List Nat) (M:aF) (D:Nat→Int):Prop where
 row:b_ H e n av
 k9:∀i,i<n→aK X H q (av i) (M i n) (D i)
 bl:∀k i,k≤n→(sL M o n k i).natAbs≤X∧(sW M D o k i).natAbs≤X
 bo:∀(g:Nat→List Nat),(∀p,p<n→(g p).length≤n)→∀p l,p<n→l≤(g p).length→(rS M o g (cO o n) n (fun _=>aA M (cO o n)) p l).natAbs≤X∧(D p*aA M (cO o (o.idxOf p))*aA M (cO o n)).natAbs≤X
 bc:∀p,(dO M (cO o n) n p).natAbs≤X∧(aA M (cO o n)).natAbs≤X
 bt:∀(g:Nat→List Nat),(∀p,p<n→(g p).length≤n)→∀k t p l,k<n→p<n→l≤(g p).length→(mS M o g k t p l).natAbs≤X∧(D p*aA M (cO o (o.idxOf p))*aA M (cO o k)).natAbs≤X
 bm:∀k t p,k<n→(dr M o k t p).natAbs≤X∧(aA M (cO o k)).natAbs≤X
def OG(C:Addr):Sp:=fun vs H Q _=>∃(z a d e:Addr) (q:Int) (B X n:Nat) (ai:fS) (o:List Nat) (M:aF) (D:Nat→Int) (av:Nat→V),vs=[.ref z,.ref a,.ref d,.ref e]∧cZ C H z q∧a7 q∧iA B H q a ai∧B≤10 ^ 100∧ai.length=n∧1≤n∧n≤40∧(∀ps∈ai,ps.length=n)∧H d=some (.lst (bS o))∧o.Perm (List.range n)∧u7 q n X ai o M D∧AL q n X H e av o M D ∧
 (∀(k:Nat) (hk:k<o.length),bZ q M (cO o k)→q∣az M (cO o k) (M o[k]) o[k]→∀(tp r:Addr) (lv:Nat→V) (H':Hp),ae H H'→H r=none→H tp=none→H' tp=some (.tup [.str (Str.ofString "stops"),.int ((k:Int)+1),.ref r])→b_ H' r n lv→(∀i,i<n→aK X H' q (lv i) (dr M o k o[k] i) (aA M (cO o k)))→Q (.ref tp) H') ∧
 (bZ q M (cO o n)→∀(tp r:Addr) (lv:Nat→V) (g:Nat→List Nat) (H':Hp),ae H H'→H r=none→H tp=none→(∀p,p<n→e9 n o p (g p)∧eM n (cL n (bN ai) n) o p (g p))→H' tp=some (.tup [.str (Str.ofString "one"),.ref r,.int (k8 n g:Int)])→b_ H' r n lv→(∀i,i<n→aK X H' q (lv i) (dO M (cO o n) n i) (aA M (cO o n)))→Q (.ref tp) H')
theorem OH{r:List V→Hp→VK→Prop}{te:TE}{tr:TA}{σ:St}{Q:List V→Hp→Prop}(h:te σ H fun x H1=>r [x] H1 fun y H2=>tr σ H2 fun ys H3=>Q (y::ys) H3):qo (wo r (qo te jQ)) tr σ H Q:=h
theorem AM:∀n,1≤f_ n
 | 0=>aD _
 | n+1=>by have:=AM n;show 1≤(n+1)*f_ n;exact aV this (jc _ (by lia))
theorem OI(h:a≤b):f_ a≤f_ b:=by
 induction b with
 | zero=>rw [show a=0 by lia];exact aD _
 | succ b ih=>
  by_cases e:a=b+1;·rw [e];exact aD _
  ·refine aV (ih (by lia)) ?_
   show f_ b≤(b+1)*f_ b;exact jc _ (by lia)
def du(n B:Nat):Nat:=f_ (n+2)*B ^ (n+2)
def ck(n B:Nat):Nat:=(n+1)*(B*(du n B*du n B))
section
variable {q:Int} {M:aF} {D:Nat→Int} {o:List Nat} {n B:Nat}
theorem xj(b1:1≤B){m:Nat}(h:m≤n+2):f_ m*B ^ m≤du n B:=fQ (OI h) (Nat.pow_le_pow_right b1 h)
theorem Fi(b1:1≤B):1≤du n B:=Nat.mul_pos (AM _) (Nat.pow_pos b1)
theorem AN(lo:o.length=n)(k:Nat):(cO o k).length≤n:=by unfold cO;rw [List.length_reverse,lK];lia
theorem k_(b1:1≤B)(hM:∀i k,(M i k).natAbs≤B)(lo:o.length=n)(k i j:Nat):(az M (cO o k) (M i) j).natAbs≤du n B:=aV (Oc hM (hM i)) (xj b1 (by have:=AN lo k;lia))
theorem gW(b1:1≤B)(hM:∀i k,(M i k).natAbs≤B)(lo:o.length=n)(k:Nat):(aA M (cO o k)).natAbs≤du n B:=aV (Od hM) (xj b1 (by have:=AN lo k;lia))
theorem xk(b1:1≤B)(hM:∀i k,(M i k).natAbs≤B)(lo:o.length=n)(k m c:Nat):(dO M (cO o k) m c).natAbs≤du n B:=aV (Oe b1 hM) (xj b1 (by have:=AN lo k;lia))
theorem j7(b1:1≤B):du n B≤ck n B:=by unfold ck;refine aV (jc (du n B) (Fi (n:=n) b1)) ?_;refine aV (jc _ b1) (jc _ (by lia))
theorem nW(b1:1≤B){a b:Int}(ha:a.natAbs≤du n B)(hb:b.natAbs≤B):(a*b).natAbs≤ck n B∧(b*a).natAbs≤ck n B:=by
 have h:(a*b).natAbs≤ck n B:=by rw [fE];unfold ck;refine aV (fQ ha hb) ?_;rw [Nat.mul_comm];refine aV (Nat.mul_le_mul_left B (jc (du n B) (Fi (n:=n) b1))) (jc _ (by lia))
 exact ⟨h,by rw [dI];exact h⟩
theorem Fj(b1:1≤B){a b c:Int}(ha:a.natAbs≤B)(hb:b.natAbs≤du n B)(hc:c.natAbs≤du n B):(a*b*c).natAbs≤ck n B:=by rw [fE,fE,Nat.mul_assoc];unfold ck;exact aV (fQ ha (fQ hb hc)) (jc _ (by lia))
theorem Fl{F:Nat→Int}{Z:Nat}(h:∀j,(F j).natAbs≤Z):∀l:List Nat,((l.map F).sum).natAbs≤l.length*Z
 | []=>by simp
 | x::l=>by rw [cQ,da,eE,Nat.succ_mul];have:=Fl h l;have:=h x;lia
theorem Fm(b1:1≤B){F:Nat→Int}{l:List Nat}(hl:l.length≤n)(h:∀j,(F j).natAbs≤du n B*du n B){a:Int}(ha:a.natAbs≤du n B*du n B):(a-(l.map F).sum).natAbs≤ck n B:=by have h1:=Fl h l;have h2:l.length*(du n B*du n B)≤n*(du n B*du n B):=Nat.mul_le_mul_right _ hl;have h3:(n+1)*(du n B*du n B)≤ck n B:=Nat.mul_le_mul_left _ (jc _ b1);rw [Nat.succ_mul] at h3;lia
theorem AO{a b:Int}{F:Nat}(ha:a.natAbs≤F)(hb:b.natAbs≤F):(a*b).natAbs≤F*F:=by rw [fE];exact fQ ha hb
theorem OJ(b1:1≤B)(hM:∀i k,(M i k).natAbs≤B)(hD:∀i,(D i).natAbs≤B)(lo:o.length=n)(k i j:Nat):(sT M D o k i j).natAbs≤ck n B∧(sU M D o k i j).natAbs≤ck n B:=by
 constructor
 ·unfold sT
  split
  ·exact aV (k_ b1 hM lo _ _ _) (j7 b1)
  ·split
   ·exact aV (k_ b1 hM lo _ _ _) (j7 b1)
   ·exact (nW b1 (k_ b1 hM lo _ _ _) (hD j)).1
 ·unfold sU
  split
  ·exact (nW b1 (gW b1 hM lo _) (hD i)).2
  ·split <;> exact (nW b1 (gW b1 hM lo _) (hD i)).2
theorem OK{e:Addr}{av:Nat→V}{Y:Nat}(b1:1≤B)(hM:∀i k,(M i k).natAbs≤B)(hD:∀i,(D i).natAbs≤B)(lo:o.length=n)(row:b_ H e n av)(w:∀i,i<n→aK Y H q (av i) (M i n) (D i)):AL q n (ck n B) H e av o M D:=by
 have bB:B≤du n B:=by
  have:=xj (n:=n) b1 (show 1≤n+2 by lia)
  rw [Nat.pow_one] at this;exact aV (by show B≤f_ 1*B;exact jc _ (AM 1)) this
 have bX:=aV bB (j7 (n:=n) b1);refine ⟨row,fun i hi=>(w i hi).bd (aV (hM i n) bX) (aV (hD i) bX),fun k i _=>⟨?_,?_⟩,fun g hg p l hp hl=>⟨?_,?_⟩,fun p=>⟨?_,?_⟩,fun g hg k t p l _ hp hl=>⟨?_,?_⟩,fun k t p _=>⟨?_,?_⟩⟩;·exact aV (k_ b1 hM lo _ _ _) (j7 b1)
 ·exact (nW b1 (gW b1 hM lo _) (hD i)).2
 ·unfold rS
  exact Fm b1 (by rw [lK];have:=hg p hp;lia) (fun j=>AO (k_ b1 hM lo _ _ _) (xk b1 hM lo _ _ _)) (AO (k_ b1 hM lo _ _ _) (gW b1 hM lo _))
 ·exact Fj b1 (hD p) (gW b1 hM lo _) (gW b1 hM lo _)
 ·exact aV (xk b1 hM lo _ _ _) (j7 b1)
 ·exact aV (gW b1 hM lo _) (j7 b1)
 ·have mv:∀j,(dr M o k t j).natAbs≤du n B:=fun j=>by
   unfold dr
   split
   ·exact gW b1 hM lo _
   ·split
    ·rw [mJ];exact xk b1 hM lo _ _ _
    ·exact cu _
  unfold mS;have:=Fm (n:=n) b1 (l:=(g p).take l) (a:=0) (by rw [lK];have:=hg p hp;lia) (fun j=>AO (k_ b1 hM lo (o.idxOf p) p j) (mv j)) (cu _)
  rwa [qb] at this
 ·exact Fj b1 (hD p) (gW b1 hM lo _) (gW b1 hM lo _)
 ·unfold dr
  split
  ·exact aV (gW b1 hM lo _) (j7 b1)
  ·split
   ·rw [mJ];exact aV (xk b1 hM lo _ _ _) (j7 b1)
   ·exact cu _
 ·exact aV (gW b1 hM lo _) (j7 b1)
theorem OL{ai:fS}(b1:1≤B)(hM:∀i k,(M i k).natAbs≤B)(hD:∀i,(D i).natAbs≤B)(lo:o.length=n)(w:∀i j,i<n→j<n→q∣(atT ai i j).1*D i-M i j*(atT ai i j).2)(dn:∀i,¬q∣D i)(zero:∀i j,i<n→j<n→(atT ai i j).1=0→M i j=0)(x1:1000≤ck n B)(OM:ck n B≤10 ^ 100):u7 q n (ck n B) ai o M D:=
 ⟨w,dn,zero,fun k i j _=>OJ b1 hM hD lo k i j,x1,OM⟩
end
section
variable {q:Int} {M N N':aF} {D:Nat→Int}
end
structure i6 (H:Hp) (a:Addr) (n m:Nat) (ra:Nat→Addr) (vf:Nat→Nat→V):Prop where
 lst:H a=some (.lst ((List.range n).map fun i=>V.ref (ra i)))
 at':∀i,i<n→H (ra i)=some (.lst ((List.range m).map (vf i)))
theorem i6.mono{H':Hp}{a:Addr}{m:Nat}{ra:Nat→Addr}{vf:Nat→Nat→V}(h:i6 H a n m ra vf)(s:ae H H'):i6 H' a n m ra vf:=⟨s _ _ h.lst,fun i hi=>s _ _ (h.at' i hi)⟩
section
variable {q:Int} {M:aF} {o:List Nat} {n k:Nat}
end
section
variable {q:Int} {B X n m k b:Nat} {N N0:aF} {E:Nat→Int} {H H':Hp} {vf:Nat→Nat→V}
end
end My
namespace L2
open PySem PySem.Spec PyProof.Rows
section
variable {X:Cx} {tg:Expr}
end
end L2
namespace My
open PySem L2
def gX(q x m:Int):Prop:=(q=0→x.natAbs≤3∧m∣6∧0<m)∧(q≠0→0≤x∧x<q∧q≤997∧m=1)
def bR(q:Int)(n:Nat)(f:Nat→Nat→Int×Int):Nat→Nat→Int:=fun i j=>if i<n∧j≤n then (if q=0 then (f i j).1*(6 / (f i j).2) else (f i j).1) else 0
def eB(q:Int):Nat→Int:=fun _=>if q=0 then 6 else 1
section
variable {q:Int} {n:Nat} {f:Nat→Nat→Int×Int} {H:Hp}
theorem qQ(h:∀i j,i<n→j≤n→gX q (f i j).1 (f i j).2)(i j:Nat):(bR q n f i j).natAbs≤997:=by
 unfold bR
 split
 ·rename_i vZ
  have hs:=h i j vZ.1 vZ.2
  split
  ·rename_i z
   obtain ⟨h1,⟨c,hc⟩,h3⟩:=hs.1 z;have e:6 / (f i j).2=c:=by rw [hc];exact g8 _ (by lia)
   have c6:c.natAbs≤6:=by
    have:(6:Int).natAbs=(f i j).2.natAbs*c.natAbs:=by rw [←fE,←hc]
    have m1:1≤(f i j).2.natAbs:=by lia
    have:=jc c.natAbs m1;have e6:(6:Int).natAbs=6:=rfl;lia
   rw [e,fE];exact aV (fQ h1 c6) (by decide)
  ·rename_i z
   have:=hs.2 z;lia
 ·decide
theorem nX(i:Nat):(eB q i).natAbs≤997:=by unfold eB;split <;> decide
theorem AQ(hq:a7 q)(i:Nat):¬q∣eB q i:=by
 unfold eB
 split
 ·rename_i z
  rw [z];intro d;have:=jG.mp d;lia
 ·exact EB hq
variable {i j:Nat}
theorem AR(h:∀i j,i<n→j≤n→gX q (f i j).1 (f i j).2)(hi:i<n)(hj:j≤n):q∣(f i j).1*eB q i-bR q n f i j*(f i j).2:=by
 have hs:=h i j hi hj;have e1:bR q n f i j=if q=0 then (f i j).1*(6 / (f i j).2) else (f i j).1:=by unfold bR;rw [ao ⟨hi,hj⟩]
 rw [e1];unfold eB
 split
 ·rename_i z
  obtain ⟨h1,⟨c,hc⟩,h3⟩:=hs.1 z;have e:6 / (f i j).2=c:=by rw [hc];exact g8 _ (by lia)
  rw [e];exact ⟨0,by rw [hc];grind⟩
 ·rename_i z
  rw [(hs.2 z).2.2.2];exact ⟨0,by grind⟩
theorem ON(z:(f i j).1=0):bR q n f i j=0:=by
 unfold bR
 split
 ·split
  ·rw [z,eQ]
  ·exact z
 ·rfl
theorem AS:∀n,n≤9→1000≤ck n 997∧ck n 997≤10 ^ 100:=fun n hn=>(show ∀n∈List.range 10,1000≤ck n 997∧ck n 997≤10 ^ 100 by decide +kernel) n (fD.mpr (by lia))
def dw(n m:Nat)(f:Nat→Nat→Int×Int):List (List (Int×Int)):=(List.range n).map fun i=>(List.range m).map (f i)
variable {m:Nat}
theorem xl(hi:i<n)(hj:j<m):atT (dw n m f) i j=f i j:=by
 unfold atT dw;have h1:i<((List.range n).map fun i=>(List.range m).map (f i)).length:=by simpa using hi
 have h2:j<((List.range m).map (f i)).length:=by simpa using hj
 rw [getD_at h1,fR,gJ,getD_at h2,fR,gJ]
theorem xn:(dw n m f).length=n:=by unfold dw;simp
theorem xo:∀ps∈dw n m f,ps.length=m:=fun ps h=>by unfold dw at h;obtain ⟨i,_,rfl⟩:=jH.mp h;simp
variable {B:Nat} {a:Addr}
theorem OO{lv:Nat→V}{f:Nat→Int×Int}(h:b_ H a m lv)(k:∀j,j<m→bE B H q (lv j) (f j).1 (f j).2):uV B H q a ((List.range m).map f):=by
 refine ⟨_,h,by simp,fun i v p h1 h2=>?_⟩
 have hi:i<m:=by have:=(cq.mp h1).1;simpa using this
 rw [cE,jb hi] at h1 h2;cases h1;cases h2;exact k i hi
variable {vf:Nat→Nat→V}
theorem OP{ra:Nat→Addr}(h:i6 H a n m ra vf)(k:∀i j,i<n→j<m→bE B H q (vf i j) (f i j).1 (f i j).2):iA B H q a (dw n m f):=by
 refine ⟨_,h.lst,by unfold dw;simp,fun i v ps h1 h2=>?_⟩
 have hi:i<n:=by have:=(cq.mp h1).1;simpa using this
 unfold dw at h2;rw [cE,jb hi] at h1 h2;cases h1;cases h2;exact ⟨ra i,rfl,OO (h.at' i hi) fun j hj=>k i j hi hj⟩
theorem WTab.r{rs:Nat→Addr}(h:WTab H a n rs vf):i6 H a n n rs vf:=⟨h.lst,h.at'⟩
end
theorem Fn:∀{l l':List Nat},l.Pairwise (· < ·)→l'.Pairwise (· < ·)→(∀x,x∈l↔x∈l')→l=l'
 | [],[],_,_,_=>rfl
 | [],y::l',_,_,h=>by have:=(h y).mpr (gg ..);simp at this
 | x::l,[],_,_,h=>by have:=(h x).mp (gg ..);simp at this
 | x::l,y::l',p,p',h=>by
  rw [List.pairwise_cons] at p p';have e:x=y:=by
   rcases cp.mp ((h x).mp (gg ..)) with h1 | h1;·exact h1
   ·rcases cp.mp ((h y).mpr (gg ..)) with h2 | h2
    ·exact h2.symm
    ·have:=p'.1 x h1
     have:=p.1 y h2;lia
  subst e;rw [Fn p.2 p'.2 fun z=>?_];have hz:=h z;rw [cp,cp] at hz;constructor
  ·intro m
   rcases hz.mp (.inr m) with e | e;·have:=p.1 z m;lia
   ·exact e
  ·intro m
   rcases hz.mpr (.inr m) with e | e;·have:=p'.1 z m;lia
   ·exact e
variable {n:Nat} {L L':cy} {o:List Nat}
theorem OQ{p:Nat}{ms AU:List Nat}(e:aL n L=aL n L')(h:e9 n o p ms∧eM n L o p ms)(h':e9 n o p AU∧eM n L' o p AU):ms=AU:=
 Fn h.1.up h'.1.up fun x=>by rw [h.2 x,h'.2 x,e]
theorem OR{g g':Nat→List Nat}(e:aL n L=aL n L')(h:∀p,p<n→e9 n o p (g p)∧eM n L o p (g p))(h':∀p,p<n→e9 n o p (g' p)∧eM n L' o p (g' p)):k8 n g=k8 n g':=by
 unfold k8
 congr 1
 refine iM fun p hp=>?_;rw [OQ e (h p (fD.mp hp)) (h' p (fD.mp hp))]
inductive nY (H:Hp) (f:Addr) (q:Int) (X n:Nat) (o:List Nat) (M:aF) (L:cy) (r:Addr) (lv:Nat→V) (at':Nat):Prop where
 | one (g:Nat→List Nat):bZ q M (cO o n)→(∀p,p<n→e9 n o p (g p)∧eM n L o p (g p))→H f=some (.tup [.str (Str.ofString "one"),.ref r,.int (k8 n g:Int)])→b_ H r n lv→(∀i,i<n→aK X H q (lv i) (dO M (cO o n) n i) (aA M (cO o n)))→at'=1→nY H f q X n o M L r lv at'
 | nZ (k:Nat) (hk:k<o.length):bZ q M (cO o k)→q∣az M (cO o k) (M o[k]) o[k]→H f=some (.tup [.str (Str.ofString "stops"),.int ((k:Int)+1),.ref r])→b_ H r n lv→(∀i,i<n→aK X H q (lv i) (dr M o k o[k] i) (aA M (cO o k)))→at'=2→nY H f q X n o M L r lv at'
variable {H H':Hp} {q:Int} {X:Nat} {M:aF}
theorem nY.mono{f:Addr}{r:Addr}{lv:Nat→V}{at':Nat}(h:nY H f q X n o M L r lv at')(s:ae H H'):nY H' f q X n o M L r lv at':=by
 cases h with
 | one g a b c d e z=>exact .one g a b (s _ _ c) (s _ _ d) (fun i hi=>(e i hi).mono s) z
 | nZ k hk a b c d e z=>exact .nZ k hk a b (s _ _ c) (s _ _ d) (fun i hi=>(e i hi).mono s) z
section
variable {q:Int} {M:aF} {o:List Nat} {n k k':Nat}
theorem OS(ho:o.length=n)(hk:k<o.length)(j9:k'<o.length)(g:bZ q M (cO o k))(d:q∣az M (cO o k) (M o[k]) o[k])(g':bZ q M (cO o k'))(d':q∣az M (cO o k') (M o[k']) o[k']):k=k':=by
 rcases Nat.lt_trichotomy k k' with h | h | h
 ·have:=gF g' (show k+1≤k' by lia)
  rw [jv hk] at this;exact absurd d this.2
 ·exact h
 ·have:=gF g (show k'+1≤k by lia)
  rw [jv j9] at this;exact absurd d' this.2
theorem xp(ho:o.length=n)(hk:k<o.length)(d:q∣az M (cO o k) (M o[k]) o[k])(g:bZ q M (cO o n)):False:=by
 have:=gF g (show k+1≤n by lia)
 rw [jv hk] at this;exact this.2 d
end
variable {v:V}
theorem Fo(hq:a7 q){Y:Nat}{v':V}{T U T' U':Int}(h:aK X H q v T U)(h':aK Y H q v' T' U')(e:Cg q (T*U') (T'*U)):∃x m,bE X H q v x m∧bE Y H q v' x m:=by
 have h2:=h.eq hq e h'.choose_spec.choose_spec.2.2;obtain ⟨x,m,a1,a2,a3⟩:=h2;obtain ⟨x',m',b1,b2,b3⟩:=h';have c:Cg q (x*m') (x'*m):=by
  have c1:Cg q (U'*(x*m')) (U'*(x'*m)):=by have d1:Cg q (m'*(x*U')) (m'*(T'*m)):=Cg.mulL m' a2;have d2:Cg q (m*(x'*U')) (m*(T'*m')):=Cg.mulL m b2;exact (Cg.of_eq (by grind)).trans (d1.trans ((Cg.of_eq (by grind)).trans (d2.symm.trans (Cg.of_eq (by grind)))))
  have c2:Cg q (U'*(x*m'-x'*m)) 0:=(Cg.of_eq (by grind)).trans ((c1.sub (Cg.refl _)).trans (Cg.of_eq (lN _)))
  have:=wX hq a3 c2;unfold Cg at this ⊢
  rwa [ky] at this
 cases a1 with
 | bK ea la _ _=>
  cases b1 with
  | bK eb lb bx bm=>
   have e:x*m'=x'*m:=by unfold Cg at c;have:=jG.mp c;lia
   obtain ⟨e1,e2⟩:x=x'∧m=m':=by have u1:=Eo la lb.pos e;have u2:=Eo lb lb.pos rfl;exact ⟨u1.1.trans u2.1.symm,u1.2.trans u2.2.symm⟩
   subst e1 e2;exact ⟨x,m,.bK ea la (by assumption) (by assumption),.bK eb lb bx bm⟩
  | rem=>lia
 | rem a b d=>
  cases b1 with
  | bK=>lia
  | rem a' b' d'=>
   have:x=x':=by
    rw [fh,fh] at c;obtain ⟨k,hk⟩:=c;have:k=0:=by
     rcases Int.lt_trichotomy k 0 with z | z | z
     ·have:q*k≤q*(-1):=qa (by lia) (by lia)
      lia
     ·exact z
     ·have:q*1≤q*k:=qa (by lia) (by lia)
      lia
    rw [this,gq] at hk;lia
   subst this;exact ⟨x,1,.rem a b d,.rem a' b' d'⟩
structure fA (H:Hp) (q:Int) (tab od am:Addr) (n:Nat) (o:List Nat) (rs:Nat→Addr) (vf:Nat→Nat→V) (av:Nat→V) (f:Nat→Nat→Int×Int):Prop where
 tab:WTab H tab n rs vf
 ord:H od=some (.lst (bS o))
 qR:o.Perm (List.range n)
 AV:b_ H am n av
 num:∀i j,i<n→j<n→bE 1000 H q (vf i j) (f i j).1 (f i j).2
 AW:∀i,i<n→bE 1000 H q (av i) (f i n).1 (f i n).2
 sm:∀i j,i<n→j≤n→gX q (f i j).1 (f i j).2
theorem fA.mono{tab od am:Addr}{rs:Nat→Addr}{vf:Nat→Nat→V}{av:Nat→V}{f:Nat→Nat→Int×Int}(h:fA H q tab od am n o rs vf av f)(s:ae H H'):fA H' q tab od am n o rs vf av f:=
 ⟨h.tab.mono s,s _ _ h.ord,h.qR,s _ _ h.AV,fun i j hi hj=>(h.num i j hi hj).mono s,fun i hi=>(h.AW i hi).mono s,h.sm⟩
section
variable {H:Hp} {q:Int} {tab od am:Addr} {n:Nat} {o:List Nat} {rs:Nat→Addr} {vf:Nat→Nat→V} {av:Nat→V} {f:Nat→Nat→Int×Int}
variable {i:Nat}
theorem fA.k9(hq:a7 q)(h:fA H q tab od am n o rs vf av f){j:Nat}(hi:i<n)(hj:j<n):aK 997 H q (vf i j) (bR q n f i j) (eB q i):=qP (h.num i j hi hj) (AR h.sm hi (by lia)) (AQ hq i) (qQ h.sm i j) (nX i)
theorem fA.OT(hq:a7 q)(h:fA H q tab od am n o rs vf av f)(hi:i<n):aK 997 H q (av i) (bR q n f i n) (eB q i):=qP (h.AW i hi) (AR h.sm hi (aD _)) (AQ hq i) (qQ h.sm i n) (nX i)
theorem fA.cm(hq:a7 q)(h:fA H q tab od am n o rs vf av f)(n9:n≤9):u7 q n (ck n 997) (dw n n f) o (bR q n f) (eB q):=
 OL (by decide) (qQ h.sm) nX (eL h.qR) (fun i j hi hj=>by rw [xl hi hj];exact AR h.sm hi (by lia)) (AQ hq) (fun i j hi hj z=>ON (by rw [xl hi hj] at z;exact z)) (AS n n9).1 (AS n n9).2
theorem fA.Fp(hq:a7 q)(h:fA H q tab od am n o rs vf av f):AL q n (ck n 997) H am av o (bR q n f) (eB q):=
 OK (by decide) (qQ h.sm) nX (eL h.qR) h.AV fun i hi=>h.OT hq hi
theorem fA.xq(h:fA H q tab od am n o rs vf av f):iA 1000 H q tab (dw n n f):=OP h.tab.r h.num
end
variable {B:Nat} {R:VK}
theorem Fq{K:ay}{B':Nat}{u:V}{x m:Int}(hv:bE B H q v x m)(hu:bE B' H q u x m)(k:R (.bl false) H):wN K v u H R:=by
 cases hv with
 | bK e l bx bm=>
  cases hu with
  | bK e' l' _ _=>refine .inl ⟨_,_,_,_,rfl,rfl,.of e,.of e',rfl,rfl,?_⟩;rw [Ml];exact k
  | rem h0 h1 _=>lia
 | rem h0 h1 h2=>
  cases hu with
  | bK _ _ _ _=>lia
  | rem _ _ _=>refine .inr ⟨rfl,?_⟩;simpa using k
section
variable {q:Int} {M:aF} {o:List Nat} {n k:Nat}
end
section
variable {Cl:Addr→Prop} {H H':Hp} {q:Int}
variable {f f2 r r2:Addr} {X n:Nat} {o:List Nat} {M:aF} {L:cy} {lv AX:Nat→V} {at' at2:Nat}
theorem AY{α:Type}{j:Nat}{lv:Nat→α}{x:α}(h:((List.range n).map lv)[j]?=some x):j<n∧x=lv j:=by
 have hj:j<n:=by have:=(cq.mp h).1;simpa using this
 rw [cE,jb hj] at h;exact ⟨hj,(Option.some.inj h).symm⟩
end
theorem xr{te:TE}{σ:St}(M:V→Hp→Prop)(h1:∀R':VK,(∀x H,M x H→R' x H)→te σ H R')(h2:∀x H,M x H→R x H):te σ H R:=h1 R h2
def i8(M:aF)(D:Nat→Int)(o:List Nat)(i k:Nat):Int:=az M (cO o (o.idxOf k)) (M i) k*D k
def j_(M:aF)(D:Nat→Int)(o:List Nat)(i k:Nat):Int:=D i*aA M (cO o (o.idxOf k+1))
def jw(M:aF)(o:List Nat)(k j:Nat):Int:=az M (cO o (o.idxOf k)) (M k) j
def mi(M:aF)(D:Nat→Int)(o:List Nat)(k _j:Nat):Int:=D k*aA M (cO o (o.idxOf k))
section
variable {q:Int} {M:aF} {D:Nat→Int} {o:List Nat} {n:Nat}
variable {i:Nat}
theorem OU(hq:a7 q)(ho:o.Perm (List.range n))(hi:i<n):i8 M D o i i=j_ M D o i i:=by have kl:=(cS ((bW ho).mpr hi)).1;unfold i8 j_;rw [jv kl,(cS ((bW ho).mpr hi)).2];exact dI _ _
variable {k:Nat}
theorem OV(hq:a7 q)(ho:o.Perm (List.range n))(g:bZ q M (cO o n))(hi:i<n)(hk:k<n)(h:o.idxOf i<o.idxOf k):i8 M D o i k=0:=by have:=(cS ((bW ho).mpr hk)).1;have lo:=eL ho;unfold i8;rw [xa hq (gF g (by lia)) i ((cN ho).mpr ⟨hi,h⟩),eQ]
variable {j:Nat}
theorem OW(ho:o.Perm (List.range n))(hj:j<n)(h:o.idxOf j<o.idxOf k):jw M o k j=0:=w_ ((cN ho).mpr ⟨hj,h⟩)
theorem Fs(hq:a7 q)(ho:o.Perm (List.range n))(hi:i<n)(hk:k<n)(h:o.idxOf k<o.idxOf i):sT M D o n i k=i8 M D o i k∧sU M D o n i k=j_ M D o i k:=by
 have lo:=eL ho;have:=(cS ((bW ho).mpr hk)).1;unfold sT sU i8 j_;rw [ah (by lia),ah (by lia),ah (by lia),ah (by lia)]
 exact ⟨rfl,rfl⟩
theorem Ft(ho:o.Perm (List.range n))(hk:k<n)(h:o.idxOf k≤o.idxOf j):sT M D o n k j=jw M o k j∧sU M D o n k j=mi M D o k j:=by
 have lo:=eL ho;have:=(cS ((bW ho).mpr hk)).1;unfold sT sU jw mi;rw [ah (by lia),ao h,ah (by lia),ao h]
 exact ⟨rfl,rfl⟩
end
structure qS (H0 H:Hp) (q:Int) (X n:Nat) (o:List Nat) (M:aF) (D:Nat→Int) (fd lo up:Addr) (rl ru:Nat→Addr) (lf uf:Nat→Nat→V):Prop where
 tup:H fd=some (.tup [.ref lo,.ref up])
 low:i6 H lo n n rl lf
 jx:i6 H up n n ru uf
 wl:c_ X H q n lf (i8 M D o) (j_ M D o)
 wu:c_ X H q n uf (jw M o) (mi M D o)
 new:H0 fd=none∧H0 lo=none∧H0 up=none∧∀i,i<n→H0 (rl i)=none∧H0 (ru i)=none
theorem qS.mono{H0:Hp}{D:Nat→Int}{fd lo up:Addr}{rl ru:Nat→Addr}{lf uf:Nat→Nat→V}(h:qS H0 H q X n o M D fd lo up rl ru lf uf)(s:ae H H'):qS H0 H' q X n o M D fd lo up rl ru lf uf:=
 ⟨s _ _ h.tup,h.low.mono s,h.jx.mono s,fun i j hi hj=>(h.wl i j hi hj).mono s,fun i j hi hj=>(h.wu i j hi hj).mono s,h.new⟩
def xt(H:Hp)(tn:Addr)(n:Nat)(o:List Nat):Prop:=H tn=some (.lst ((List.range n).map fun j=>V.int ((o.idxOf j:Nat):Int)))
def OX(C:Addr):Sp:=fun vs H Q _=>∃(z w tn:Addr) (q:Int) (X n i:Nat) (o:List Nat) (wv:Nat→V) (T U:Nat→Int),vs=[.ref z,.ref w,.ref tn,.int (i:Int)]∧cZ C H z q∧a7 q∧n≤40∧i<n∧o.Perm (List.range n)∧b_ H w n wv∧xt H tn n o∧1000≤X∧(∀j,j<n→(T j).natAbs≤X∧(U j).natAbs≤X∧¬q∣U j)∧(∀j,j<n→o.idxOf j<o.idxOf i→aK X H q (wv j) (T j) (U j))∧(∀j,j<n→o.idxOf i<o.idxOf j→T j=0)∧T i=U i ∧
 ∀(r:Addr) (lv:Nat→V) (H':Hp),ae H H'→H r=none→b_ H' r n lv→(∀j,j<n→aK X H' q (lv j) (T j) (U j))→Q (.ref r) H'
def OY(C:Addr):Sp:=fun vs H Q _=>∃(z w tn:Addr) (q:Int) (X n i:Nat) (o:List Nat) (wv:Nat→V) (T U:Nat→Int),vs=[.ref z,.ref w,.ref tn,.int (i:Int)]∧cZ C H z q∧a7 q∧n≤40∧i<n∧o.Perm (List.range n)∧b_ H w n wv∧xt H tn n o∧1000≤X∧(∀j,j<n→(T j).natAbs≤X∧(U j).natAbs≤X∧¬q∣U j)∧(∀j,j<n→o.idxOf i≤o.idxOf j→aK X H q (wv j) (T j) (U j))∧(∀j,j<n→o.idxOf j<o.idxOf i→T j=0) ∧
 ∀(r:Addr) (lv:Nat→V) (H':Hp),ae H H'→H r=none→b_ H' r n lv→(∀j,j<n→aK X H' q (lv j) (T j) (U j))→Q (.ref r) H'
def OZ(C:Addr):Sp:=fun vs H Q _=>∃(z a tn:Addr) (q:Int) (X n:Nat) (o:List Nat) (ra:Nat→Addr) (vf:Nat→Nat→V) (T U:aF),vs=[.ref z,.ref a,.ref tn]∧cZ C H z q∧a7 q∧n≤40∧o.Perm (List.range n)∧i6 H a n n ra vf∧xt H tn n o∧1000≤X∧(∀i j,i<n→j<n→(T i j).natAbs≤X∧(U i j).natAbs≤X∧¬q∣U i j)∧(∀i j,i<n→j<n→o.idxOf j<o.idxOf i→aK X H q (vf i j) (T i j) (U i j))∧(∀i j,i<n→j<n→o.idxOf i<o.idxOf j→T i j=0)∧(∀i,i<n→T i i=U i i) ∧
 ∀(r:Addr) (rr:Nat→Addr) (lf:Nat→Nat→V) (H':Hp),ae H H'→H r=none→(∀i,i<n→H (rr i)=none)→i6 H' r n n rr lf→c_ X H' q n lf T U→Q (.ref r) H'
def O0(C:Addr):Sp:=fun vs H Q _=>∃(z a tn:Addr) (q:Int) (X n:Nat) (o:List Nat) (ra:Nat→Addr) (vf:Nat→Nat→V) (T U:aF),vs=[.ref z,.ref a,.ref tn]∧cZ C H z q∧a7 q∧n≤40∧o.Perm (List.range n)∧i6 H a n n ra vf∧xt H tn n o∧1000≤X∧(∀i j,i<n→j<n→(T i j).natAbs≤X∧(U i j).natAbs≤X∧¬q∣U i j)∧(∀i j,i<n→j<n→o.idxOf i≤o.idxOf j→aK X H q (vf i j) (T i j) (U i j))∧(∀i j,i<n→j<n→o.idxOf j<o.idxOf i→T i j=0) ∧
 ∀(r:Addr) (rr:Nat→Addr) (lf:Nat→Nat→V) (H':Hp),ae H H'→H r=none→(∀i,i<n→H (rr i)=none)→i6 H' r n n rr lf→c_ X H' q n lf T U→Q (.ref r) H'
def O1(C:Addr):Sp:=fun vs H Q _=>∃(z a d:Addr) (q:Int) (B X n:Nat) (ai:fS) (o:List Nat) (M:aF) (D:Nat→Int),vs=[.ref z,.ref a,.ref d]∧cZ C H z q∧a7 q∧iA B H q a ai∧B≤10 ^ 100∧ai.length=n∧1≤n∧n≤40∧(∀ps∈ai,ps.length=n)∧H d=some (.lst (bS o))∧o.Perm (List.range n)∧u7 q n X ai o M D∧(∀i j,i<n→j<n→(i8 M D o i j).natAbs≤X∧(j_ M D o i j).natAbs≤X∧(jw M o i j).natAbs≤X∧(mi M D o i j).natAbs≤X) ∧
 (∀(k:Nat) (hk:k<o.length),bZ q M (cO o k)→q∣az M (cO o k) (M o[k]) o[k]→∀H',ae H H'→Q .aH H') ∧
 (bZ q M (cO o n)→∀(fd lo up:Addr) (rl ru:Nat→Addr) (lf uf:Nat→Nat→V) (H':Hp),ae H H'→qS H H' q X n o M D fd lo up rl ru lf uf→Q (.ref fd) H')
variable {f:Nat→V}
theorem xu{i:Nat}{x y:V}(h:(((List.range ((List.range n).map f).length).zip ((List.range n).map f)).map fun p=>(V.int (p.1:Int),p.2))[i]?=some (x,y)):i<n∧x=.int (i:Int)∧y=f i:=by
 rw [cE] at h;cases e:((List.range ((List.range n).map f).length).zip ((List.range n).map f))[i]? with
 | none=>rw [e] at h;cases h
 | some p=>
  rw [e] at h;obtain ⟨h1,h2⟩:=List.getElem?_zip_eq_some.mp e;obtain ⟨hi,e2⟩:=AY h2;have e1:p.1=i:=by have h3:=(cq.mp h1).2;simpa using h3.symm
  have h4:=Option.some.inj h;rw [Prod.mk.injEq] at h4;refine ⟨hi,?_,?_⟩;·rw [←h4.1,e1]
  ·rw [←h4.2,e2]
theorem aK.bG{t u:Int}{D:Addr}{ys:List V}(h:aK B H q v t u)(e:H D=some (.lst ys))(k:∀b o,b≠D→H b=some o→H' b=some o):aK B H' q v t u:=let ⟨x,m,a,b⟩:=h;⟨x,m,a.bG e k,b⟩
theorem mj:(((List.range ((List.range n).map f).length).zip ((List.range n).map f)).map fun p=>(V.int (p.1:Int),p.2)).length=n:=by simp
end My
namespace L2
open PySem PySem.Spec PyProof.Rows
end L2
namespace My
open PySem L2
section
variable {Cl:Addr→Prop} {H0 H H':Hp} {q:Int} {X n:Nat} {o:List Nat} {M:aF} {D:Nat→Int} {fd lo up:Addr} {rl ru:Nat→Addr} {lf uf:Nat→Nat→V}
end
theorem lub{q:Int}{n:Nat}{o:List Nat}{f:Nat→Nat→Int×Int}(hM:∀i j,(bR q n f i j).natAbs≤997)(lo:o.length=n):∀i j,i<n→j<n→(i8 (bR q n f) (eB q) o i j).natAbs≤ck n 997∧(j_ (bR q n f) (eB q) o i j).natAbs≤ck n 997∧(jw (bR q n f) o i j).natAbs≤ck n 997∧(mi (bR q n f) (eB q) o i j).natAbs≤ck n 997:=fun i j _ _=>by
 have b1:1≤997:=by decide
 exact ⟨(nW b1 (k_ b1 hM lo _ _ _) (nX j)).1,(nW b1 (gW b1 hM lo _) (nX i)).2,aV (k_ b1 hM lo _ _ _) (j7 b1),(nW b1 (gW b1 hM lo _) (nX i)).2⟩
end My
namespace L2
open PySem PySem.Spec PyProof.Rows
section
variable {X:Cx} {N:List Str} {scope:Scope} {cl:List (Str×Addr)} {x y:Str} {px py pos tp:Pos} {jk:Nat} {iter elt:Expr} {ifs:List Expr} {wi:TI} {ρ:St→St} {tt:TT} {te:TE}
theorem O2{y9:Str}{qT uT:Pos}{i0:Nat}(B:Ah X N scope cl x y ρ)(hc:X.calm=true)(hN:X.N.Nodup)(Af:X.N[i0]?=some y9)(hy:Loc X.env.scope y9)(hi:PI X (.Tuple [.Name x px,.Name y py] jk tp) iter wi)(ht:∀s₃ H₃ fp,iV (X.aZ N scope cl s₃ H₃ fp) ifs tt)(he:∀s₃ H₃ fp,PE (X.aZ N scope cl s₃ H₃ fp) elt te)
  (Ag:swapsWith (.ListComp elt [⟨.Tuple [.Name x px,.Name y py] jk tp,iter,ifs,0⟩] scope pos) (some (.Name y9 qT)) uT.line X.env=pure true:=by rfl) (hf:X.fn y9=true∨X.env.scope.names.lookup y9=some .local:=by first | exact .inl rfl | exact .inr rfl | assumption)
  (hs:∀x,foldedSetIterable iter X.env x=pure x:=by intro _;rfl):PS X (.Assign [.Name y9 qT] (.ListComp elt [⟨.Tuple [.Name x px,.Name y py] jk tp,iter,ifs,0⟩] scope pos) uT) (lS (wQ X.K wi ρ tt te) (b6 i0)):=by
 intro pins s σ H D0 I h
 have h:wQ X.K wi ρ tt te σ H (fun v H1=>D0.nx (σ.set i0 (some v)) H1):=h
 rw [exec_Assign_Name_used _ _ _ _ Ag]
 refine bL (tZ (bL ?_))
 show wpAny _ X.A (do let _ ←comprehension (.ListComp elt [⟨.Tuple [.Name x px,.Name y py] jk tp,iter,ifs,0⟩] scope pos) scope X.env _ (newList []) false (eval iter X.env) (some (assign (.Name y9 qT) X.env))) _ _ s
 refine bL (bF (Q:=fun _ s'=>SP X pins D0 .next s') ?_ (fun _ s' hq=>dG (dG hq)) fun _ _ e=>e)
 refine ua (use:=some (assign (.Name y9 qT) X.env)) rfl hs B.nB B.kind B.names (aE (hi pins s σ H _ I h) fun v s1 h1=>aE h1 fun m6 s2 h2=>?_)
 obtain ⟨it,fp,tn,J,H2,rfl,I2,T,df,f2,q2⟩:=h2
 have nD:H2 s2.heap.objs.size=none:=I2.aw.fresh (aD _)
 obtain ⟨W,⟨m0,w0⟩,turn⟩:=q2 _ nD
 refine pY (vM B.uP (by intro y hy;simp at hy) (fun h₁ d9 eX=>?_) B.kind)
 dsimp only at d9 eX ⊢
 generalize hD:s2.heap.objs.size=D at nD w0 turn d9 eX ⊢
 generalize dh:({s2 with heap:=s2.heap.push {cls:=.type "list",dict:=none,data:=.seq ([]:List Value).toArray}}:Shared)=s3
 have I3:Inv X pins σ (upd H2 D (.lst [])) s3:=by
  subst hD dh
  exact I2.laid (t':=s2.toks) (fun b u e=>bT _ e) (aD _) ⟨cu _,[],_,.nil,dS _ rfl⟩
 have e3:s3.heap=s2.heap.push {cls:=.type "list",dict:=none,data:=.seq ([]:List Value).toArray}:=by rw [←dh]
 have di:∀b o,s2.heap.get? b=some o→s3.heap.get? b=some o:=fun b o e=>by rw [e3];exact bT _ e
 rw [←e3] at d9 eX ⊢
 have below:∀b o,s3.heap.get? b=some o→b≠s3.heap.objs.size:=fun b o e=>cP (bg e)
 have cx:∀b o,s3.heap.get? b=some o→h₁.get? b=some o:=fun b o e=>eX.extBut b o (below b o e) (bT _ e)
 have eJ:∀b∈fp,∃o,s2.heap.get? b=some o∧∀v,o.data≠.cell v:=T.obj _ _ df
 have kR:∀b∈fp,b≠D:=fun b hb z=>by
  obtain ⟨o,e,_⟩:=eJ b hb
  rw [z,←hD] at e
  exact absurd (bg e) (fe _)
 have bP:∀y c,cl.lookup y=some c→X.env.cells.lookup y=some c:=fun y c e=>B.sub (y,c) (iJ e)
 have kT:=I3.mV
 have cY:(X.aZ N scope cl s3 (upd H2 D (.lst [])) fp).Ok:=by
  refine ⟨I.ok.mod,B.kind,I.ok.glob,I.ok.blt,aD _,fun a b c e1 e2=>I.ok.inj a b c (bP a c e1) (bP b c e2),fun y hy=>B.has y hy,(fun _ _ z _=>absurd z cU),(fun _=>I.ok.hd hc),I.ok.frames,.inl rfl,fun b hb=>⟨?_,fun y c e z=>?_⟩,fun b o e=>?_,aV I.ok.fI I3.sz,fun b o e hb=>?_,fun b hb z=>?_,I3.stack,kT⟩
  ·obtain ⟨o,e,_⟩:=eJ b hb
   exact below b o (di b o e)
  ·exact (f2 b hb).2.2.2.2.1 y c (bP y c e) z
  ·exact I3.bs b o e
  ·rcases (f2 b hb).2.2.2.1 with z | z
   ·exact I.ok.kC b o e z
   ·exact absurd (dB (bg e) (aV I.ok.fI z)) (fe _)
  ·rcases cp.mp (I3.mU b z) with z | z
   ·exact (f2 b hb).2.1 z
   ·exact (f2 b hb).2.2.1 z
 have IB:∀tk:Nat,Inv (X.aZ N scope cl s3 (upd H2 D (.lst [])) fp) [] (none::none::ρ σ) (upd H2 D (.lst [])) {s3 with heap:=h₁,toks:=tk}:=fun tk=>by
  refine ⟨cY,rfl,I3.bare,Un.kept cx,⟨_,d9,fun j y v e1 e2 e3=>?_⟩,fun y c e=>?_,?_,fun y c e=>I3.gL y c (bP y c e),(fun p hp=>nomatch hp),I3.aw.kept cx,?_⟩
  ·cases j with
   | zero=>cases e2
   | succ j=>
   cases j with
   | zero=>cases e2
   | succ j=>
    obtain ⟨i,y',a1,a2,a3,a4,a5,a6⟩:=B.nC σ j v e2
    have jR:N[j+1+1]?=some y:=e1
    rw [jR] at a1
    cases a1
    obtain ⟨m,hn,hl⟩:=I3.loc
    obtain ⟨u,r,l⟩:=hl i y v a2 a3 a4
    refine ⟨u,r,.inr ⟨a6,?_⟩⟩
    obtain ⟨c,ec⟩:=B.has y a6
    rcases l with ⟨k,_⟩ | ⟨_,c',gQ,z⟩
    ·rcases a5 with q | q <;> (rw [k] at q;cases q)
    ·have:=bP y c ec
     rw [this] at gQ
     cases gQ
     obtain ⟨o,ho,hd⟩:=z
     exact ⟨c,ec,o,cx _ _ ho,hd⟩
  ·obtain ⟨v,o,ho,hd⟩:=I3.cell y c (bP y c e)
   exact ⟨v,o,cx _ _ ho,hd⟩
  ·exact I3.aw.fresh (aD _)
  ·show (none::none::ρ σ).length=N.length
   rw [eE,eE]
   exact B.len σ I.len
 have nK:∀b o,s3.heap.get? b=some o→b≠s3.heap.objs.size:=below
 have fin:∀{σ':St} {H':Hp} {s':Shared},Inv (X.aZ N scope cl s3 (upd H2 D (.lst [])) fp) [] σ' H' s'→D0.nx (σ.set i0 (some (.ref D))) H'→compPost (model X.prog X.w) X.A X.xe (some (assign (.Name y9 qT) X.env)) (fun _ s'=>SP X pins D0 .next s') (.ref D) s3.heap.objs.size (.ok .next) s':=fun{σ' H' s'} J q=>by
  obtain ⟨m,hn,_⟩:=J.loc
  have hn:s'.heap.Ns s3.heap.objs.size m:=hn
  have JC:H' s3.heap.objs.size=none:=J.free
  have u1:Un (cf X.stack) fp (upd H2 D (.lst [])) H' s3.heap s'.heap:=by
   refine ⟨fun b o e n hb hx=>J.base.keep b o e n hb hx,fun b o e n hb hx=>J.base.slot b o e n hb hx,J.base.free,fun b o e hx=>J.base.there b o e hx,J.base.fG,J.base.fm,J.base.fH⟩
  have IX:Inv X pins σ H' s':=I3.kH (ch:=fp) (J.os) u1 J.aw J.bare fun b hb=>by
   obtain ⟨g0,g1,g2,g3,g4,g5⟩:=f2 b hb
   exact ⟨g3,g1,g4,g5⟩
  have nl:X.env.locals≠s3.heap.objs.size:=by
   obtain ⟨m3,⟨o3,_,_,e3,_⟩,_⟩:=I3.loc
   exact nK _ _ e3
  have nc:∀z c,X.env.cells.lookup z=some c→c≠s3.heap.objs.size:=fun z c e=>by
   obtain ⟨v3,o3,e3,_⟩:=I3.cell z c e
   exact nK _ _ e3
  refine wpAny_assign_Name (zi (v:=.ref D) IX hN Af hy rfl (fun ie nM nN=>?_) hf)
  obtain ⟨a,nN,ha⟩:=nN
  have na:s3.heap.objs.size≠a:=by
   rcases ha with rfl | e
   ·exact fun z=>nl z.symm
   ·exact fun z=>nc _ _ e z.symm
  refine ⟨m,hn.sameBut nN na,fun h' dD=>⟨σ.set i0 (some (.ref D)),H',?_,q⟩⟩
  have u2:Un (cf X.stack) [s3.heap.objs.size] H' H' ie.heap h':=by
   refine ⟨fun b o e n hb hx=>(dD.2 b (by simpa using hx)).trans e,fun b o e n hb hx=>⟨o.slots,(dD.2 b (by simpa using hx)).trans e⟩,fun b o e n hx=>n,fun b o e hx=>⟨o,(dD.2 b (by simpa using hx)).trans e⟩,fun b xs z=>z,fun b o u z=>z,fun b ps z=>⟨#[],by simpa using z⟩⟩
  have kU:bU X.prog X.w H' h':=fun b u e=>by
   refine (nM.aw b u e).hE (fun c v hc z=>(dD.2 c fun y=>?_).trans z) (fun _ z=>z) fun _ _ z=>z
   have y':c=s3.heap.objs.size:=y
   rcases hc with hc | hc
   ·rw [←hc,y',JC] at e
    cases e
   ·rw [y',JC] at hc
    cases hc
  refine nM.kH (s':={ie with heap:=h'}) (ch:=[s3.heap.objs.size]) rfl u2 kU nM.bare fun b hb=>?_
  have eb:b=s3.heap.objs.size:=by simpa using hb
  subst eb
  refine ⟨.inr I3.sz,fun z=>nl z.symm,fun z c e=>nc z c e,fun p hp=>?_⟩
  exact nK _ _ (I3.pin p hp).1
 have dM:∀{H':Hp},(∀b∈fp,H' b=none)→∀b∈fp,jd (X.aZ N scope cl s3 (upd H2 D (.lst [])) fp) [] H' b:=fun hn b hb=>by
  refine ⟨hn b hb,?_,?_,.inl hb,fun y c e z=>(f2 b hb).2.2.2.2.1 y c (bP y c e) z,fun p hp=>nomatch hp⟩
  ·obtain ⟨o,e,_⟩:=eJ b hb
   exact below b o (di b o e)
  ·exact cY.kD b hb
 have loop:∀tk:Nat,codeAny (model X.prog X.w) X.A (.compLoop (.ListComp elt [⟨.Tuple [.Name x px,.Name y py] jk tp,iter,ifs,0⟩] scope pos) 0 (.ref it) (.ref D) (compEnvC scope cl s3.heap.objs.size X.env))
   (compPost (model X.prog X.w) X.A X.xe (some (assign (.Name y9 qT) X.env)) (fun _ s'=>SP X pins D0 .next s') (.ref D) s3.heap.objs.size) {s3 with heap:=h₁,toks:=tk}:=fun tk=>by
  refine Eb (fun n s'=>∃i ys o o2 H',Inv (X.aZ N scope cl s3 (upd H2 D (.lst [])) fp) [] (o::o2::ρ σ) H' s'∧tn i s'.heap∧(∀b∈fp,H' b=none)∧W i n ys H') ?_ m0
   ⟨0,[],none,none,_,IB tk,T.keep _ _ _ df fun b hb o e=>cx _ _ (di _ _ e),fun b hb=>by rw [aN (kR b hb)];exact (f2 b hb).1,w0⟩
  rintro n s4 ⟨i,ys,o,o2,H4,I4,gR,gS,w4⟩
  obtain ⟨wH,kW⟩:=turn i n ys H4 w4
  rcases kW with ⟨stop,qn⟩ | ⟨go,step⟩
  ·refine bF (T.done (X.aZ N scope cl s3 (upd H2 D (.lst [])) fp) rfl rfl rfl hc i [] s4 _ H4 (fun _ _=>False) I4 (dM gS) gR stop) (fun r s5 ⟨hr,I5⟩=>?_) fun _ _ z=>z.elim
   subst hr
   exact fin I5 qn
  ·refine bF (T.item (X.aZ N scope cl s3 (upd H2 D (.lst [])) fp) rfl rfl rfl hc i [] s4 _ H4 (fun _ _=>False) I4 (dM gS) gR go) (fun r s5 ⟨u,hr,h5⟩=>?_) fun _ _ z=>z.elim
   subst hr
   refine bF h5 (fun _ s5 ⟨y0,H5,I5,r5,y5,dN,je⟩=>?_) fun _ _ z=>z.elim
   obtain ⟨Tt,x1,x2,e0,Aj,kX⟩:=step y0 _ y5
   subst e0
   have jf:=I5.pinned (dM je) (T.obj _ _ dN)
   have pg:PG (X.aZ N scope cl s3 (upd H2 D (.lst [])) fp) (.Tuple [.Name x px,.Name y py] jk tp) (zt X.K 2 (uA (b6 0) (uA (b6 1) zq))):=
    mZ (X:=X.aZ N scope cl s3 (upd H2 D (.lst [])) fp) hc (gM (cA (i:=0) B.nd B.n0 (.inl (iL B.hx)) (.inr (iL B.hx))) (gM (cA (i:=1) B.nd B.n1 (.inl (iL B.hy)) (.inr (iL B.hy))) mY))
   have again:∀{σ7:St} {H7:Hp} {s7:Shared},Inv (X.aZ N scope cl s3 (upd H2 D (.lst [])) fp) ([]++gO fp s5.heap) σ7 H7 s7→Inv (X.aZ N scope cl s3 (upd H2 D (.lst [])) fp) [] σ7 H7 s7∧tn (i+1) s7.heap∧∀b∈fp,H7 b=none:=fun{σ7 H7 s7} I7=>by
    refine ⟨I7.lT,T.keep _ _ _ dN fun b hb o e=>(I7.pin (b,o) (cV _ (cV _ (iQ hb e)))).1,fun b hb=>?_⟩
    obtain ⟨o,e,d⟩:=T.obj _ _ dN b hb
    exact (I7.pin (b,o) (cV _ (cV _ (iQ hb e)))).2.1
   refine bF (pg _ s5 _ H5 (.ref Tt) u (fun σ2 H6=>σ2=some x1::some x2::ρ σ∧H6=H5) jf r5 ⟨Tt,_,rfl,Aj,rfl,_,_,rfl,_,_,rfl,rfl,rfl,rfl⟩) (fun _ s6 ⟨σ6,H6,I6,q6⟩=>?_) fun _ _ z=>z.elim
   obtain ⟨rfl,rfl⟩:=q6
   have tests:∀{eY:TT},iV (X.aZ N scope cl s3 (upd H2 D (.lst [])) fp) ifs eY→∀{R:Bool→Hp→Prop},eY (some x1::some x2::ρ σ) H6 R→wpAny (model X.prog X.w) X.A
     (forIn ifs true fun c r=>if r=true then do let ok ←isTrue c (compEnvC scope cl s3.heap.objs.size X.env) (eval c (compEnvC scope cl s3.heap.objs.size X.env));pure (ForInStep.yield ok) else pure (ForInStep.yield r))
     (fun ok s7=>∃H7,Inv (X.aZ N scope cl s3 (upd H2 D (.lst [])) fp) ([]++gO fp s5.heap) (some x1::some x2::ρ σ) H7 s7∧R ok H7) (fun _ _=>False) s6:=fun{eY} p {R} hR=>by
    cases p with
    | nil=>exact ub ⟨_,I6,hR⟩
    | one p=>exact uc (p _ s6 _ _ _ I6 hR)
   refine bF (tests (ht s3 _ fp) kX) (fun ok s7 ⟨H7,I7,q7⟩=>?_) fun _ _ z=>z.elim
   cases ok with
   | false=>
    obtain ⟨m',dZ,w7⟩:=q7
    obtain ⟨a1,a2,a3⟩:=again I7
    exact ⟨m',dZ,i+1,ys,_,_,H7,a1,a2,a3,w7⟩
   | true=>
    refine bF (he s3 _ fp _ s7 _ H7 _ I7 q7) (fun ev s8 ⟨z,H8,I8,r8,kY,hz,m',dZ,w8⟩=>?_) fun _ _ z=>z.elim
    refine bF (qp (X:=X.aZ N scope cl s3 (upd H2 D (.lst [])) fp) _ s8 _ H8 (.ref D) [z] (.ref D) [ev] (fun _ H9=>H9=upd H8 D (.lst (ys++[z]))) I8 rfl (.cons r8 .nil) ⟨D,ys,z,rfl,rfl,kY,hz,rfl⟩) (fun _ s9 ⟨_,H9,I9,_,q9⟩=>?_) fun _ _ z=>z.elim
    subst q9
    obtain ⟨a1,a2,a3⟩:=again I9
    exact ⟨m',dZ,i+1,ys++[z],_,_,_,a1,a2,a3,w8⟩
 have start:=loop (s3.toks+([]:List (Str×Value)).length)
 have es:({s3 with heap:=h₁,toks:=s3.toks+([]:List (Str×Value)).length}:Shared)={s2 with heap:=h₁,toks:=s2.toks+([]:List (Str×Value)).length}:=by rw [←dh]
 rw [es] at start
 exact ud start (T.self _ 0 _ _ _ (T.keep _ _ _ df fun b hb o e=>cx _ _ (di _ _ e)) start)
end
section
variable {X:Cx} {e:Expr} {te:TE} {pos p2:Pos}
end
end L2
namespace My
open PySem L2
theorem xv{q:Int}(hq:a7 q){M Mt:aF}{n:Nat}(ht:∀i j,i<n→j<n→Mt i j=M j i):∀{C:List Nat},(∀c∈C,c<n)→bZ q M C→bZ q Mt C∧aA Mt C=aA M C∧∀i j,i<n→j<n→az Mt C (Mt i) j=az M C (M j) i
 | [],_,_=>⟨trivial,rfl,fun i j hi hj=>by rw [uZ,uZ];exact ht i j hi hj⟩
 | p::C,hC,g=>by
  have hp:=hC p (gg ..);obtain ⟨g1,d1,e1⟩:=xv hq ht (fun c hc=>hC c (fO _ hc)) g.1;have AZ:=e1 p p hp hp;refine ⟨⟨g1,by rw [AZ];exact g.2⟩,AZ,fun i j hi hj=>?_⟩
  have s1:=qM hq g1 p (Mt i) j;have s2:=qM hq g.1 p (M j) i;rw [AZ,e1 i j hi hj,e1 i p hi hp,e1 p j hp hj,d1] at s1;have e:aA M C*az Mt (p::C) (Mt i) j=aA M C*az M (p::C) (M j) i:=by rw [←s1,←s2];grind
  exact Int.eq_of_mul_eq_mul_left (u0 (ju hq g.1)) e
def dy(n:Nat)(f:Nat→Nat→Int×Int):Nat→Nat→Int×Int:=fun i j=>if j<n then f j i else f i j
section
variable {q:Int} {n:Nat} {f:Nat→Nat→Int×Int} {o:List Nat}
theorem A0(i j:Nat)(hi:i<n)(hj:j<n):bR q n (dy n f) i j=bR q n f j i:=by
 have h1:i<n∧j≤n:=⟨hi,by lia⟩
 have h2:j<n∧i≤n:=⟨hj,by lia⟩
 unfold bR dy;simp only [h1,h2,hj,and_self,if_true]
theorem O3(h:∀i j,i<n→j≤n→gX q (f i j).1 (f i j).2):∀i j,i<n→j≤n→gX q (dy n f i j).1 (dy n f i j).2:=fun i j hi hj=>by
 unfold dy
 split
 ·rename_i h1
  exact h j i h1 (by lia)
 ·exact h i j hi hj
theorem Fu{i j:Nat}(hi:i<n)(hj:j<n):bN (dw n n (dy n f)) i j=bN (dw n n f) i j:=by
 have e:∀a b,a<n→b<n→jr (dw n n (dy n f)) a b=jr (dw n n f) b a:=fun a b ha hb=>by have h1:=xl (f:=dy n f) (m:=n) ha hb;have h2:=xl (f:=f) (m:=n) hb ha;unfold atT at h1 h2;unfold jr;rw [h1,h2];unfold dy;rw [ao hb]
 unfold bN;rw [e i j hi hj,e j i hj hi,Bool.or_comm]
theorem O4:aL n (cL n (bN (dw n n (dy n f))) n)=aL n (cL n (bN (dw n n f)) n):=by
 have mm:∀{z:Int×Int},z∈cL n (bN (dw n n (dy n f))) n↔z∈cL n (bN (dw n n f)) n:=fun{z}=>by
  constructor
  ·intro h
   obtain ⟨i,j,h1,h2,h3,h4,rfl⟩:=mem_of h;exact uY h2 h3 (by rw [←Fu (by lia) h3];exact h4) h1
  ·intro h
   obtain ⟨i,j,h1,h2,h3,h4,rfl⟩:=mem_of h;exact uY h2 h3 (by rw [Fu (by lia) h3];exact h4) h1
 funext a b
 unfold aL;rw [mm,mm]
theorem O5(hq:a7 q)(ho:o.Perm (List.range n)){k:Nat}:(bZ q (bR q n (dy n f)) (cO o k)↔bZ q (bR q n f) (cO o k))∧(bZ q (bR q n f) (cO o k)→aA (bR q n (dy n f)) (cO o k)=aA (bR q n f) (cO o k)∧∀i j,i<n→j<n→az (bR q n (dy n f)) (cO o k) (bR q n (dy n f) i) j=az (bR q n f) (cO o k) (bR q n f j) i):=by have lc:∀c∈cO o k,c<n:=fun c hc=>((cN ho).mp hc).1;refine ⟨⟨fun g=>(xv hq (fun i j hi hj=>(A0 j i hj hi).symm) lc g).1,fun g=>(xv hq A0 lc g).1⟩,fun g=>(xv hq A0 lc g).2⟩
end
variable {H:Hp} {q:Int} {tab:Addr} {n:Nat} {rs:Nat→Addr} {vf:Nat→Nat→V} {f:Nat→Nat→Int×Int}
theorem fA.turn{od am a2:Addr}{o:List Nat}{r2:Nat→Addr}{av:Nat→V}(h:fA H q tab od am n o rs vf av f)(w:WTab H a2 n r2 (fun i j=>vf j i)):fA H q a2 od am n o r2 (fun i j=>vf j i) av (dy n f):=
 ⟨w,h.ord,h.qR,h.AV,fun i j hi hj=>by unfold dy;rw [ao hj];exact h.num j i hj hi,fun i hi=>by unfold dy;rw [ah (by lia)];exact h.AW i hi,O3 h.sm⟩
def O6:Sp:=fun vs H Q _=>∃(a:Addr) (n:Nat) (ra:Nat→Addr) (vf:Nat→Nat→V),vs=[.ref a]∧i6 H a n n ra vf∧n≤40∧∀(D:Addr) (rr:Nat→Addr) (H':Hp),ae H H'→H D=none→WTab H' D n rr (fun i j=>vf j i)→(∀i,i<n→H (rr i)=none)→Q (.ref D) H'
def O7(K:ay):Sp:=fun vs H Q _=>∃(P a td:Addr) (ns:List Int) (q:Int),vs=[.ref P,.ref td]∧cj H P a∧bC K (er P H) a (ns.map V.int)∧jq (er P H) td q∧a7 q∧∀(v:V) (x m:Int) (H':Hp),aX P H H'→cj H' P a→bE 1000 (er P H') q v x m→gX q x m→Q v H'
def O8(K:ay):Sp:=fun vs H Q _=>∃(P a td:Addr) (ns:List Int) (q:Int) (n:Nat),vs=[.ref P,.ref td,.int (n:Int)]∧cj H P a∧bC K (er P H) a (ns.map V.int)∧jq (er P H) td q∧a7 q∧n≤40∧∀(r:Addr) (lv:Nat→V) (f:Nat→Int×Int) (H':Hp),aX P H H'→cj H' P a→er P H r=none→r≠P→b_ (er P H') r n lv→(∀j,j<n→bE 1000 (er P H') q (lv j) (f j).1 (f j).2∧gX q (f j).1 (f j).2)→Q (.ref r) H'
def O9(K:ay):Sp:=fun vs H Q _=>∃(P a:Addr) (ns:List Int),vs=[.ref P]∧cj H P a∧bC K (er P H) a (ns.map V.int)∧∀(td:Addr) (q:Int) (H':Hp),aX P H H'→cj H' P a→jq (er P H') td q→a7 q→Q (.ref td) H'
def O_(C:Addr):Sp:=fun vs H Q _=>∃(z tab od am:Addr) (q:Int) (n:Nat) (o:List Nat) (rt:Nat→Addr) (vf:Nat→Nat→V) (av:Nat→V) (f:Nat→Nat→Int×Int),vs=[.ref z,.ref tab,.ref od,.ref am]∧cZ C H z q∧a7 q∧1≤n∧n≤6∧fA H q tab od am n o rt vf av f∧∀H',ae H H'→Q (.bl true) H'
variable {wi:TI} {ρ:St→St} {te:TE} {σ:St} {Q:VK} {P a:Addr}
theorem Pa(hn:n<sizeLine)(p1:cj H P a)(iy:∀R:It→Hp→Prop,R (jO 0 n) H→wi σ H R)
  (Pr:Addr→Nat→V→Hp→Prop) (mono:∀D i y Hc H' ys,Pr D i y Hc→Hc D=some (.lst ys)→D≠P→(∀b o,b≠D→b≠P→Hc b=some o→H' b=some o)→Pr D i y H')
  (step:∀(D:Addr) (i:Nat),i<n→∀(Hc:Hp) (R:VK),aX P H Hc→cj Hc P a→(∃ys,Hc D=some (.lst ys))→D≠P→(∀y H3,aX P Hc H3→cj H3 P a→Pr D i y H3→R y H3)→te (some (.int (0+(i:Int)))::ρ σ) Hc R)
  (fin:∀(D:Addr) (ys:List V) (Hc:Hp),D≠P→H D=none→aX P H Hc→cj Hc P a→ys.length=n→(∀(i:Nat) (y:V),ys[i]?=some y→Pr D i y Hc)→Hc D=some (.lst ys)→Q (.ref D) Hc):ir wi ρ (fun _ H Q=>Q true H) te σ H Q:=by
 refine iy _ ?_;intro D nD;have nP:=p1.ne nD;refine ⟨fun i m ys Hc=>m=n-i∧i≤n∧Hc D=some (.lst ys)∧aX P H Hc∧cj Hc P a∧ys.length=i∧∀j y,ys[j]?=some y→Pr D j y Hc,⟨_,rfl,cu _,ax,(aX.refl H).but nD,p1.upd nP,rfl,fun j y e=>by simp at e⟩,?_⟩
 rintro i m ys Hc ⟨rfl,hi,eD,sH,pc,el,hP⟩;refine ⟨eD,?_⟩;by_cases bO:i<n
 ·refine .inr ⟨bO,fun x H' hy=>?_⟩
  obtain ⟨rfl,rfl⟩:=hy;rw [ao rfl];refine step D i (by lia) _ _ sH pc ⟨ys,eD⟩ nP fun y H3 s3 p3 hp=>?_
  have e3:=s3.at nP eD;refine ⟨e3,by lia,n-(i+1),by lia,rfl,bO,ax,(sH.trans s3).but nD,p3.upd nP,by simp [el],fun j y' e=>?_⟩
  have bG:∀b o,b≠D→b≠P→H3 b=some o→upd H3 D (.lst (ys++[y])) b=some o:=fun b o nb _ e=>by rw [aN nb];exact e
  by_cases hj:j<i
  ·have e':ys[j]?=some y':=by rw [lM (by lia)] at e;exact e
   refine mono D j y' H' _ ys (hP j y' e') eD nP fun b o nb np e=>?_;exact bG b o nb np (s3.at np e)
  ·have hj:j=i:=by have:=(cq.mp e).1;simp at this;lia
   subst hj;have e':y'=y:=by rw [lL (by lia),el,Nat.sub_self] at e;simpa using e.symm
   subst e';exact mono D _ _ H3 _ ys hp e3 nP bG
 ·have e:i=n:=by lia
  subst e;exact .inl ⟨aD _,fin D ys Hc nP nD sH pc el hP eD⟩
theorem Pb(hn:n<sizeLine)(p1:cj H P a)(iy:∀R:It→Hp→Prop,R (jO 0 n) H→wi σ H R)
  (Pr:Addr→Nat→Addr→Hp→Prop) (mono:∀D i y Hc H' ys,Pr D i y Hc→y≠D→y≠P→Hc D=some (.lst ys)→D≠P→(∀b o,b≠D→b≠P→Hc b=some o→H' b=some o)→Pr D i y H')
  (step:∀(D:Addr) (i:Nat),i<n→∀(Hc:Hp) (R:VK),aX P H Hc→cj Hc P a→(∃ys,Hc D=some (.lst ys))→D≠P→(∀y H3,aX P Hc H3→cj H3 P a→er P Hc y=none→y≠P→(∃o,H3 y=some o)→Pr D i y H3→R (.ref y) H3)→te (some (.int (0+(i:Int)))::ρ σ) Hc R)
  (fin:∀(D:Addr) (A:Nat→Addr) (Hc:Hp),D≠P→H D=none→aX P H Hc→cj Hc P a→(∀i j,i<n→j<n→A i=A j→i=j)→(∀i,i<n→Pr D i (A i) Hc∧A i≠D∧A i≠P)→Hc D=some (.lst ((List.range n).map fun i=>V.ref (A i)))→Q (.ref D) Hc):ir wi ρ (fun _ H Q=>Q true H) te σ H Q:=by
 refine iy _ ?_;intro D nD;have nP:=p1.ne nD;refine ⟨fun i m ys Hc=>m=n-i∧i≤n∧Hc D=some (.lst ys)∧aX P H Hc∧cj Hc P a∧∃A:Nat→Addr,ys=(List.range i).map (fun j=>V.ref (A j))∧(∀a b,a<i→b<i→A a=A b→a=b)∧∀j,j<i→Pr D j (A j) Hc∧A j≠D∧A j≠P∧∃o,Hc (A j)=some o,⟨_,rfl,cu _,ax,(aX.refl H).but nD,p1.upd nP,fun _=>D,rfl,(fun a b h=>by lia),fun j h=>by lia⟩,?_⟩
 rintro i m ys Hc ⟨rfl,hi,eD,sH,pc,A,rfl,inj,hA⟩;refine ⟨eD,?_⟩;by_cases bO:i<n
 ·refine .inr ⟨bO,fun x H' hy=>?_⟩
  obtain ⟨rfl,rfl⟩:=hy;rw [ao rfl];refine step D i (by lia) _ _ sH pc ⟨_,eD⟩ nP fun y H3 s3 p3 ny yP ⟨o,ho⟩ hp=>?_
  have e3:=s3.at nP eD;rw [jn yP] at ny;have yD:y≠D:=fun e=>by rw [e,eD] at ny;cases ny
  have bG:∀b o,b≠D→b≠P→H3 b=some o→upd H3 D (.lst ((List.range i).map (fun j=>V.ref (A j))++[.ref y])) b=some o:=fun b o nb _ e=>by rw [aN nb];exact e
  have nA:∀j,j<i→A j≠y:=fun j hj e=>by obtain ⟨_,_,_,o',h'⟩:=hA j hj;rw [e,ny] at h';cases h'
  refine ⟨e3,by simp;lia,n-(i+1),by lia,rfl,bO,ax,(sH.trans s3).but nD,p3.upd nP,fun j=>if j=i then y else A j,?_,fun a b ha hb e=>?_,fun j hj=>?_⟩
  ·rw [List.range_succ,uj]
   congr 1
   ·refine iM fun j hj=>?_
    dsimp only;rw [ah (by have:=fD.mp hj;lia)]
   ·simp
  ·dsimp only at e
   by_cases z1:a=i
   ·by_cases z2:b=i
    ·lia
    ·rw [ao z1,ah z2] at e
     exact absurd e.symm (nA b (by lia))
   ·by_cases z2:b=i
    ·rw [ah z1,ao z2] at e
     exact absurd e (nA a (by lia))
    ·rw [ah z1,ah z2] at e
     exact inj a b (by lia) (by lia) e
  ·dsimp only
   by_cases z:j=i
   ·rw [ao z,z]
    exact ⟨mono D i y H3 _ _ hp yD yP e3 nP bG,yD,yP,o,bG _ _ yD yP ho⟩
   ·rw [ah z]
    obtain ⟨h1,h2,h3,o',h4⟩:=hA j (by lia)
    have f':∀b o,b≠D→b≠P→H' b=some o→upd H3 D (.lst ((List.range i).map (fun j=>V.ref (A j))++[.ref y])) b=some o:=fun b o nb np e=>bG b o nb np (s3.at np e);exact ⟨mono D j (A j) H' _ _ h1 h2 h3 eD nP f',h2,h3,o',f' _ _ h2 h3 h4⟩
 ·have e:i=n:=by lia
  subst e;exact .inl ⟨aD _,fin D A Hc nP nD sH pc inj (fun j hj=>⟨(hA j hj).1,(hA j hj).2.1,(hA j hj).2.2.1⟩) eD⟩
variable {v:V} {x m:Int}
theorem bE.A1{B:Nat}(h:bE B H q v x m)(p:cj H P a):bE B (My.er P H) q v x m:=by
 obtain ⟨y,z,e,_⟩:=p;cases h with
 | bK e' l bx bm=>exact .bK (nQ (fun zz=>by rw [zz,e] at e';cases e') e') l bx bm
 | rem a b c=>exact .rem a b c
theorem Fv:∀c∈List.range 7,∀d∈List.range 3,(((c:Int)-3) % (1+(d:Int))≠0→Int.gcd ((c:Int)-3) (1+(d:Int))=1∧(1+(d:Int))∣6)∧(((c:Int)-3).fdiv (1+(d:Int))).natAbs≤3:=by decide
theorem Pc{b:Addr}{o:HO}(h:b≠P):My.er P (upd H b o)=upd (My.er P H) b o:=funext fun c=>by
 by_cases e:c=P
 ·subst e
  rw [aN (Ne.symm h)];unfold My.er;rw [ao rfl,ao rfl]
 ·rw [jn e]
  by_cases e2:c=b
  ·subst e2
   rw [ax,ax]
  ·rw [aN e2,aN e2,jn e]
structure mq (G:Hp) (q:Int) (tab:Addr) (n:Nat) (rs:Nat→Addr) (vf:Nat→Nat→V) (f:Nat→Nat→Int×Int):Prop where
 tab:WTab G tab n rs vf
 num:∀i j,i<n→j<n→bE 1000 G q (vf i j) (f i j).1 (f i j).2∧gX q (f i j).1 (f i j).2
variable {G:Hp}
theorem mq.mono{G':Hp}(h:mq G q tab n rs vf f)(s:ae G G'):mq G' q tab n rs vf f:=⟨h.tab.mono s,fun i j hi hj=>⟨(h.num i j hi hj).1.mono s,(h.num i j hi hj).2⟩⟩
theorem mq.put{i j:Nat}(h:mq G q tab n rs vf f)(hi:i<n)(hv:bE 1000 G q v x m)(sm:gX q x m):mq (upd G (rs i) (.lst (((List.range n).map (vf i)).set j v))) q tab n rs (mh vf i j v) (fun i' j'=>if i'=i∧j'=j then (x,m) else f i' j'):=by
 refine ⟨h.tab.put v hi,fun i' j' dj dP=>?_⟩;unfold mh;by_cases e:i'=i∧j'=j
 ·rw [ao e,ao e]
  exact ⟨hv.bG (h.tab.at' i hi) fun b o ne e=>by rw [aN ne];exact e,sm⟩
 ·rw [ah e,ah e]
  exact ⟨(h.num i' j' dj dP).1.bG (h.tab.at' i hi) fun b o ne e=>by rw [aN ne];exact e,(h.num i' j' dj dP).2⟩
theorem Pd(hq:a7 q):gX q 0 1:=⟨fun _=>⟨by decide,by decide,by decide⟩,fun z=>by rcases hq with h | h;exact absurd h z;exact ⟨by decide,by lia,h.2.1,rfl⟩⟩
end My
set_option maxRecDepth 100000
set_option maxHeartbeats 4000000
namespace My
open PySem L2
def top(i:Nat):Stmt:=PySem.Challenge.pw_bandwright_k98_whole_turned_about.main.body.getD i (.Pass ⟨0,0,0,0⟩)
abbrev xw:Stmt:=top 8
abbrev xx:Stmt:=top 9
abbrev xy:Stmt:=top 10
abbrev xA:Stmt:=top 14
abbrev A2:Stmt:=top 15
abbrev xB:Stmt:=top 16
abbrev xC:Stmt:=top 17
abbrev xD:Stmt:=top 19
abbrev xE:Stmt:=top 20
abbrev xF:Stmt:=top 21
abbrev xG:Stmt:=top 23
abbrev xH:Stmt:=top 24
abbrev xI:Stmt:=top 25
abbrev xJ:Stmt:=top 26
abbrev xK:Stmt:=top 27
abbrev xM:Stmt:=top 28
abbrev xN:Stmt:=top 30
abbrev xO:Stmt:=top 31
abbrev xP:Stmt:=top 33
abbrev xQ:Stmt:=top 34
abbrev xR:Stmt:=top 35
abbrev xS:Stmt:=top 36
abbrev xT:Stmt:=top 37
abbrev xU:Stmt:=top 39
abbrev xV:Stmt:=top 40
abbrev xW:Stmt:=top 41
abbrev xX:Stmt:=top 42
abbrev xY:Stmt:=top 44
abbrev xZ:Stmt:=top 45
abbrev x3:Stmt:=top 46
abbrev x4:Stmt:=top 47
abbrev x5:Stmt:=top 48
abbrev x6:Stmt:=top 50
abbrev x8:Stmt:=top 51
abbrev x9:Stmt:=top 54
abbrev x_:Stmt:=top 55
abbrev ya:Stmt:=top 58
abbrev yb:Stmt:=top 59
abbrev yc:Stmt:=top 60
abbrev yd:Stmt:=top 61
abbrev ye:Stmt:=top 62
abbrev yf:Stmt:=top 63
abbrev yg:Stmt:=top 64
abbrev yh:Stmt:=top 65
abbrev yi:Stmt:=top 66
abbrev yj:Stmt:=inClass (top 56) 0
abbrev i9:Stmt:=inClass (top 56) 3
abbrev A3:Stmt:=inClass (top 56) 4
abbrev yk:Stmt:=inClass (top 56) 5
abbrev yl:Stmt:=inClass (top 56) 6
abbrev ym:Stmt:=inClass (top 56) 7
set_option genInjectivity false in
set_option genSizeOf false in
structure A4 where
 n8:Addr
 qU:FuncData
 n_:Addr
 qV:FuncData
 oa:Addr
 qW:FuncData
 og:Addr
 qX:FuncData
 qY:Addr
 u_:FuncData
 oh:Addr
 qZ:FuncData
 oi:Addr
 q5:FuncData
 oj:Addr
 q8:FuncData
 om:Addr
 q_:FuncData
 oo:Addr
 rb:FuncData
 oq:Addr
 rd:FuncData
 ou:Addr
 rf:FuncData
 ox:Addr
 rg:FuncData
 oy:Addr
 rh:FuncData
 oz:Addr
 rn:FuncData
 oA:Addr
 rq:FuncData
 oB:Addr
 rz:FuncData
 oC:Addr
 rA:FuncData
 oE:Addr
 rB:FuncData
 oF:Addr
 rC:FuncData
 oG:Addr
 rD:FuncData
 oH:Addr
 rE:FuncData
 oI:Addr
 rF:FuncData
 oJ:Addr
 rH:FuncData
 oK:Addr
 rJ:FuncData
 oM:Addr
 rK:FuncData
 oN:Addr
 rM:FuncData
 oO:Addr
 rN:FuncData
 oP:Addr
 rO:FuncData
 oQ:Addr
 rQ:FuncData
 oR:Addr
 rR:FuncData
 oS:Addr
 rT:FuncData
 oT:Addr
 rV:FuncData
 oU:Addr
 rW:FuncData
 oV:Addr
 rX:FuncData
 oW:Addr
 rY:FuncData
 oX:Addr
 rZ:FuncData
 oY:Addr
 r6:FuncData
 oZ:Addr
 r9:FuncData
 o4:Addr
 r_:FuncData
 o6:Addr
 se:FuncData
 o7:Addr
 sg:FuncData
 o8:Addr
 si:FuncData
 o9:Addr
 sj:FuncData
 mr:Addr
 o_:FuncData
 pb:Addr
 sk:FuncData
 lh:Addr
 va:FuncData
 sq:Addr
 vb:FuncData
 pe:Addr
 su:FuncData
 pf:Addr
 sv:FuncData
 ph:Addr
 sA:FuncData
 aP:Addr
 pj:Addr
 gG:Addr
 ke:Addr
 lq:Addr
abbrev bA (mg:cJ) (x:Str) (f:Addr):Prop:=mg x=some (.ref f)
abbrev yo (K:ay) (a:Addr):Prop:=PySem.W.excIn K a [.type "ValueError",.type "Exception",.type "BaseException",.type "object"] "ValueError.__new__"=true
structure Txt (K:ay) (mg:cJ) (t:A4):Prop where
 sC:aC K "width" xw t.n8 t.qU
 Fw:Binds K t.qU ["table"] []
 Fx:bA mg "width" t.n8
 sD:aC K "square_size" xx t.n_ t.qV
 Fy:Binds K t.qV ["table"] []
 Fz:bA mg "square_size" t.n_
 sE:aC K "check_aim" xy t.oa t.qW
 FA:Binds K t.qW ["n","aim"] []
 FC:bA mg "check_aim" t.oa
 pq:aC K "is_whole" xA t.og t.qX
 A5:Binds K t.qX ["thing"] []
 A6:bA mg "is_whole" t.og
 yp:aC K "shortened" A2 t.qY t.u_
 Pe:Binds K t.u_ ["one","other"] []
 Pf:bA mg "shortened" t.qY
 kf:aC K "common_divisor" xB t.oh t.qZ
 sF:Binds K t.qZ ["one","other"] []
 sG:bA mg "common_divisor" t.oh
 sI:aC K "is_prime" xC t.oi t.q5
 FD:Binds K t.q5 ["number"] []
 FE:bA mg "is_prime" t.oi
 sJ:aC K "links_of_place" xD t.oj t.q8
 FF:Binds K t.q8 ["world","table","i"] []
 FG:bA mg "links_of_place" t.oj
 sM:aC K "shape_of" xE t.om t.q_
 FH:Binds K t.q_ ["world","table"] []
 FI:bA mg "shape_of" t.om
 sN:aC K "neighbours" xF t.oo t.rb
 FJ:Binds K t.rb ["shape"] []
 FK:bA mg "neighbours" t.oo
 sO:aC K "is_order" xG t.oq t.rd
 FL:Binds K t.rd ["thing","n"] []
 FN:bA mg "is_order" t.oq
 sP:aC K "check_order" xH t.ou t.rf
 FO:Binds K t.rf ["order","n"] []
 FP:bA mg "check_order" t.ou
 pz:aC K "turns_of" xI t.ox t.rg
 A7:Binds K t.rg ["order"] []
 A8:bA mg "turns_of" t.ox
 sQ:aC K "link_all" xJ t.oy t.rh
 FQ:Binds K t.rh ["linked","places"] []
 FR:bA mg "link_all" t.oy
 sR:aC K "later" xK t.oz t.rn
 FT:Binds K t.rn ["shape","order"] []
 FU:bA mg "later" t.oz
 sS:aC K "place_deeds" xM t.oA t.rq
 FV:Binds K t.rq ["many"] []
 FW:bA mg "place_deeds" t.oA
 sV:aC K "undo_place" xN t.oB t.rz
 FX:Binds K t.rz ["world","work","place","others"] []
 FY:bA mg "undo_place" t.oB
 pA:aC K "packed" xO t.oC t.rA
 A9:Binds K t.rA ["world","table","order"] []
 A_:bA mg "packed" t.oC
 sX:aC K "lower_row" xP t.oE t.rB
 FZ:Binds K t.rB ["world","row","turns","i"] []
 F0:bA mg "lower_row" t.oE
 sY:aC K "upper_row" xQ t.oF t.rC
 F5:Binds K t.rC ["world","row","turns","i"] []
 F8:bA mg "upper_row" t.oF
 sZ:aC K "lower_of" xR t.oG t.rD
 F9:Binds K t.rD ["world","table","turns"] []
 F_:bA mg "lower_of" t.oG
 s_:aC K "upper_of" xS t.oH t.rE
 Ga:Binds K t.rE ["world","table","turns"] []
 Gb:bA mg "upper_of" t.oH
 pB:aC K "factors" xT t.oI t.rF
 Ba:Binds K t.rF ["world","table","order"] []
 Bb:bA mg "factors" t.oI
 tf:aC K "lowered" xU t.oJ t.rH
 Gd:Binds K t.rH ["world","work","others","order","aim"] []
 Ge:bA mg "lowered" t.oJ
 pD:aC K "raised" xV t.oK t.rJ
 Bc:Binds K t.rJ ["world","work","others","places","row"] []
 Bd:bA mg "raised" t.oK
 tj:aC K "tied_move" xW t.oM t.rK
 Gf:Binds K t.rK ["world","work","others","order","many"] []
 Gg:bA mg "tied_move" t.oM
 pE:aC K "along" xX t.oN t.rM
 Be:Binds K t.rM ["world","table","order","aim"] []
 Bf:bA mg "along" t.oN
 tu:aC K "ratio" xY t.oO t.rN
 Gh:Binds K t.rN ["top","bottom"] []
 Gi:bA mg "ratio" t.oO
 tD:aC K "ratio_plus" xZ t.oP t.rO
 Gj:Binds K t.rO ["a","b"] []
 Gk:bA mg "ratio_plus" t.oP
 tE:aC K "ratio_minus" x3 t.oQ t.rQ
 Gm:Binds K t.rQ ["a","b"] []
 Gn:bA mg "ratio_minus" t.oQ
 mw:aC K "ratio_times" x4 t.oR t.rR
 yq:Binds K t.rR ["a","b"] []
 yr:bA mg "ratio_times" t.oR
 tF:aC K "ratio_over" x5 t.oS t.rT
 Gp:Binds K t.rT ["a","b"] []
 Gq:bA mg "ratio_over" t.oS
 tG:aC K "remainder_back" x6 t.oT t.rV
 Gr:Binds K t.rV ["prime","number"] []
 Gs:bA mg "remainder_back" t.oT
 pF:aC K "remainder_over" x8 t.oU t.rW
 Bg:Binds K t.rW ["prime","a","b"] []
 Bh:bA mg "remainder_over" t.oU
 tH:aC K "is_fractions" x9 t.oV t.rX
 Gu:Binds K t.rX ["told"] []
 Gv:bA mg "is_fractions" t.oV
 tI:aC K "is_wheel" x_ t.oW t.rY
 Gw:Binds K t.rY ["told"] []
 Gx:bA mg "is_wheel" t.oW
 tJ:aC K "_law_fill" ya t.oX t.rZ
 Gy:Binds K t.rZ ["_law_cell","_law_at"] []
 Gz:bA mg "_law_fill" t.oX
 gY:aC K "_law_next" yb t.oY t.r6
 kg:Binds K t.r6 ["_law_pen","_law_many"] []
 kh:bA mg "_law_next" t.oY
 tK:aC K "_law_turned" yc t.oZ t.r9
 GA:Binds K t.r9 ["_law_pen","_law_some"] []
 GB:bA mg "_law_turned" t.oZ
 tL:aC K "_law_number" yd t.o4 t.r_
 GC:Binds K t.r_ ["_law_pen","_law_told"] []
 GD:bA mg "_law_number" t.o4
 pG:aC K "_law_row" ye t.o6 t.se
 Bi:Binds K t.se ["_law_pen","_law_told","_law_size"] []
 Bj:bA mg "_law_row" t.o6
 tM:aC K "_law_told_world" yf t.o7 t.sg
 GF:Binds K t.sg ["_law_pen"] []
 GG:bA mg "_law_told_world" t.o7
 pH:aC K "_law_about" yg t.o8 t.si
 Bk:Binds K t.si ["_law_table"] []
 Bl:bA mg "_law_about" t.o8
 tN:aC K "_law_right" yh t.o9 t.sj
 GH:Binds K t.sj ["_law_world","_law_table","_law_order","_law_aim"] []
 GI:bA mg "_law_right" t.o9
 tO:aC K "law" yi t.mr t.o_
 Pg:Binds K t.o_ ["script"] []
 GJ:bA mg "law" t.mr
 vc:dC K "__init__" "World.__init__" yj t.pb t.sk
 GK:Binds K t.sk ["self","told"] []
 yt:Mk K t.aP t.pb
 GL:iw K "of" "World.of" i9 1 t.lh t.va
 Ph:Binds K t.va ["self","top","bottom"] []
 pI:∃v,Vals [V.int 1] [v]∧Binds K t.va ["self","top","bottom"] [v]
 Pj:∀(s:Shared) (us ws:List Value),K.In s.heap→ws.length=1→us.length+1=(["self","top","bottom"]:List Str).length→BindsTo s t.va ⟨us,[("bottom":Str)].zip ws⟩ ((["self","top","bottom"]:List Str).zip (us++ws))
 lx:Meth K t.aP "of" t.lh
 yu:dC K "plus" "World.plus" A3 t.sq t.vb
 Pk:Binds K t.vb ["self","a","b"] []
 Bm:Meth K t.aP "plus" t.sq
 vd:dC K "minus" "World.minus" yk t.pe t.su
 yv:Binds K t.su ["self","a","b"] []
 tP:Meth K t.aP "minus" t.pe
 ve:dC K "times" "World.times" yl t.pf t.sv
 vg:Binds K t.sv ["self","a","b"] []
 pJ:Meth K t.aP "times" t.pf
 vh:dC K "over" "World.over" ym t.ph t.sA
 yw:Binds K t.sA ["self","a","b"] []
 tQ:Meth K t.aP "over" t.ph
 cH:jg K t.aP
 GN:bA mg "World" t.aP
 iD:ng K t.aP "prime"
 GO:bA mg "NoWorld" t.pj
 yy:bA mg "NoOver" t.gG
 yz:bA mg "NoFit" t.ke
 GP:bA mg "NoOrder" t.lq
 Pl:mg "ValueError"=none
 Bn:mg "abs"=none
 GQ:mg "all"=none
 GR:mg "any"=none
 GS:mg "bool"=none
 pK:mg "enumerate"=none
 GU:mg "int"=none
 tR:mg "isinstance"=none
 eC:mg "len"=none
 lA:mg "list"=none
 Pm:mg "max"=none
 Pn:mg "min"=none
 gZ:mg "range"=none
 GV:mg "reversed"=none
 Bo:mg "sorted"=none
 GW:mg "sum"=none
 yA:mg "tuple"=none
 Po:mg "zip"=none
 GX:∃u,mg "GREATEST_PRIME"=some u∧RelV (.int 997) u
 GY:∃u,mg "LONG"=some u∧RelV (.int 2048) u
 GZ:yo K t.pj
 yB:yo K t.gG
 yC:yo K t.ke
 G0:yo K t.lq
section
variable {P:Program} {w:World} {K:ay} {mg:cJ} {base:Heap} {t:A4}
theorem Pp:a9 ["thing"] ["thing"] (aJ xA):=bD
theorem G1(T:Txt K mg t):aT P w K mg base bI 1 t.og t.qX ["thing"] LN:=by
 have S:=Pp;refine T.pq.b9 S (fun _ _ _ _ H _ Q _ hr h=>?_);obtain ⟨v,rfl,ha,k⟩:=h;refine ⟨_,(au (aS (uz (cC (uN (K:=K)) rfl T.tR boot_isinstance (aa (pv 0) (aa (ux (v:=.ty "int") rfl T.GU boot_int rfl) af))) (zl (IT (cC (uN (K:=K)) rfl T.tR boot_isinstance (aa (pv 0) (aa (ux (v:=.ty "bool") rfl T.GS boot_bool rfl) af)))))))),?_⟩;obtain ⟨Ty,ty,k1,k2,_⟩:=ha.zW (K:=K);refine ⟨_,rfl,_,_,_,_,rfl,rfl,ty,k1,_,rfl,cG (fun h1=>?_) (fun h1=>?_)⟩
 ·refine ⟨_,rfl,_,_,_,_,rfl,rfl,ty,k2,_,rfl,?_⟩
  have e:(!qx v)=qw v:=by
   cases h2:qx v with
   | true=>rw [LJ h2];rfl
   | false=>rw [h2,Bool.or_false] at h1;rw [h1];rfl
  show Q (.bl (!qx v)) H;rw [e];exact k
 ·have e:qw v=false:=by
   cases h2:qw v with
   | true=>rw [h2] at h1;exact absurd rfl h1
   | false=>rfl
  rw [e] at k;exact k
theorem Pq:a9 ["one","other","left","shorter"] ["one","other"] (aJ xB):=bD
theorem vi(T:Txt K mg t):aT P w K mg base bI 1 t.oh t.qZ ["one","other"] LO:=by
 have S:=Pq;obtain ⟨uL,hL,rL⟩:=T.GY;refine T.kf.b9 S (fun _ _ _ _ H _ _ _ hr h=>?_);obtain ⟨a,b,rfl,mb,k⟩:=h
 refine ⟨_,(ar (putL 0 S.nd (cC Dj rfl T.Bn boot_abs (aa (pv 0) af)))
  (ar (putL 1 S.nd (cC Dj rfl T.Bn boot_abs (aa (pv 1) af)))
  (ar (v8 dU (bM uD (pv 1) ak) (ar (putL 2 S.nd (aM fW (pv 0) (pv 1)))
  (ar (putL 0 S.nd (pv 1))
  (ar (putL 1 S.nd (pv 2))
  (au (b5 (bM uD (Kz PySem.F.plainAttrs_int PySem.F.slot_int_bit_length PySem.F.type_int_bit_length LH (pv 0)) (CV (v:=.int 2048) rfl hL rL)) I0 cw))))))
  (au (aS (pv 0)))))),?_⟩
 refine ⟨_,rfl,a,rfl,_,rfl,b,rfl,fun m σ H'=>H'=H∧∃(x y:Nat) (v u:Option V),σ=[some (.int (x:Int)),some (.int (y:Int)),v,u]∧m=y∧y≤b.natAbs∧Nat.gcd x y=Int.gcd a b,⟨b.natAbs,rfl,a.natAbs,b.natAbs,none,none,?_,rfl,aD _,rfl⟩,?_⟩
 ·show [some (V.int (if a<0 then -a else a)),some (V.int (if b<0 then -b else b)),none,none]=_
  rw [D4,D4]
 ·rintro m σ H' ⟨rfl,x,y,v,u,rfl,em,hb,hg⟩
  refine ⟨_,rfl,_,_,rfl,rfl,_,rfl,cG (fun hy=>?_) (fun hy=>?_)⟩
  ·have hy:(0:Int)<y:=eF hy
   refine ⟨fun σ' H2=>H2=H'∧σ'=[some (.int (y:Int)),some (.int (((x % y:Nat)):Int)),some (.int (((x % y:Nat)):Int)),u],?_,?_⟩
   ·rintro σ' H2 ⟨rfl,rfl⟩
    exact ⟨x % y,by rw [em];exact Nat.mod_lt _ (by lia),rfl,y,x % y,_,_,rfl,rfl,aV (Nat.le_of_lt (Nat.mod_lt _ (by lia))) hb,by rw [LK];exact hg⟩
   ·have hm:b7 (y:Int):=jE (by rw [Int.natAbs_natCast];exact hb) mb
    have XC:=LI hm;refine ⟨_,rfl,_,rfl,_,_,rfl,rfl,hy,_,rfl,_,rfl,_,rfl,rfl,_,rfl,rfl,_,_,rfl,rfl,_,rfl,cG (fun hz=>?_) (fun _=>⟨rfl,rfl⟩)⟩;have hz:=eF hz;exact absurd hz (by lia)
  ·have hy:¬(0:Int)<y:=fun z=>hy (cX z)
   have y0:y=0:=by lia
   subst y0;rw [Nat.gcd_zero_right] at hg;rw [←hg] at k;exact ⟨_,rfl,k⟩
theorem Pt:a9 ["number","divisor"] ["number"] (aJ xC):=bD
theorem Pu(T:Txt K mg t):aT P w K mg base bI 1 t.oi t.q5 ["number"] LP:=by
 have S:=Pt;refine T.sI.b9 S (fun _ _ _ _ H _ Q _ hr h=>?_);obtain ⟨n,rfl,Pw,qm,k⟩:=h
 refine ⟨_,(ar (putL 1 S.nd ak)
  (ar (v8 dU (bM zD (aM fV (pv 1) (pv 1)) (pv 0)) (ar (b5 (bM hX (aM fW (pv 0) (pv 1)) ak) (au (aS hU)) cw)
  (au (Jg (i:=1) S.nd rfl (Or.inl rfl) ak Jj))))
  (au (aS (ql Df (pv 0) ak))))),?_⟩
 refine ⟨fun m σ H'=>H'=H∧∃d:Int,σ=[some (.int n),some (.int d)]∧2≤d∧d≤32∧m=(33-d).toNat∧∀e:Int,2≤e→e<d→n % e≠0,⟨_,rfl,2,rfl,by lia,by lia,rfl,fun e a b=>by lia⟩,?_⟩
 rintro m σ H' ⟨rfl,d,rfl,h1,h2,rfl,h3⟩;refine ⟨_,rfl,_,rfl,_,_,rfl,rfl,.inl ⟨by lia,by lia⟩,_,rfl,_,_,rfl,rfl,_,rfl,cG (fun hq=>?_) (fun hq=>?_)⟩
 ·have hq:=eF hq
  have hd:d<32:=by
   by_cases z:d<32;·exact z
   ·have:d=32:=by lia
    subst this;lia
  refine ⟨fun σ' H2=>H2=H'∧σ'=[some (.int n),some (.int (d+1))]∧n % d≠0,?_,?_⟩
  ·rintro σ' H2 ⟨rfl,rfl,hm⟩
   refine ⟨(33-(d+1)).toNat,by lia,rfl,d+1,rfl,by lia,by lia,rfl,fun e a b=>?_⟩
   by_cases z:e=d;·subst z;exact hm
   ·exact h3 e a (by lia)
  ·refine ⟨_,rfl,_,rfl,_,_,rfl,rfl,(show (0:Int)<d by lia),rfl,_,rfl,cG (fun hm=>?_) (fun hm=>?_)⟩
   ·have hm:=V.int.inj (eF hm)
    rw [DV qm h1 hq hm] at k;exact k
   ·exact ⟨_,rfl,_,_,rfl,rfl,rfl,rfl,fun z=>hm (cX (gh V.int z))⟩
 ·have hq:¬d*d≤n:=fun z=>hq (cX z)
  refine ⟨_,rfl,_,_,rfl,rfl,?_⟩;rw [Lz (n:=n) (d:=d) (by lia) h1 h3] at k
  have e:decide ((2:Int)≤n)=true:=cX Pw;show Q (.bl (decide ((2:Int)≤n))) H';rw [e];exact k
theorem Px:a9 ["told"] ["told"] (aJ x9):=bD
theorem Py(T:Txt K mg t):aT P w K mg base bI 1 t.oV t.rX ["told"] LQ:=by
 have S:=Px;refine T.tH.b9 S (fun _ _ _ _ H _ _ _ hr h=>?_);obtain ⟨p,d,rfl,hp,k⟩:=h;refine ⟨_,(au (aS (uz (cC (uN (K:=K)) rfl T.tR boot_isinstance (aa (pv 0) (aa (ux (v:=.ty "tuple") rfl T.yA boot_tuple rfl) af))) (uz (ql hX (cC eW rfl T.eC eG (aa (pv 0) af)) ak) (zl (ql hX (aq ba (pv 0) ak) eU)))))),?_⟩;refine ⟨_,rfl,_,_,_,true,rfl,rfl,.of (.tup hp),Ac,true,rfl,iq ?_⟩;cases d with
 | a x=>refine ⟨_,rfl,p,_,rfl,.inr (.of hp),rfl,true,rfl,iq ?_⟩;refine ⟨_,rfl,p,_,0,.str x,rfl,rfl,.of hp,rfl,rfl,?_⟩;rw [Ab];exact k
 | b x n=>exact ⟨_,rfl,p,_,rfl,.inr (.of hp),rfl,false,rfl,dY k⟩
theorem Pz:a9 ["told"] ["told"] (aJ x_):=bD
theorem PB(T:Txt K mg t):aT P w K mg base bI 2 t.oW t.rY ["told"] LR:=by
 have S:=Pz;obtain ⟨uG,hG,rG⟩:=T.GX;refine T.tI.b9 S (fun _ _ _ _ H _ _ _ hr h=>?_);obtain ⟨p,d,rfl,hp,k⟩:=h
 refine ⟨_,(ar (b5 (PW.pt (pw_or (uy (lQ (cC (uN (K:=K)) rfl T.tR boot_isinstance (aa (pv 0) (aa (ux (v:=.ty "tuple") rfl T.yA boot_tuple rfl) af))))) (pw_or (bM kK (cC eW rfl T.eC eG (aa (pv 0) af)) ak) (pw_or1 (bM kK (aq ba (pv 0) ak) eU))))) (au (aS hU)) cw)
  (au (aS (uz (aU (G1 T) hr T.A6 T.pq.kp T.A5 aY (aa (aq ba (pv 0) ak) af)) (uz (JG zD zD ak (aq ba (pv 0) ak) (CV (v:=.int 997) rfl hG rG)) (zl (aU (Pu T) hr T.FE T.sI.kp T.FD aY (aa (aq ba (pv 0) ak) af)))))))),?_⟩
 refine ⟨_,rfl,_,_,_,true,rfl,rfl,.of (.tup hp),Ac,true,rfl,dY ?_⟩;cases d with
 | a x=>exact ⟨_,rfl,p,_,rfl,.inr (.of hp),rfl,true,rfl,iq (iq k)⟩
 | b x n=>
  refine ⟨_,rfl,p,_,rfl,.inr (.of hp),rfl,false,rfl,dY ?_⟩;refine ⟨_,rfl,p,_,0,.str x,rfl,rfl,.of hp,rfl,rfl,_,rfl,cG (fun hw=>?_) (fun hw=>?_)⟩
  ·have hw:¬x="wheel":=by rw [Ab] at hw;simpa using hw
   have e:(Td.b x n).iU=false:=by simp [Td.iU,hw]
   rw [e] at k;exact k
  ·have hw:x="wheel":=by rw [Ab] at hw;simpa using hw
   refine ⟨_,rfl,p,_,1,.int n,rfl,rfl,.of hp,rfl,.int n,rfl,.int n,true,rfl,iq ?_⟩;refine ⟨_,rfl,p,_,1,.int n,rfl,rfl,.of hp,rfl,_,_,rfl,rfl,_,rfl,?_⟩;refine cG (fun h2=>?_) (fun h2=>?_)
   ·have h2:=eF h2
    refine ⟨_,_,rfl,rfl,_,rfl,cG (fun h3=>?_) (fun h3=>?_)⟩
    ·have h3:=eF h3
     refine ⟨_,rfl,p,_,1,.int n,rfl,rfl,.of hp,rfl,n,rfl,h2,h3,?_⟩;have e:(Td.b x n).iU=gP n:=by simp [Td.iU,hw,h2,h3]
     rw [e] at k;exact k
    ·have h3:¬n≤997:=fun z=>h3 (cX z)
     have e:(Td.b x n).iU=false:=by simp [Td.iU,h3]
     rw [e] at k;exact k
   ·have h2:¬2≤n:=fun z=>h2 (cX z)
    have e:(Td.b x n).iU=false:=by simp [Td.iU,h2]
    rw [e] at k;exact ⟨false,rfl,dY k⟩
theorem PD:a9 ["self","told"] ["self","told"] (aJ yj):=bD
theorem PF(T:Txt K mg t):aT P w K mg base (de P w) 3 t.pb t.sk ["self","told"] (LS t.aP t.pj):=by
 have S:=PD;refine T.vc.cY S (fun _ _ _ _ H _ _ _ hr h L=>?_);obtain ⟨x,dx,p,d,rfl,hx,hp,k1,k2⟩:=h;refine ⟨_,(au (b5 (lQ (aU (Py T) hr T.Gv T.tH.kp T.Gu aY (aa (pv 1) af))) (au (Dn (pv 0) kI rfl)) (au (b5 (lQ (aU (PB T) hr T.Gx T.tI.kp T.Gw aY (aa (pv 1) af))) (au (Dn (pv 0) (aq ba (pv 1) ak) rfl)) (au (lY L rfl lO T.GZ rfl T.GO (aa eU af))))))),?_⟩;refine ⟨_,rfl,p,d,rfl,hp,_,rfl,cG (fun hF=>?_) (fun hF=>?_)⟩
 ·refine ⟨_,rfl,x,t.aP,dx,[],rfl,hx,T.cH,T.iD,(by show 0<1000;decide),?_⟩
  have e:d.prime=.aH:=by
   cases d with
   | a x=>rfl
   | b x n=>cases hF
  have k:=k1 (by unfold Td.good;rw [hF];rfl)
  rw [e] at k;exact k
 ·have hF:d.uO=false:=by simpa using hF
  refine ⟨_,rfl,p,d,rfl,hp,_,rfl,cG (fun hW=>?_) (fun hW=>?_)⟩
  ·have k:=k1 (by unfold Td.good;rw [hW,Bool.or_true])
   cases d with
   | a x=>cases hW
   | b y n=>exact ⟨_,rfl,p,_,1,.int n,rfl,rfl,.of hp,rfl,_,rfl,x,t.aP,dx,[],rfl,hx,T.cH,T.iD,(by show 0<1000;decide),k⟩
  ·have hW:d.iU=false:=by simpa using hW
   exact ⟨by show 1≤sizeLine;decide,k2 (by unfold Td.good;rw [hF,hW];rfl)⟩
theorem PH:a9 ["top","bottom","shared"] ["top","bottom"] (aJ xY):=bD
theorem PJ(T:Txt K mg t):aT P w K mg base (de P w) 2 t.oO t.rN ["top","bottom"] (Me t.gG):=by
 have S:=PH;refine T.tu.cY S (fun _ _ _ _ H _ _ _ hr h L=>?_);obtain ⟨a,b,rfl,mb,kE,k⟩:=h
 refine ⟨_,(ar (b5 (bM hX (pv 1) ak) (au (lY L rfl lO T.yB rfl T.yy (aa eU af))) cw)
  (dJ.jN (ar (putL 2 S.nd (aU (vi T) hr T.sG T.kf.kp T.sF aY (aa (pv 0) (aa (pv 1) af))))
  (ar (b5 (bM qk (pv 1) ak) (au (putL 2 S.nd (v9 wa (pv 2)))) cw)
  (au (aS (d7 (aa (aM z6 (pv 0) (pv 2)) (aa (aM z6 (pv 1) (pv 2)) af))))))))),?_⟩
 have n2:2≤sizeLine:=by decide
 refine ⟨_,rfl,rfl,_,rfl,cG (fun hz=>?_) (fun hz=>?_)⟩
 ·have hz:b=0:=V.int.inj (eF hz)
  exact ⟨by show 1≤sizeLine;decide,kE hz⟩
 have hz:b≠0:=fun z=>hz (cX (by rw [z]))
 have ok:=LM (a:=a) hz mb;have kk:=k hz;unfold jV jW at kk;refine ⟨_,rfl,_,rfl,a,b,rfl,mb,_,rfl,_,_,rfl,rfl,_,rfl,cG (fun hn=>?_) (fun hn=>?_)⟩
 ·have hn:b<0:=eF hn
  have e:lowG a b=-(Int.gcd a b:Int):=by unfold lowG;rw [ao hn,qb]
  rw [e] at ok kk;refine ⟨_,rfl,_,rfl,_,rfl,_,rfl,_,_,rfl,rfl,ok,_,rfl,_,rfl,_,_,rfl,rfl,ok,n2,fun r hr=>kk r _ (aW hr) ax⟩
 ·have hn:¬b<0:=fun z=>hn (cX z)
  have e:lowG a b=(Int.gcd a b:Int):=by unfold lowG;rw [ah hn]
  rw [e] at ok kk;refine ⟨_,rfl,_,rfl,_,_,rfl,rfl,ok,_,rfl,_,rfl,_,_,rfl,rfl,ok,n2,fun r hr=>kk r _ (aW hr) ax⟩
theorem PK:a9 ["prime","number","last","last_times","now","now_times","fits","left","left_times"] ["prime","number"] (aJ x6):=bD
theorem PL(T:Txt K mg t):aT P w K mg base (de P w) 1 t.oT t.rV ["prime","number"] (L6 t.gG):=by
 have S:=PK;refine T.tG.cY S (fun _ _ _ _ H _ _ _ hr h L=>?_);obtain ⟨q,b,rfl,q1,q2,q3,b0,b1,kE,k⟩:=h
 refine ⟨_,(ar (b5 (bM hX (pv 1) ak) (au (lY L rfl lO T.yB rfl T.yy (aa eU af))) cw)
  (dJ.jN (ar (putL 2 S.nd (pv 0))
  (ar (putL 3 S.nd ak)
  (ar (putL 4 S.nd (pv 1))
  (ar (putL 5 S.nd ak)
  (ar (v8 dU (bM uD (pv 4) ak) (ar (putL 6 S.nd (aM Jz (pv 2) (pv 4)))
  (ar (putL 7 S.nd (aM qj (pv 2) (aM fV (pv 6) (pv 4))))
  (ar (putL 8 S.nd (aM qj (pv 3) (aM fV (pv 6) (pv 5))))
  (ar (putL 2 S.nd (pv 4))
  (ar (putL 3 S.nd (pv 5))
  (ar (putL 4 S.nd (pv 7))
  (au (putL 5 S.nd (pv 8))))))))))
  (au (aS (aM fW (pv 5) (pv 0))))))))))),?_⟩
 refine ⟨_,rfl,rfl,_,rfl,cG (fun hz=>?_) (fun hz=>?_)⟩
 ·have hz:b=0:=V.int.inj (eF hz)
  exact ⟨by show 1≤sizeLine;decide,kE hz⟩
 have hz:b≠0:=fun z=>hz (cX (by rw [z]))
 refine ⟨_,rfl,_,rfl,fun m σ H'=>H'=H∧∃(l lt n nt:Int) (v1 v2 v3:Option V),σ=[some (.int q),some (.int b),some (.int l),some (.int lt),some (.int n),some (.int nt),v1,v2,v3]∧m=n.toNat∧kZ q b l lt n nt∧l≤997,
  ⟨b.toNat,rfl,q,0,b,1,none,none,none,rfl,rfl,kZ.start q1 q2 q3 (by lia) b1,q2⟩,?_⟩
 rintro m σ H' ⟨rfl,l,lt,n,nt,v1,v2,v3,rfl,em,hb,hl⟩;have p1:=hb.pos;have p2:=hb.less;refine ⟨_,rfl,_,_,rfl,rfl,_,rfl,cG (fun hy=>?_) (fun hy=>?_)⟩
 ·have hy:1<n:=eF hy
  have hs:=hb.step hy;have f0:0≤l / n:=ur (by lia) (by lia)
  have f1:l / n≤l:=Int.ediv_le_self _ (by lia)
  refine ⟨fun σ' H2=>H2=H'∧σ'=[some (.int q),some (.int b),some (.int n),some (.int nt),some (.int (l-l / n*n)),some (.int (lt-l / n*nt)),some (.int (l / n)),some (.int (l-l / n*n)),some (.int (lt-l / n*nt))],?_,?_⟩
  ·rintro σ' H2 ⟨rfl,rfl⟩
   exact ⟨(l-l / n*n).toNat,by rw [em];lia,rfl,_,_,_,_,_,_,_,rfl,rfl,hs.1,by lia⟩
  ·exact ⟨_,rfl,_,rfl,_,_,rfl,rfl,⟨by lia,by lia⟩,_,rfl,_,rfl,_,rfl,_,_,rfl,rfl,.inr ⟨by lia,by lia⟩,_,_,rfl,rfl,
    _,rfl,_,rfl,_,rfl,_,_,rfl,rfl,.inl ⟨by lia,by lia⟩,_,_,rfl,rfl,_,rfl,_,rfl,_,rfl,_,rfl,rfl,rfl⟩
 ·have hy:¬1<n:=fun z=>hy (cX z)
  have n1:n=1:=by lia
  subst n1;exact ⟨_,rfl,_,rfl,_,_,rfl,rfl,(show (0:Int)<q by lia),k hz _ (fP _ (by lia)) (gH _ (by lia)) (hb.done q1)⟩
theorem PM:a9 ["prime","a","b"] ["prime","a","b"] (aJ x8):=bD
theorem G2(T:Txt K mg t):aT P w K mg base (de P w) 2 t.oU t.rW ["prime","a","b"] (L8 t.gG):=by
 have S:=PM;refine T.pF.cY S (fun _ _ _ _ H _ _ _ hr h L=>?_);obtain ⟨q,i,j,rfl,q1,q2,q3,i0,i1,j0,j1,kE,k⟩:=h;refine ⟨_,(au (aS (aM fW (aM fV (pv 1) (aU (PL T) hr T.Gs T.tG.kp T.Gr (lX L) (aa (pv 0) (aa (pv 2) af)))) (pv 0)))),?_⟩
 exact ⟨_,rfl,_,rfl,_,rfl,q,j,rfl,q1,q2,q3,j0,j1,kE,fun hj r r0 r1 lB=>⟨_,_,rfl,rfl,.inl ⟨by lia,by lia⟩,_,rfl,_,_,rfl,rfl,(show (0:Int)<q by lia),
  k hj _ (fP _ (by lia)) (gH _ (by lia)) (Ma q1 i0 i1 lB)⟩⟩
theorem PN:a9 ["self","top","bottom"] ["self","top","bottom"] (aJ i9):=bD
theorem tS(T:Txt K mg t):aT P w K mg base (de P w) 3 t.lh t.va ["self","top","bottom"] (Mf t.aP t.gG):=by
 have S:=PN;refine T.GL.zV S (fun vs H Q E h=>?_) (fun aR A outer s H vs Q E hr h L=>?_)
 ·obtain ⟨z,q,a,b,rfl,_⟩:=h
  rfl
 ·obtain ⟨z,q,a,b,rfl,⟨dx,hx⟩,hq,mb,kE,k⟩:=h
  refine ⟨_,(ar (b5 (bM wb (jP (pv 0) rfl) kI) (au (aS (aU (PJ T) hr T.Gi T.tu.kp T.Gh (lX L) (aa (pv 1) (aa (pv 2) af))))) cw)
   (au (aS (aU (G2 T) hr T.Bh T.pF.kp T.Bg (lX L) (aa (jP (pv 0) rfl) (aa (aM fW (pv 1) (jP (pv 0) rfl)) (aa (aM fW (pv 2) (jP (pv 0) rfl)) af))))))),?_⟩
  refine ⟨_,rfl,z,t.aP,dx,_,_,rfl,hx,T.cH,T.iD,jU _,rfl,_,rfl,?_⟩;rcases hq with rfl | ⟨q2,q3,q4⟩
  ·rw [ao rfl]
   refine iq ⟨_,rfl,_,rfl,a,b,rfl,mb,fun hb=>kE (by unfold l8;rw [ao rfl];exact hb),fun hb r H' s' er=>k (fun hn=>hb (by unfold l8 at hn;rw [ao rfl] at hn;exact hn)) _ H' s' (.inl ⟨rfl,r,rfl,er⟩)⟩
  ·have hq:q≠0:=by lia
   rw [ah hq] at hx ⊢;have p0:(0:Int)<q:=by lia
   refine dY ⟨_,rfl,z,t.aP,dx,_,_,rfl,hx,T.cH,T.iD,jU _,_,rfl,_,rfl,z,t.aP,dx,_,_,rfl,hx,T.cH,T.iD,jU _,_,_,rfl,rfl,p0,_,rfl,_,rfl,z,t.aP,dx,_,_,rfl,hx,T.cH,T.iD,jU _,_,_,rfl,rfl,p0,?_⟩;have nv:l8 q b↔b % q=0:=by unfold l8;rw [ah hq]
   exact ⟨q,a % q,b % q,rfl,q2,q3,q4,fP _ hq,gH _ p0,fP _ hq,gH _ p0,fun hj=>kE (nv.mpr hj),fun hj r r0 r1 lB=>k (fun z=>hj (nv.mp z)) _ H (ae.refl H) (.inr ⟨q2,r,rfl,r0,r1,lB⟩)⟩
theorem PQ:a9 ["a","b","shared","top","again"] ["a","b"] (aJ xZ):=bD
theorem PR(T:Txt K mg t):aT P w K mg base bI 2 t.oP t.rO ["a","b"] L0:=by
 have S:=PQ;refine T.tD.b9 S (fun _ _ _ _ H _ _ _ hr h=>?_);obtain ⟨p,q,x,m,y,n,rfl,hp,hq,la,lb,bx,bm,lC,bn,k⟩:=h
 refine ⟨_,(ar (putL 2 S.nd (aU (vi T) hr T.sG T.kf.kp T.sF aY (aa (aq ba (pv 0) ak) (aa (aq ba (pv 1) ak) af))))
  (ar (b5 (bM hX (pv 2) ak) (au (aS (d7 (aa (aM fU (aM lZ (aq ba (pv 0) ak) (aq ba (pv 1) ak)) (aM lZ (aq ba (pv 1) ak) (aq ba (pv 0) ak))) (aa (aM lZ (aq ba (pv 0) ak) (aq ba (pv 1) ak)) af))))) cw)
  (ar (putL 3 S.nd (aM fU (aM lZ (aq ba (pv 0) ak) (aM jS (aq ba (pv 1) ak) (pv 2))) (aM lZ (aq ba (pv 1) ak) (aM jS (aq ba (pv 0) ak) (pv 2)))))
  (ar (putL 4 S.nd (aU (vi T) hr T.sG T.kf.kp T.sF aY (aa (pv 3) (aa (pv 2) af))))
  (au (aS (d7 (aa (aM jS (pv 3) (pv 4)) (aa (aM lZ (aM jS (aq ba (pv 0) ak) (pv 2)) (aM jS (aq ba (pv 1) ak) (pv 4))) af))))))))),?_⟩
 have n2:2≤sizeLine:=by decide
 have m0:=la.pos;have n0:=lb.pos;refine ⟨_,rfl,p,_,_,_,rfl,rfl,.of hp,rfl,_,rfl,q,_,_,_,rfl,rfl,.of hq,rfl,m,n,rfl,bn.mid,?_⟩;have gp:(0:Int)<(Int.gcd m n:Int):=wK (by lia)
 have gb:bJ (Int.gcd m n:Int):=bn.gcd (by lia)
 refine ⟨_,rfl,rfl,_,rfl,cG (fun e=>?_) (fun _=>?_)⟩
 ·have e:Int.gcd m n=1:=by have z:=eF e;have z:=V.int.inj z;lia
  exact ⟨_,rfl,p,_,_,_,rfl,rfl,.of hp,rfl,_,rfl,q,_,_,_,rfl,rfl,.of hq,rfl,_,_,rfl,rfl,⟨bx.mid,bn.mid⟩,
   _,rfl,q,_,_,_,rfl,rfl,.of hq,rfl,_,rfl,p,_,_,_,rfl,rfl,.of hp,rfl,_,_,rfl,rfl,⟨lC.mid,bm.mid⟩,_,_,rfl,rfl,
   _,rfl,p,_,_,_,rfl,rfl,.of hp,rfl,_,rfl,q,_,_,_,rfl,rfl,.of hq,rfl,_,_,rfl,rfl,⟨bm.mid,bn.mid⟩,n2,fun r hr=>k r _ _ _ (aW hr) ax (LW la lb e) rfl⟩
 refine ⟨_,rfl,p,_,_,_,rfl,rfl,.of hp,rfl,_,rfl,q,_,_,_,rfl,rfl,.of hq,rfl,_,rfl,_,_,rfl,rfl,⟨gp,gb.mid⟩,_,_,rfl,rfl,⟨bx.mid,bn.over.mid⟩,
  _,rfl,q,_,_,_,rfl,rfl,.of hq,rfl,_,rfl,p,_,_,_,rfl,rfl,.of hp,rfl,_,rfl,_,_,rfl,rfl,⟨gp,gb.mid⟩,_,_,rfl,rfl,⟨lC.mid,bm.over.mid⟩,_,_,rfl,rfl,?_⟩
 refine ⟨_,rfl,_,rfl,_,_,rfl,gb.mid,?_⟩;have ap:(0:Int)<(Int.gcd (x*(n / (Int.gcd m n:Int))+y*(m / (Int.gcd m n:Int))) (Int.gcd m n:Int):Int):=wK (by lia)
 have ab:bJ (Int.gcd (x*(n / (Int.gcd m n:Int))+y*(m / (Int.gcd m n:Int))) (Int.gcd m n:Int):Int):=gb.gcd (by lia)
 have z:=LX la lb _ _ rfl _ rfl rfl
 exact ⟨_,rfl,_,rfl,_,_,rfl,rfl,⟨ap,ab.mid⟩,_,rfl,p,_,_,_,rfl,rfl,.of hp,rfl,_,rfl,_,_,rfl,rfl,⟨gp,gb.mid⟩,_,rfl,q,_,_,_,rfl,rfl,.of hq,rfl,_,rfl,_,_,rfl,rfl,⟨ap,ab.mid⟩,_,_,rfl,rfl,⟨bm.over.mid,bn.over.mid⟩,n2,
  fun r hr=>k r _ _ _ (aW hr) ax z.1 z.2⟩
theorem PU:a9 ["a","b"] ["a","b"] (aJ x3):=bD
theorem PV(T:Txt K mg t):aT P w K mg base bI 3 t.oQ t.rQ ["a","b"] L3:=by
 have S:=PU;refine T.tE.b9 S (fun _ _ _ _ H _ _ _ hr h=>?_);obtain ⟨p,q,x,m,y,n,rfl,hp,hq,la,lb,bx,bm,lC,bn,k⟩:=h;refine ⟨_,(au (aS (aU (PR T) hr T.Gk T.tD.kp T.Gj aY (aa (pv 0) (aa (d7 (aa (v9 wa (aq ba (pv 1) ak)) (aa (aq ba (pv 1) ak) af))) af))))),?_⟩
 exact ⟨_,rfl,_,rfl,q,_,_,_,rfl,rfl,.of hq,rfl,_,rfl,_,rfl,q,_,_,_,rfl,rfl,.of hq,rfl,by show 2≤sizeLine;decide,fun r hr=>⟨p,r,x,m,-y,n,rfl,aW hr _ _ hp,ax,la,lb.neg,bx,bm,lC.neg,bn,
  fun r' H' u d s' e l z=>k r' H' u d ((aW hr).trans s') e l (by rw [z,Int.neg_mul,Int.sub_eq_add_neg])⟩⟩
theorem PX:a9 ["a","b","first","second"] ["a","b"] (aJ x4):=bD
theorem Bp(T:Txt K mg t):aT P w K mg base bI 2 t.oR t.rR ["a","b"] L4:=by
 have S:=PX;refine T.mw.b9 S (fun _ _ _ _ H _ _ _ hr h=>?_);obtain ⟨p,q,x,m,y,n,rfl,hp,hq,la,lb,bx,bm,lC,bn,k⟩:=h
 refine ⟨_,(ar (putL 2 S.nd (aU (vi T) hr T.sG T.kf.kp T.sF aY (aa (aq ba (pv 0) ak) (aa (aq ba (pv 1) ak) af))))
  (ar (putL 3 S.nd (aU (vi T) hr T.sG T.kf.kp T.sF aY (aa (aq ba (pv 1) ak) (aa (aq ba (pv 0) ak) af))))
  (au (aS (d7 (aa (aM lZ (aM jS (aq ba (pv 0) ak) (pv 2)) (aM jS (aq ba (pv 1) ak) (pv 3))) (aa (aM lZ (aM jS (aq ba (pv 0) ak) (pv 3)) (aM jS (aq ba (pv 1) ak) (pv 2))) af))))))),?_⟩
 have n2:2≤sizeLine:=by decide
 have m0:=la.pos;have n0:=lb.pos;have gp:(0:Int)<(Int.gcd x n:Int):=wK (by lia)
 have gb:bJ (Int.gcd x n:Int):=bn.gcd (by lia)
 have ap:(0:Int)<(Int.gcd y m:Int):=wK (by lia)
 have ab:bJ (Int.gcd y m:Int):=bm.gcd (by lia)
 refine ⟨_,rfl,p,_,_,_,rfl,rfl,.of hp,rfl,_,rfl,q,_,_,_,rfl,rfl,.of hq,rfl,x,n,rfl,bn.mid,?_⟩;refine ⟨_,rfl,q,_,_,_,rfl,rfl,.of hq,rfl,_,rfl,p,_,_,_,rfl,rfl,.of hp,rfl,y,m,rfl,bm.mid,?_⟩;have z:=LV la lb
 exact ⟨_,rfl,p,_,_,_,rfl,rfl,.of hp,rfl,_,rfl,_,_,rfl,rfl,⟨gp,gb.mid⟩,_,rfl,q,_,_,_,rfl,rfl,.of hq,rfl,_,rfl,_,_,rfl,rfl,⟨ap,ab.mid⟩,_,_,rfl,rfl,⟨bx.over.mid,lC.over.mid⟩,
  _,rfl,p,_,_,_,rfl,rfl,.of hp,rfl,_,rfl,_,_,rfl,rfl,⟨ap,ab.mid⟩,_,rfl,q,_,_,_,rfl,rfl,.of hq,rfl,_,rfl,_,_,rfl,rfl,⟨gp,gb.mid⟩,_,_,rfl,rfl,⟨bm.over.mid,bn.over.mid⟩,n2,
  fun r hr=>k r _ _ _ (aW hr) ax z.1 z.2⟩
theorem PY:a9 ["a","b"] ["a","b"] (aJ x5):=bD
theorem PZ(T:Txt K mg t):aT P w K mg base (de P w) 3 t.oS t.rT ["a","b"] (L7 t.gG):=by
 have S:=PY;refine T.tF.cY S (fun _ _ _ _ H _ _ _ hr h L=>?_);obtain ⟨p,q,x,m,y,n,rfl,hp,hq,la,lb,bx,bm,lC,bn,kE,k⟩:=h
 refine ⟨_,(ar (b5 (bM hX (aq ba (pv 1) ak) ak) (au (lY L rfl lO T.yB rfl T.yy (aa eU af))) cw)
  (dJ.jN (ar (b5 (bM qk (aq ba (pv 1) ak) ak) (au (aS (aU (Bp T) hr T.yr T.mw.kp T.yq aY (aa (pv 0) (aa (d7 (aa (v9 wa (aq ba (pv 1) ak)) (aa (v9 wa (aq ba (pv 1) ak)) af))) af))))) cw)
  (au (aS (aU (Bp T) hr T.yr T.mw.kp T.yq aY (aa (pv 0) (aa (d7 (aa (aq ba (pv 1) ak) (aa (aq ba (pv 1) ak) af))) af)))))))),?_⟩
 have n2:2≤sizeLine:=by decide
 refine ⟨_,rfl,q,_,_,_,rfl,rfl,.of hq,rfl,rfl,_,rfl,cG (fun hz=>?_) (fun hz=>?_)⟩
 ·have hz:y=0:=V.int.inj (eF hz)
  exact ⟨by show 1≤sizeLine;decide,kE hz⟩
 have hz:y≠0:=fun z=>hz (cX (by rw [z]))
 refine ⟨_,rfl,q,_,_,_,rfl,rfl,.of hq,rfl,_,_,rfl,rfl,_,rfl,cG (fun hn=>?_) (fun hn=>?_)⟩
 ·have hn:y<0:=eF hn
  exact ⟨_,rfl,_,rfl,q,_,_,_,rfl,rfl,.of hq,rfl,_,rfl,_,rfl,q,_,_,_,rfl,rfl,.of hq,rfl,_,rfl,n2,fun r hr=>⟨p,r,x,m,-n,-y,rfl,aW hr _ _ hp,ax,la,L_ lb hn,bx,bm,bn.neg,lC.neg,
   fun r' H' u d s' e l z=>k hz r' H' u d ((aW hr).trans s') e l (by rw [kx,kx,kx,Int.neg_mul] at z;omega)⟩⟩
 ·have hn:¬y<0:=fun z=>hn (cX z)
  exact ⟨_,rfl,_,rfl,q,_,_,_,rfl,rfl,.of hq,rfl,_,rfl,q,_,_,_,rfl,rfl,.of hq,rfl,n2,fun r hr=>⟨p,r,x,m,n,y,rfl,aW hr _ _ hp,ax,la,L9 lb (by lia),bx,bm,bn,lC,
   fun r' H' u d s' e l z=>k hz r' H' u d ((aW hr).trans s') e l z⟩⟩
theorem P1:a9 ["self","a","b"] ["self","a","b"] (aJ yk):=bD
theorem Bq(T:Txt K mg t):aT P w K mg base bI 4 t.pe t.su ["self","a","b"] (iW t.aP (fun x m y n=>x*n-y*m) (fun i j=>i-j)):=by
 have S:=P1;refine T.vd.b9 S (fun _ _ _ _ H _ _ _ hr h=>?_);obtain ⟨z,q,v,u,rfl,⟨dx,hx⟩,hc⟩:=h
 refine ⟨_,(ar (b5 (bM wb (jP (pv 0) rfl) kI) (au (aS (aU (PV T) hr T.Gn T.tE.kp T.Gm aY (aa (pv 1) (aa (pv 2) af))))) cw)
  (au (aS (aM fW (aM qj (pv 1) (pv 2)) (jP (pv 0) rfl))))),?_⟩
 refine ⟨_,rfl,z,t.aP,dx,_,_,rfl,hx,T.cH,T.iD,jU _,rfl,_,rfl,?_⟩;rcases hc with ⟨rfl,p,r,x,m,y,n,rfl,rfl,h1⟩ | ⟨q2,i,j,rfl,rfl,i0,i1,k⟩
 ·rw [ao rfl]
  exact iq ⟨_,rfl,_,rfl,p,r,x,m,y,n,rfl,h1⟩
 ·have hq:q≠0:=by lia
  rw [ah hq] at hx ⊢;exact dY ⟨_,rfl,_,rfl,_,_,rfl,rfl,_,rfl,z,t.aP,dx,_,_,rfl,hx,T.cH,T.iD,jU _,_,_,rfl,rfl,(show (0:Int)<q by lia),k⟩
theorem P2:a9 ["self","a","b"] ["self","a","b"] (aJ yl):=bD
theorem yE(T:Txt K mg t):aT P w K mg base bI 4 t.pf t.sv ["self","a","b"] (iW t.aP (fun x m y n=>x*y) (fun i j=>i*j)):=by
 have S:=P2;refine T.ve.b9 S (fun _ _ _ _ H _ _ _ hr h=>?_);obtain ⟨z,q,v,u,rfl,⟨dx,hx⟩,hc⟩:=h
 refine ⟨_,(ar (b5 (bM wb (jP (pv 0) rfl) kI) (au (aS (aU (Bp T) hr T.yr T.mw.kp T.yq aY (aa (pv 1) (aa (pv 2) af))))) cw)
  (au (aS (aM fW (aM fV (pv 1) (pv 2)) (jP (pv 0) rfl))))),?_⟩
 refine ⟨_,rfl,z,t.aP,dx,_,_,rfl,hx,T.cH,T.iD,jU _,rfl,_,rfl,?_⟩;rcases hc with ⟨rfl,p,r,x,m,y,n,rfl,rfl,h1⟩ | ⟨q2,i,j,rfl,rfl,i0,i1,k⟩
 ·rw [ao rfl]
  exact iq ⟨_,rfl,_,rfl,p,r,x,m,y,n,rfl,h1⟩
 ·have hq:q≠0:=by lia
  rw [ah hq] at hx ⊢;exact dY ⟨_,rfl,_,rfl,_,_,rfl,rfl,.inl ⟨by lia,by lia⟩,_,rfl,z,t.aP,dx,_,_,rfl,hx,T.cH,T.iD,jU _,_,_,rfl,rfl,(show (0:Int)<q by lia),k⟩
theorem P4:a9 ["self","a","b"] ["self","a","b"] (aJ ym):=bD
theorem Br(T:Txt K mg t):aT P w K mg base (de P w) 4 t.ph t.sA ["self","a","b"] (uR t.aP t.gG):=by
 have S:=P4;refine T.vh.cY S (fun _ _ _ _ H _ _ _ hr h L=>?_);obtain ⟨z,q,v,u,rfl,⟨dx,hx⟩,hc⟩:=h
 refine ⟨_,(ar (b5 (bM wb (jP (pv 0) rfl) kI) (au (aS (aU (PZ T) hr T.Gq T.tF.kp T.Gp (lX L) (aa (pv 1) (aa (pv 2) af))))) cw)
  (au (aS (aU (G2 T) hr T.Bh T.pF.kp T.Bg (lX L) (aa (jP (pv 0) rfl) (aa (pv 1) (aa (pv 2) af))))))),?_⟩
 refine ⟨_,rfl,z,t.aP,dx,_,_,rfl,hx,T.cH,T.iD,jU _,rfl,_,rfl,?_⟩;rcases hc with ⟨rfl,p,r,x,m,y,n,rfl,rfl,h1⟩ | ⟨q2,i,j,rfl,rfl,h1⟩
 ·rw [ao rfl]
  exact iq ⟨_,rfl,_,rfl,p,r,x,m,y,n,rfl,h1⟩
 ·have hq:q≠0:=by lia
  rw [ah hq] at hx ⊢;exact dY ⟨_,rfl,z,t.aP,dx,_,_,rfl,hx,T.cH,T.iD,jU _,_,rfl,_,rfl,q,i,j,rfl,q2,h1⟩
theorem P5:a9 ["world","work","place","others","head","i","row","j"] ["world","work","place","others"] (aJ xN):=bD
theorem P6(T:Txt K mg t):aT P w K mg base bI 5 t.oB t.rz ["world","work","place","others"] (Of t.aP):=by
 have S:=P5;have vj:=Br (P:=P) (w:=w) (base:=base) T;have vk:=Bq (P:=P) (w:=w) (base:=base) T;have pL:=yE (P:=P) (w:=w) (base:=base) T;refine T.sV.b9 S (fun _ A _ _ H _ _ _ hr h=>?_);obtain ⟨z,a,b,q,n,X,p,rs,vf,ms,Tw,U,T',U',rfl,hw,hq,hW,eb,bz,pn,Bs,nd,P7,X1,fz,hF,hB,e_,kk⟩:=h
 refine ⟨_,(ar (putL 4 S.nd (aq a_ (pv 1) (pv 2)))
  (au (fo dU rfl (gu (pv 3)) (cA (i:=5) S.nd rfl (Or.inl rfl))
   (ar (putL 6 S.nd (aq a_ (pv 1) (pv 5)))
  (ar (@gs _ _ _ _ _ _ (fq (pv 0) T.cH T.tQ vj (hr.mono (by decide)) T.yw .nil gA (aa (aq a_ (pv 6) (pv 2)) (aa (aq a_ (pv 4) (pv 2)) af))) (hV (pv 6) (pv 2) set_list) (by rfl) (by rfl) (by rfl))
  (au (fo dU rfl (gu (pv 3)) (cA (i:=7) S.nd rfl (Or.inl rfl))
   (au (@gs _ _ _ _ _ _ (fq (pv 0) T.cH T.tP vk (hr.mono (by decide)) T.yv .nil aY (aa (aq a_ (pv 6) (pv 7)) (aa (fq (pv 0) T.cH T.pJ pL (hr.mono (by decide)) T.vg .nil aY (aa (aq a_ (pv 6) (pv 2)) (aa (aq a_ (pv 4) (pv 7)) af))) af))) (hV (pv 6) (pv 7) set_list) (by rfl) (by rfl) (by rfl)))))))))),?_⟩
 obtain ⟨dz,hz⟩:=id hw;have zr:∀{Hx:Hp},eN n rs H Hx→cZ t.aP Hx z q:=fun{Hx} o=>⟨dz,o z _ (fun i hi=>(bz i hi).2) hz⟩;have br:∀{Hx:Hp},eN n rs H Hx→Hx b=some (.lst (bS ms)):=fun{Hx} o=>o b _ (fun i hi=>(bz i hi).1) eb;have eO:X≤10 ^ 300:=aV fz (by decide +kernel)
 have XX:X*X≤10 ^ 300:=aV (fQ fz fz) (by decide +kernel)
 refine bh fun _ hR=>bV ⟨_,rfl,_,rfl,a,_,_,_,rfl,rfl,.of hW.lst,bH pn,hR _ _ ?_⟩;refine ⟨_,rfl,b,rfl,⟨_,.of eb⟩,?_⟩;refine lU (K:=K) (a:=b) (xs:=bS ms) (fun k σ Hc=>∃(gU:Nat→Nat→V) (v5 v6 v7:Option V),σ=[some (.ref z),some (.ref a),some (.int (p:Int)),some (.ref b),some (.ref (rs p)),v5,v6,v7]∧eN n rs H Hc∧WTab Hc a n rs gU∧c_ X Hc q n gU (iC (fun i _=>decide (i∈ms.take k)) Tw T') (iC (fun i _=>decide (i∈ms.take k)) U U')) ⟨vf,_,_,_,rfl,eN.refl _ _ _,hW,hF.to fun i j _ _=>⟨dq (by simp),dq (by simp)⟩⟩ (fun k σ Hc _ ⟨_,_,_,_,_,oc,_⟩=>.of (br oc)) ?_ ?_
 ·rintro k x σ Hc hx ⟨gU,v5,v6,v7,rfl,oc,Wc,Fc⟩
  obtain ⟨i,hi,rfl⟩:=int_at hx;have im:=g7 hi;obtain ⟨b8,ip⟩:=Bs i im;have ik:=xh nd hi;have pk:p∉ms.take k:=fun z=>(Bs p (List.mem_of_mem_take z)).2 rfl;have fi:decide (i∈ms.take k)=false:=dA ik;have fp:decide (p∈ms.take k)=false:=dA pk;dsimp only [b6];refine bh fun _ hR=>bV ⟨_,rfl,_,rfl,a,_,_,_,rfl,rfl,.of Wc.lst,bH b8,hR _ _ ?_⟩;have pM:=Fc i p b8 pn;have Bt:=Fc p p pn pn;rw [dq fi,dq fi] at pM;rw [dq fp,dq fp] at Bt;obtain ⟨lD,fN⟩:=zr oc;refine bh fun _ hR=>bV ⟨_,rfl,z,lD,_,rfl,fN,fv (by decide +kernel),_,rfl,_,rfl,rs i,_,_,_,rfl,rfl,.of (Wc.at' i b8),bH pn,_,rfl,_,rfl,rs p,_,_,_,rfl,rfl,.of (Wc.at' p pn),bH pn,?_⟩
  dsimp only [jQ];show uR t.aP t.gG [.ref z,gU i p,gU p p] _ _ _;refine AE (Y':=(Tw i p*U p p).natAbs+(U i p*Tw p p).natAbs) (zr oc) hq pM Bt eO eO e_.k7 (by lia) (by lia) fun v' H1 s1 w1=>?_
  have W1:=Wc.mono s1;have w1:=(w1.eq hq (e_.low i im) (e_.nz i p b8 pn)).bd (e_.bt i p b8 pn).1 (e_.bt i p b8 pn).2;refine ⟨_,rfl,_,rfl,rs i,_,_,p,rfl,rfl,W1.at' i b8,by rw [a8,dH];exact j6 pn,hR _ _ ?_⟩
  have W2:=W1.put (j:=p) v' b8;have yF:eN n rs H (upd H1 (rs i) (.lst (((List.range n).map (gU i)).set p v'))):=(oc.same s1).put b8;have F2:c_ X (upd H1 (rs i) (.lst (((List.range n).map (gU i)).set p v'))) q n (mh gU i p v') (iC (fun i' j'=>decide (i'∈ms.take k) || (decide (i'=i) && (decide (j'=p) || decide (j'∈ms.take 0)))) Tw T') (iC (fun i' j'=>decide (i'∈ms.take k) || (decide (i'=i) && (decide (j'=p) || decide (j'∈ms.take 0)))) U U'):=Fc.put (fun v t u h=>(h.mono s1).put (W1.at' i b8)) (by rw [eA (by simp),eA (by simp)];exact w1.put (W1.at' i b8)) fun i' j' _ _ ne=>by
   by_cases h1:i'∈ms.take k
   ·rw [eA (by simp [h1]),eA (by simp [h1]),eA (by simp [h1]),eA (by simp [h1])]
    exact ⟨rfl,rfl⟩
   ·by_cases h2:i'=i
    ·have h3:j'≠p:=fun z=>ne ⟨h2,z⟩
     rw [dq (by simp [h1,h3]),dq (by simp [h1]),dq (by simp [h1,h3]),dq (by simp [h1])]
     exact ⟨rfl,rfl⟩
    ·rw [dq (by simp [h1,h2]),dq (by simp [h1]),dq (by simp [h1,h2]),dq (by simp [h1])]
     exact ⟨rfl,rfl⟩
  generalize upd H1 (rs i) (.lst (((List.range n).map (gU i)).set p v'))=H2 at W2 yF F2 ⊢;refine ⟨_,rfl,b,rfl,⟨_,.of (br yF)⟩,?_⟩;refine lU (K:=K) (a:=b) (xs:=bS ms) (fun l σ Hd=>∃(mx:Nat→Nat→V) (v7:Option V),σ=[some (.ref z),some (.ref a),some (.int (p:Int)),some (.ref b),some (.ref (rs p)),some (.int (i:Int)),some (.ref (rs i)),v7]∧eN n rs H Hd∧WTab Hd a n rs mx∧c_ X Hd q n mx (iC (fun i' j'=>decide (i'∈ms.take k) || (decide (i'=i) && (decide (j'=p) || decide (j'∈ms.take l)))) Tw T') (iC (fun i' j'=>decide (i'∈ms.take k) || (decide (i'=i) && (decide (j'=p) || decide (j'∈ms.take l)))) U U')) ⟨_,_,rfl,yF,W2,F2⟩ (fun l σ Hd _ ⟨_,_,_,od,_⟩=>.of (br od)) ?_ ?_
  ·clear F2 W2 yF w1 W1 pM Bt Fc Wc oc
   rintro l x σ Hd hx ⟨mx,v7,rfl,od,Wd,Fd⟩;obtain ⟨j,hj,rfl⟩:=int_at hx;have jm:=g7 hj;obtain ⟨d5,jp⟩:=Bs j jm;have jl:=xh nd hj;have Bu:=Fd i j b8 d5;have pM:=Fd i p b8 pn;have Bv:=Fd p j pn d5;rw [dq (by simp [ik,jp,jl]),dq (by simp [ik,jp,jl])] at Bu
   rw [eA (by simp),eA (by simp)] at pM
   rw [dq (by simp [pk,Ne.symm ip]),dq (by simp [pk,Ne.symm ip])] at Bv
   obtain ⟨lD,fN⟩:=zr od;dsimp only [b6];refine bV ⟨_,rfl,z,lD,_,rfl,fN,fv (by decide +kernel),_,rfl,_,rfl,rs i,_,_,_,rfl,rfl,.of (Wd.at' i b8),bH d5,_,rfl,z,lD,_,rfl,fN,fv (by decide +kernel),_,rfl,_,rfl,rs i,_,_,_,rfl,rfl,.of (Wd.at' i b8),bH pn,_,rfl,_,rfl,rs p,_,_,_,rfl,rfl,.of (Wd.at' p pn),bH d5,?_⟩
   have G3:=pM.choose_spec.choose_spec.2.2;have G4:=Bv.choose_spec.choose_spec.2.2;have P8:=Bu.choose_spec.choose_spec.2.2;dsimp only [jQ];show iW t.aP (fun x m y n=>x*y) (fun i j=>i*j) [.ref z,mx i p,mx p j] _ _ _;refine xg (Y':=(T' i p*Tw p j).natAbs+(U' i p*U p j).natAbs) (zr od) hq pM Bv eO eO (ei hq G3 G4) (by lia) (by lia) fun v1 H1 s1 w1=>?_
   have w1:aK (X*X) H1 q v1 (T' i p*Tw p j) (U' i p*U p j):=w1.bd (by rw [fE];exact fQ (e_.bt i p b8 pn).1 (hB p j pn d5).1) (by rw [fE];exact fQ (e_.bt i p b8 pn).2 (hB p j pn d5).2)
   show iW t.aP (fun x m y n=>x*n-y*m) (fun i j=>i-j) [.ref z,mx i j,v1] _ _ _;refine AD (Y':=(Tw i j*(U' i p*U p j)-T' i p*Tw p j*U i j).natAbs+(U i j*(U' i p*U p j)).natAbs) (zr (od.same s1)) hq (Bu.mono s1) w1 eO XX (ei hq P8 (ei hq G3 G4)) (by lia) (by lia) fun v2 H2 s2 w2=>?_
   have W1:=Wd.mono (s1.trans s2);have w2:=(w2.eq hq (e_.ent i im j jm) (e_.nz i j b8 d5)).bd (e_.bt i j b8 d5).1 (e_.bt i j b8 d5).2;refine ⟨_,rfl,_,rfl,rs i,_,_,j,rfl,rfl,W1.at' i b8,by rw [a8,dH];exact j6 d5,?_⟩
   refine ⟨_,_,rfl,(od.same (s1.trans s2)).put b8,W1.put (j:=j) v2 b8,Fd.put (fun v t u h=>(h.mono (s1.trans s2)).put (W1.at' i b8)) (by rw [eA (by simp [take_snoc hj]),eA (by simp [take_snoc hj])];exact w2.put (W1.at' i b8)) fun i' j' _ _ ne=>?_⟩
   have ej:(fun i' j'=>decide (i'∈ms.take k) || (decide (i'=i) && (decide (j'=p) || decide (j'∈ms.take (l+1))))) i' j'=(fun i' j'=>decide (i'∈ms.take k) || (decide (i'=i) && (decide (j'=p) || decide (j'∈ms.take l)))) i' j':=by
    dsimp only;by_cases h2:i'=i
    ·have h3:j'≠j:=fun z=>ne ⟨h2,z⟩
     rw [take_snoc hj];simp [h3]
    ·simp [h2]
   constructor <;> (unfold iC;rw [ej])
  ·rintro σ Hd ⟨mx,v7,rfl,od,Wd,Fd⟩
   refine ⟨mx,_,_,_,rfl,od,Wd,Fd.Fb hq fun i' j' dj dP=>?_⟩;have ll:(bS ms).length=ms.length:=a8 _;rw [ll,jF,take_snoc hi];by_cases h1:i'∈ms.take k
   ·refine .inl ?_
    rw [eA (by simp [h1]),eA (by simp [h1]),eA (by simp [h1]),eA (by simp [h1])]
    exact ⟨rfl,rfl⟩
   ·by_cases h2:i'=i
    ·subst h2
     by_cases h3:j'=p∨j'∈ms
     ·refine .inl ?_
      rw [eA (by simp),eA (by simpa [h1] using h3),eA (by simp),eA (by simpa [h1] using h3)]
      exact ⟨rfl,rfl⟩
     ·rw [not_or] at h3
      refine .inr ?_;have a1:∀A A':Nat→Nat→Int,iC (fun i _=>decide (i∈ms.take k++[i'])) A A' i' j'=A' i' j':=fun A A'=>eA (by simp)
      have a2:∀A A':Nat→Nat→Int,iC (fun G5 G6=>decide (G5∈ms.take k) || (decide (G5=i') && (decide (G6=p) || decide (G6∈ms)))) A A' i' j'=A i' j':=fun A A'=>dq (by simp [h1,h3.1,h3.2])
      rw [a1,a1,a2,a2];exact ⟨e_.u3 i' j' dj dP (.inr h3),e_.nz i' j' dj dP,e_.bt i' j' dj dP⟩
    ·refine .inl ?_
     rw [dq (by simp [h1,h2]),dq (by simp [h1,h2]),dq (by simp [h1,h2]),dq (by simp [h1,h2])]
     exact ⟨rfl,rfl⟩
 ·rintro σ Hc ⟨gU,v5,v6,v7,rfl,oc,Wc,Fc⟩
  have ll:(bS ms).length=ms.length:=a8 _;rw [ll,jF] at Fc;refine kk Hc gU oc Wc (Fc.Fb hq fun i' j' dj dP=>?_);by_cases h1:i'∈ms
  ·refine .inl ?_
   rw [eA (by simp [h1]),eA (by simp [h1])]
   exact ⟨rfl,rfl⟩
  ·refine .inr ?_
   rw [dq (by simp [h1]),dq (by simp [h1])]
   exact ⟨e_.u3 i' j' dj dP (.inl h1),e_.nz i' j' dj dP,e_.bt i' j' dj dP⟩
theorem P9:a9 ["table","wide"] ["table"] (aJ xw):=bD
theorem P_(T:Txt K mg t):aT P w K mg base (de P w) 1 t.n8 t.qU ["table"] (M6 t.ke):=by
 have S:=P9;refine T.sC.cY S (fun _ _ _ _ H vs _ _ hr h L=>?_);obtain ⟨a,q,B,ai,m,rfl,⟨vs,ea,hl,hn⟩,h1,vm,hm,k⟩:=h
 refine ⟨_,(ar (b5 (bM hX (cC eW rfl T.eC eG (aa (pv 0) af)) ak) (au (aS ak)) cw)
  (ar (nH 1 S.nd (cC eW rfl T.eC eG (aa (aq a_ (pv 0) ak) af)))
  (ar (b5 (lQ (cC (Mo (K:=K) rfl) rfl T.GR boot_any (aa (nE (N:=["row","wide"]) (ρ:=(fun σ=>[σ[1]?.join])) (jj [1] rfl) rfl (gu (pv 0)) (fun _ _ _=>.nil) (fun _ _ _=>(ql kK (cC (Ei (K:=K)) rfl T.eC eG (aa (pv 0) af)) (pv 1)))) af))) (au (lY L rfl lO T.yC rfl T.yz (aa eU af))) cw)
  (au (aS (pv 1)))))),?_⟩
 have h0:0<vs.length:=by lia
 refine ⟨_,rfl,a,vs,rfl,.inl (.of ea),rfl,false,by rw [jT,dA (by lia)],dY ?_⟩
 have Qa:0<ai.length:=by lia
 obtain ⟨r,er,us,eu,lu,_⟩:=hn 0 vs[0] ai[0] (by simp [h0]) (by simp [Qa])
 have G7:=hm ai[0] (gk ..);refine ⟨_,rfl,a,vs,_,vs[0],rfl,rfl,.of ea,(by exact kN (j:=0) (by simp [h0])),r,us,by rw [er],.inl (.of eu),?_⟩
 have em:(us.length:Int)=(m:Int):=by lia
 rw [em];dsimp only [b6];have Qb:∀(i:Nat) (v:V),vs[i]?=some v→∃(r:Addr) (us:List V),v=.ref r∧H r=some (.lst us)∧us.length=m:=fun i v e=>by
  have dj:i<ai.length:=by rw [←hl];exact (cq.mp e).1
  obtain ⟨r,e1,us,e2,e3,_⟩:=hn i v ai[i] e (by simp [dj])
  exact ⟨r,us,e1,e2,by rw [e3];exact hm _ (gk ..)⟩
 refine l_ (ML (MM (Ak (Ea (xs:=vs) (fun R h=>⟨_,rfl,a,rfl,⟨_,.of ea⟩,h _ _ (ae.refl _) (nJ (.of ea))⟩) (by rw [hl];exact fK (by lia)) (fun _ i y _=>y=.bl false) (fun _ _ _ _ _ _ h _ _=>h) ?_ ?_))))
 ·intro D i v hi Hc R sc _ kc
  obtain ⟨r',G8,rfl,e2,e3⟩:=Qb i v hi;refine ⟨_,rfl,r',G8,rfl,.inl (.of (sc _ _ e2)),_,rfl,rfl,?_⟩;have zz:(!decide (V.int (G8.length:Int)=V.int (m:Int)))=false:=by rw [jT,cX (by lia)];rfl
  rw [zz];exact kc _ Hc (ae.refl _) rfl
 ·intro D ys Hc sc mz hP eD
  refine ⟨D,List.replicate ys.length false,rfl,.of (by rw [eD];exact gh _ (gh _ (Ej hP))),false,by rw [MN],dY ?_⟩
  exact ⟨_,rfl,k Hc sc⟩
theorem Qc:a9 ["table"] ["table"] (aJ xx):=bD
theorem Qd(T:Txt K mg t):aT P w K mg base (de P w) 2 t.n_ t.qV ["table"] (M7 t.ke):=by
 have S:=Qc;refine T.sD.cY S (fun _ _ _ _ H vs _ _ hr h L=>?_);obtain ⟨a,q,B,ai,m,rfl,hA,h1,vm,hm,kE,k⟩:=h
 refine ⟨_,(ar (b5 (bM kK (aU (P_ T) hr T.Fx T.sC.kp T.Fw (lX L) (aa (pv 0) af)) (cC eW rfl T.eC eG (aa (pv 0) af))) (au (lY L rfl lO T.yC rfl T.yz (aa eU af))) cw)
  (au (aS (cC eW rfl T.eC eG (aa (pv 0) af))))),?_⟩
 refine ⟨_,rfl,a,q,B,ai,m,rfl,hA,h1,vm,hm,fun H1 s1=>?_⟩;obtain ⟨vs,ea,lv,_⟩:=id (hA.mono s1);refine ⟨_,rfl,a,vs,rfl,.inl (.of ea),rfl,_,rfl,cG (fun d_=>?_) (fun d_=>?_)⟩
 ·have d_:m≠ai.length:=fun z=>by
   have:(m:Int)=(vs.length:Int):=by lia
   rw [jT,cX this] at d_;cases d_
  exact ⟨by show 1≤sizeLine;decide,kE d_ H1 s1⟩
 ·have heq:m=ai.length:=by
   by_cases z:(m:Int)=(vs.length:Int);·lia
   ·exact absurd (by rw [jT,dA z];rfl) d_
  have z:=k heq H1 s1;dsimp only [vW];refine ⟨_,rfl,a,vs,rfl,.inl (.of ea),?_⟩;rw [show (vs.length:Int)=(m:Int) by lia]
  exact z
theorem Qe:a9 ["world","table","i","nought"] ["world","table","i"] (aJ xD):=bD
theorem Qf(T:Txt K mg t):aT P w K mg base bI 4 t.oj t.q8 ["world","table","i"] (Nc t.aP):=by
 have S:=Qe;have iE:=tS (P:=P) (w:=w) (base:=base) T;obtain ⟨dv,iF,iG⟩:=T.pI;refine T.sJ.b9 S (fun _ _ _ _ H vs _ _ hr h=>?_);obtain ⟨z,a,q,B,ai,n,i,rfl,⟨dz,hd⟩,hq,hT,ln,dR,hm,hi,kk⟩:=h;have hu:=hr.wm
 refine ⟨_,(ar (nH 3 S.nd (fq (pv 0) T.cH T.lx iE (hr.mono (by decide)) iG iF gA (aa ak af)))
  (au (aS (nE (N:=["j","i","table","nought"]) (ρ:=(fun σ=>[σ[2]?.join,σ[1]?.join,σ[3]?.join])) (jj [2,1,3] rfl) rfl (Js rfl T.gZ (aa (aM fU (pv 2) ak) (aa (cC eW rfl T.eC eG (aa (pv 1) af)) af))) (fun _ _ _=>(.one (PW.pt (pw_or (bM (EE (K:=K) hu) (aq (iX (K:=K)) (aq (iX (K:=K)) (pv 2) (pv 1)) (pv 0)) (pv 3)) (pw_or1 (bM (EE (K:=K) hu) (aq (iX (K:=K)) (aq (iX (K:=K)) (pv 2) (pv 0)) (pv 1)) (pv 3))))))) (fun _ _ _=>(d7 (aa (pv 1) (aa (pv 0) af)))))))),?_⟩
 have nv:=qB hq;refine ⟨_,rfl,z,dz,_,rfl,hd,fv (by decide +kernel),z,q,0,1,rfl,⟨dz,hd⟩,hq,b7.of_lt (by decide) (by decide),fun h=>absurd h nv,fun _ v0 H1 s1 ho=>?_⟩
 have h0:=ma (B:=1000) (by decide) ho hq (.inl rfl)
 dsimp only [b6];obtain ⟨vs,ea,lv,hv⟩:=id (hT.mono s1);have cell:∀i j,i<n→j<n→∃(r:Addr) (ws:List V) (v:V),vs[i]?=some (.ref r)∧H1 r=some (.lst ws)∧ws[j]?=some v∧bE B H1 q v ((ai.getD i []).getD j o1).1 ((ai.getD i []).getD j o1).2:=fun i j hi hj=>by
  have i1:i<vs.length:=by lia
  have i2:i<ai.length:=by lia
  obtain ⟨r,e,ws,er,lw,fw⟩:=hv i vs[i] ai[i] (by simp [i1]) (by simp [i2])
  have lp:=hm ai[i] (gk i2);have j1:j<ws.length:=by lia
  have j2:j<ai[i].length:=by lia
  refine ⟨r,ws,ws[j],by rw [←e];simp [i1],er,by simp [j1],?_⟩
  rw [getD_at i2,getD_at j2];exact fw j _ _ (by simp [j1]) (by simp [j2])
 refine gD (EG (xs:=(List.range (n-(i+1))).map fun k:Nat=>V.int ((i:Int)+1+(k:Int))) (fun k=>bN ai i (i+1+k)) (fun R h=>⟨_,rfl,_,_,rfl,rfl,_,rfl,a,vs,rfl,.inl (.of ea),_,_,rfl,⟨by lia,by lia,by lia,by lia⟩,h _ ?_⟩) (by rw [a8,dH];exact fK (by lia)) (fun _ k y Hx=>∃b:Addr,y=.ref b∧Hx b=some (.tup [.int (i:Int),.int ((i+1+k:Nat):Int)])) (fun D k y Ha Hb ys ⟨b,h1,h2⟩ e f=>⟨b,h1,f b _ (fun z=>by rw [z,e] at h2;cases h2) h2⟩) ?_ ?_ ?_)
 ·rw [show ((vs.length:Int)-((i:Int)+1)).toNat=n-(i+1) by lia]
  exact D9
 ·intro k x hx Hc R sc hR
  have hk:k<n-(i+1):=by have:=(cq.mp hx).1;simpa using this
  rw [cE,jb hk] at hx;cases hx;have ej:(i:Int)+1+(k:Int)=((i+1+k:Nat):Int):=by lia
  obtain ⟨r1,w1,v1,a1,a2,a3,a4⟩:=cell i (i+1+k) hi (by lia)
  obtain ⟨r2,w2,v2,b1,b2,b3,b4⟩:=cell (i+1+k) i (by lia) hi
  have yG:=sc _ _ ea;refine ⟨_,rfl,_,rfl,a,vs,_,.ref r1,rfl,rfl,.of yG,kN a1,_,rfl,r1,w1,_,v1,rfl,rfl,.of (sc _ _ a2),(by show iT w1 ((i:Int)+1+(k:Int))=_;rw [ej];exact kN a3),_,rfl,EF (a4.mono sc) (h0.mono sc) ⟨_,rfl,cG (fun hb=>?_) (fun hb=>?_)⟩⟩
  ·have e:bN ai i (i+1+k)=true:=by unfold bN jr;rw [hb,Bool.true_or]
   rw [e] at hR;exact hR
  ·have e:bN ai i (i+1+k)=jr ai (i+1+k) i:=by
    have Bw:jr ai i (i+1+k)=false:=by unfold jr;simpa using hb
    unfold bN;rw [Bw,Bool.false_or]
   rw [e] at hR;refine ⟨_,rfl,_,rfl,a,vs,_,.ref r2,rfl,rfl,.of yG,(by show iT vs ((i:Int)+1+(k:Int))=_;rw [ej];exact kN b1),_,rfl,r2,w2,_,v2,rfl,rfl,.of (sc _ _ b2),kN b3,_,rfl,EF (b4.mono sc) (h0.mono sc) ⟨_,rfl,hR⟩⟩
 ·intro D k x hx Hc R sc _ kc
  have hk:k<n-(i+1):=by have:=(cq.mp hx).1;simpa using this
  rw [cE,jb hk] at hx;cases hx;refine ⟨_,rfl,_,rfl,by show 2≤sizeLine;decide,fun tp fc=>?_⟩
  refine kc _ _ (aW fc) ⟨tp,rfl,?_⟩;rw [ax,show ((i+1+k:Nat):Int)=(i:Int)+1+(k:Int) by lia]
 ·intro D ys Hc nD sc jy hP eD
  rw [a8,dH] at jy hP;refine kk D ys Hc (s1.trans sc) (none_of s1 nD) eD ⟨by unfold jZ;rw [a8];exact jy,fun k v p h1 h2=>?_⟩
  unfold jZ at h2;rw [cE] at h2;cases e:((List.range (n-(i+1))).filter fun k=>bN ai i (i+1+k))[k]? with
  | none=>rw [e] at h2;cases h2
  | some k'=>rw [e] at h2;cases h2;exact hP k k' v h1 e
theorem Qg:a9 ["world","table","n","links","i"] ["world","table"] (aJ xE):=bD
theorem Qh(T:Txt K mg t):aT P w K mg base (de P w) 6 t.om t.q_ ["world","table"] (Nd t.aP t.ke):=by
 have S:=Qg;refine T.sM.cY S (fun _ _ _ _ H _ _ _ hr h L=>?_);obtain ⟨z,a,q,B,ai,m,rfl,hz,hq,hT,h1,vm,hm,kE,kk⟩:=h
 refine ⟨_,(ar (putL 2 S.nd (aU (Qd T) hr T.Fz T.sD.kp T.Fy (lX L) (aa (pv 1) af)))
  (dJ.jN (ar (putL 3 S.nd (lW af))
  (ar (fo dU rfl (kJ rfl T.gZ (aa (pv 2) af)) (cA (i:=4) S.nd rfl (Or.inl rfl))
   (au (qf (zN zb PySem.F.slot_list_extend PySem.F.type_list_extend KI (pv 3) (aa (aU (Qf T) hr T.FG T.sJ.kp T.FF aY (aa (pv 0) (aa (pv 1) (aa (pv 4) af)))) af)))))
  (au (aS (d7 (aa (pv 2) (aa (ji Kw rfl T.yA boot_tuple (aa (pv 3) af)) af))))))))),?_⟩
 refine ⟨_,rfl,a,q,B,ai,m,rfl,hT,h1,vm,hm,fun d_ H1 s1=>kE d_ H1 s1,fun heq H1 s1=>?_⟩;subst heq;have kk:=kk rfl;dsimp only [b6];refine ⟨by show 0≤sizeLine;decide,fun fd vn=>?_⟩
 have s2:ae H1 (upd H1 fd (.lst [])):=aW vn;have ef:upd H1 fd (.lst []) fd=some (.lst []):=ax;dsimp only [b6];generalize upd H1 fd (.lst [])=H2 at s2 ef ⊢;have cI:=s1.trans s2;have Qi:H fd=none:=none_of s1 vn;refine ⟨_,rfl,(ai.length:Int),rfl,by lia,by lia,?_⟩
 rw [fj];have Qj:∀i,i≤ai.length→(cL ai.length (bN ai) i).length≤40*i:=fun i=>by
  induction i with
  | zero=>intro _;exact aD _
  | succ i ih=>
   intro hi;have a:=ih (by lia)
   show (cL ai.length (bN ai) i++jZ ai.length (bN ai) i).length≤_;have b:(jZ ai.length (bN ai) i).length≤40:=by unfold jZ;rw [a8];refine aV (za _ _) ?_;rw [dH];lia
   rw [iK];lia
 refine qi (fun i σ Hc=>∃(us:List V) (v4:Option V),σ=[some (.ref z),some (.ref a),some (.int (ai.length:Int)),some (.ref fd),v4]∧ae H Hc∧Hc fd=some (.lst us)∧gc Hc us (cL ai.length (bN ai) i)) ⟨[],_,rfl,cI,ef,gc.nil _⟩ ?_ ?_
 ·rintro i σ Hc hi ⟨us,v4,rfl,sc,vo,hL⟩
  refine ⟨_,rfl,.inl ⟨rfl,_,.of vo⟩,_,rfl,_,rfl,_,rfl,z,a,q,B,ai,ai.length,i,?_,hz.mono sc,hq,hT.mono sc,rfl,vm,hm,hi,fun r ws Hd sd nr Qk hR=>?_⟩
  ·show [V.ref z,V.ref a,V.int (0+(i:Int))]=_
   rw [uh]
  have l1:=hL.1;have l2:=hR.1;have l3:=Qj (i+1) (by lia)
  have e3:cL ai.length (bN ai) (i+1)=cL ai.length (bN ai) i++jZ ai.length (bN ai) i:=rfl;rw [e3,iK] at l3;refine ⟨fd,r,us,ws,rfl,rfl,sd _ _ vo,Qk,aV (show _≤2000 by lia) (by decide),us++ws,_,rfl,gT (sc.trans sd) Qi,ax,?_⟩
  rw [e3];exact ((hL.mono sd).cat hR).bG (sd _ _ vo) fun b o nb e=>by rw [aN nb];exact e
 ·rintro σ Hc ⟨us,v4,rfl,sc,vo,hL⟩
  refine ⟨_,rfl,_,rfl,fd,us,rfl,.inl ⟨.of vo,fun lt Ql=>?_⟩⟩;have sl:ae Hc (upd Hc lt (.tup us)):=aW Ql;have el:upd Hc lt (.tup us) lt=some (.tup us):=ax;generalize upd Hc lt (.tup us)=Hd at sl el ⊢;refine ⟨by show 2≤sizeLine;decide,fun tp fc=>?_⟩
  have st:ae Hd (upd Hd tp (.tup [.int (ai.length:Int),.ref lt])):=aW fc;exact kk tp _ (sc.trans (sl.trans st)) (none_of (sc.trans sl) fc) ⟨lt,us,ax,st _ _ el,(hL.mono sl).mono st⟩
theorem Qm:a9 ["shape","linked","i","j"] ["shape"] (aJ xF):=bD
theorem Qn(T:Txt K mg t):aT P w K mg base bI 1 t.oo t.rb ["shape"] ND:=by
 have S:=Qm;refine T.sN.b9 S (fun _ _ _ _ H _ _ _ hr h=>?_);obtain ⟨tp,n,L,rfl,⟨lt,us,cT,elt,hL⟩,ok,n9,kk⟩:=h;have hu:=jE (Nat.add_le_add_left (show 1≤64 by decide) _) hr.units
 have Qo:((List.range n).map fun i:Nat=>V.int (0+(i:Int))).length=n:=by rw [a8,dH]
 refine ⟨_,(ar (wO (i0:=1) (N:=["place"]) (ρ:=(fun σ=>[])) (jj [] rfl) rfl S.nd rfl (Or.inl rfl) (kJ rfl T.gZ (aa (aq ba (pv 0) ak) af)) (fun _ _ _=>.nil) (fun _ _ _=>Nw))
  (ar (fo dU rfl (Jp (aq ba (pv 0) ak)) (mZ rfl (gM (cA (i:=2) S.nd rfl (Or.inl rfl)) (gM (cA (i:=3) S.nd rfl (Or.inl rfl)) mY)))
   (ar (As hu (aq a_ (pv 1) (pv 2)) (pv 3) hU rfl)
  (au (As hu (aq a_ (pv 1) (pv 3)) (pv 2) hU rfl))))
  (au (aS (pv 1))))),?_⟩
 refine l_ (bV (wY (xs:=(List.range n).map fun i:Nat=>V.int (0+(i:Int))) (n:=n) Qo (fun R h=>⟨_,rfl,tp,_,_,_,rfl,rfl,.of cT,rfl,(n:Int),rfl,by lia,by lia,h _ _ (ae.refl _) (by rw [fj];exact D9)⟩) (fK (by lia)) (fun _ i y Hx=>Hx y=some (.dK (dk []))∧H y=none) ?_ ?_ ?_))
 ·intro D i y Ha Hb ys ⟨h1,h2⟩ hy e f
  exact ⟨f y _ hy h1,h2⟩
 ·intro D i x hx Hc R sc _ kc
  refine fun p np=>kc p _ (gT (ae.refl _) np) np ⟨_,ax⟩ ⟨ax,?_⟩;cases e:H p with
  | none=>rfl
  | some o=>rw [sc _ _ e] at np;cases np
 ·intro D ds H1 nD s1 inj hA eD
  have K0:dE H1 D n ds (fun _=>True) (fun _=>[]):=⟨eD,inj,fun i hi=>(hA i hi).2,fun i hi _=>(hA i hi).1.1,fun i _=>j4.nil n⟩;have fr:∀i,i<n→H (ds i)=none:=fun i hi=>(hA i hi).1.2;dsimp only [b6];refine l_ ⟨_,rfl,tp,_,_,_,rfl,rfl,.of (s1 _ _ cT),rfl,lt,rfl,⟨_,.of (s1 _ _ elt)⟩,?_⟩;refine Jv (K:=K) (a:=lt) (xs:=us) (fun k σ Hc=>∃(f:Nat→List Nat) (v2 v3:Option V),σ=[some (.ref tp),some (.ref D),v2,v3]∧ae H Hc∧dE Hc D n ds (fun _=>True) f∧k4 n (L.take k) f) ⟨_,_,_,rfl,s1,K0,k4.nil n⟩ (fun k σ Hc _ ⟨_,_,_,_,sc,_⟩=>.of (sc _ _ elt)) ?_ ?_
  ·rintro k x σ Hc hx ⟨f,v2,v3,rfl,sc,KL,nb⟩
   have hk:k<L.length:=by rw [←hL.1];exact (cq.mp hx).1
   obtain ⟨b,rfl,eb⟩:=hL.2 k x L[k] hx (by simp [hk])
   have pk:=ok L[k] (gk hk);have tk:L.take (k+1)=L.take k++[L[k]]:=by rw [List.take_succ,d6 hk];rfl
   generalize L[k]=p at eb pk tk;obtain ⟨p1,p2⟩:=p;dsimp only at pk eb;obtain ⟨i,rfl⟩:=jI pk.1;obtain ⟨j,rfl⟩:=jI pk.2.2.1;have hi:i<n:=by lia
   have hj:j<n:=by lia
   refine ⟨b,_,rfl,.of (sc _ _ eb),rfl,_,_,rfl,_,_,rfl,rfl,?_⟩;obtain ⟨q1,K1⟩:=KL.put hi hj trivial n9;obtain ⟨q2,K2⟩:=K1.put hj hi trivial n9;refine ⟨_,rfl,_,rfl,D,_,_,_,rfl,rfl,.of KL.lst,KL.ix hi,_,rfl,_,_,rfl,q1,?_⟩;refine ⟨_,rfl,_,rfl,D,_,_,_,rfl,rfl,.of K1.lst,K1.ix hj,_,rfl,_,_,rfl,q2,?_⟩;have off:∀(Hx:Hp) (i:Nat) (o:HO),i<n→ae H Hx→ae H (upd Hx (ds i) o):=fun Hx i o hi sx a u e=>by
    rw [aN (fun z=>by rw [z,fr i hi] at e;cases e)]
    exact sx _ _ e
   exact ⟨_,_,_,rfl,off _ _ _ hj (off _ _ _ hi sc),K2,by rw [tk];exact nb.more hi hj⟩
  ·rintro σ Hc ⟨f,v2,v3,rfl,sc,KL,nb⟩
   rw [hL.1,jF] at nb;exact ⟨_,rfl,kk _ _ _ _ sc nD fr KL nb⟩
theorem Qp:a9 ["many"] ["many"] (aJ xM):=bD
theorem Qq(T:Txt K mg t):aT P w K mg base bI 1 t.oA t.rq ["many"] N8:=by have S:=Qp;refine T.sS.b9 S (fun _ _ _ _ H _ _ _ hr h=>?_);obtain ⟨m,rfl,m1,k⟩:=h;refine ⟨_,(au (aS (aM fU (aM fU (aM fV (pv 0) (pv 0)) (aM fV ak (pv 0))) ak))),?_⟩;exact ⟨_,rfl,_,rfl,_,_,rfl,rfl,.inl ⟨by lia,by lia⟩,_,rfl,_,_,rfl,rfl,.inl ⟨by lia,by lia⟩,_,_,rfl,rfl,_,_,rfl,rfl,k⟩
theorem Qr:a9 ["thing","n"] ["thing","n"] (aJ xG):=bD
theorem Qs(T:Txt K mg t):aT P w K mg base bI 2 t.oq t.rd ["thing","n"] NK:=by
 have S:=Qr;refine T.sO.b9 S (fun _ _ _ _ H _ _ _ hr h=>?_);obtain ⟨a,zs,n,rfl,ea,vp,n1,k⟩:=h;have mB:=hr.units
 refine ⟨_,(ar (b5 (PW.pt (pw_or (uy (lQ (cC (uN (K:=K)) rfl T.tR boot_isinstance (aa (pv 0) (aa (ux (v:=.ty "list") rfl T.lA boot_list rfl) af))))) (pw_or1 (uy (lQ (cC (LB (K:=K) rfl) rfl T.GQ boot_all (aa (nE (N:=["place"]) (ρ:=(fun σ=>[])) (jj [] rfl) rfl (gu (pv 0)) (fun _ _ _=>.nil) (fun _ _ _=>(aU (G1 T) hr T.A6 T.pq.kp T.A5 aY (aa (pv 0) af)))) af))))))) (au (aS hU)) cw)
  (au (aS (ql (NG mB) (cC EU rfl T.Bo PyProof.Rows.boot_sorted (aa (pv 0) af)) (ji (z8 rfl) rfl T.lA boot_list (aa (ji z7 rfl T.gZ z9 (aa (pv 1) af)) af)))))),?_⟩
 refine ⟨_,rfl,_,_,_,true,rfl,rfl,.of (.lst ea),Ac,true,rfl,dY ?_⟩;unfold CW tB;refine Ak (Ea (xs:=zs.map V.int) (fun R h=>⟨_,rfl,a,rfl,⟨_,.of ea⟩,h _ _ (ae.refl _) (nJ (.of ea))⟩) (by rw [a8];exact fK (by lia)) (fun _ i y _=>y=.bl true) (fun _ _ _ _ _ _ h _ _=>h) ?_ ?_)
 ·intro D i v hi Hc R sc _ kc
  obtain ⟨z,rfl⟩:∃z:Int,v=.int z:=by
   rw [cE] at hi;cases e:zs[i]? with
   | none=>rw [e] at hi;cases hi
   | some z=>rw [e] at hi;exact ⟨z,(Option.some.inj hi).symm⟩
  exact ⟨_,rfl,.int z,rfl,.int z,kc _ Hc (ae.refl _) rfl⟩
 ·intro D ys Hc sc mz hP eD
  refine ⟨D,List.replicate ys.length true,rfl,.of (by rw [eD];exact gh _ (gh _ (Ej hP))),?_⟩
  rw [MO];refine ⟨true,rfl,dY ?_⟩;dsimp only [vW];have yG:=sc _ _ ea;refine ⟨_,rfl,a,zs,rfl,yG,vp,fun ws D2 p o n2=>?_⟩;refine ⟨_,rfl,(n:Int),rfl,fun p1 mC=>⟨p1,n,rfl,ax,by lia,fun l nl=>?_⟩⟩
  have d1:D2≠p1:=fun z=>by rw [←z,ax] at mC;cases mC
  have d2:D2≠l:=fun z=>by rw [←z,aN d1,ax] at nl;cases nl
  refine ⟨D2,l,ws,(List.range n).map iN,rfl,rfl,.of ?_,.of ?_,?_⟩;·rw [aN d2,aN d1,ax]
  ·rw [ax]
   unfold eZ;rw [gI];rfl
  ·rw [NJ p o]
   exact k _ (w5 (w5 (w5 sc n2) mC) nl)
theorem Qt:a9 ["order","n"] ["order","n"] (aJ xH):=bD
theorem Qu(T:Txt K mg t):aT P w K mg base (de P w) 3 t.ou t.rf ["order","n"] (NL t.lq):=by
 have S:=Qt;refine T.sP.cY S (fun _ _ _ _ H _ _ _ hr h L=>?_);obtain ⟨a,zs,n,rfl,ea,vp,n1,kE,k⟩:=h;refine ⟨_,(au (b5 (uy (lQ (aU (Qs T) hr T.FN T.sO.kp T.FL aY (aa (pv 0) (aa (pv 1) af))))) (au (lY L rfl lO T.G0 rfl T.GP (aa eU af))) cw)),?_⟩;refine ⟨_,rfl,_,rfl,a,zs,n,rfl,ea,vp,n1,fun H1 s1=>⟨_,rfl,cG (fun hb=>?_) (fun hb=>?_)⟩⟩;·exact ⟨by show 1≤sizeLine;decide,kE (by simpa using hb) _ s1⟩
 ·exact k (by simpa using hb) _ s1
theorem Qv:a9 ["order","turns","turn","place"] ["order"] (aJ xI):=bD
theorem G9(T:Txt K mg t):aT P w K mg base bI 1 t.ox t.rg ["order"] NN:=by
 have S:=Qv;refine T.pz.b9 S (fun _ _ _ _ H _ _ _ hr h=>?_);obtain ⟨a,n,o,rfl,⟨ea,ho⟩,n1,kk⟩:=h;have lo:=eL ho;have lm:(o.map fun k:Nat=>V.int (k:Int)).length=n:=by rw [a8,lo]
 refine ⟨_,(ar (putL 1 S.nd (aM DL (lW (aa ak af)) (cC eW rfl T.eC eG (aa (pv 0) af))))
  (ar (fo dU rfl (qF rfl T.pK (aa (pv 0) af)) (mZ rfl (gM (cA (i:=2) S.nd rfl (Or.inl rfl)) (gM (cA (i:=3) S.nd rfl (Or.inl rfl)) mY)))
   (au (@gs _ _ _ _ _ _ (pv 2) (hV (pv 1) (pv 3) set_list) (by rfl) (by rfl) (by rfl))))
  (au (aS (pv 1))))),?_⟩
 refine ⟨by show 1≤sizeLine;decide,fun l nl=>?_⟩
 have al:a≠l:=fun z=>by rw [z,nl] at ea;cases ea
 refine ⟨_,rfl,a,_,rfl,.inl (.of (by rw [aN al];exact ea)),l,_,_,rfl,rfl,ax,by lia,by rw [lm];lia,?_,fun c nc=>?_⟩
 ·rw [lm,fj]
  show 1*n≤sizeLine;rw [sizeLine_eq];lia
 rw [lm,fj,NQ n o];have G_:H c=none:=none_of (aW nl) nc;have s0:ae H (upd (upd H l (.lst [.int 0])) c (.lst ((List.range n).map fun p=>V.int (i3 o 0 p)))):=(aW nl).trans (aW nc);have e0:upd (upd H l (.lst [.int 0])) c (.lst ((List.range n).map fun p=>V.int (i3 o 0 p))) c=_:=ax;generalize upd (upd H l (.lst [.int 0])) c (.lst ((List.range n).map fun p=>V.int (i3 o 0 p)))=H0 at s0 e0 ⊢;dsimp only [b6];refine l_ ⟨_,rfl,a,rfl,⟨_,.of (s0 _ _ ea)⟩,?_⟩
 refine Es (K:=K) (l:=a) (xs:=o.map fun k:Nat=>V.int (k:Int)) (fun i σ Hc=>ae H Hc∧∃(v2 v3:Option V),σ=[some (.ref a),some (.ref c),v2,v3]∧Hc c=some (.lst ((List.range n).map fun p=>V.int (i3 o i p))))
  ⟨s0,_,_,rfl,e0⟩ (fun i σ Hc ⟨z,_⟩=>.of (z _ _ ea)) ?_ ?_
 ·rintro i x σ Hc Tt hx ⟨sc,v2,v3,rfl,ec⟩ nT
  have hi:i<o.length:=by have:=(cq.mp hx).1;simpa using this
  have ex:x=.int ((o[i]:Nat):Int):=by rw [cE] at hx;simp [hi] at hx;exact hx.symm
  subst ex;have hp:o[i]<n:=(bW ho).mp (gk hi);have sT:ae Hc (upd Hc Tt (.tup [.int (i:Int),.int ((o[i]:Nat):Int)])):=aW nT;have eT:upd Hc Tt (.tup [.int (i:Int),.int ((o[i]:Nat):Int)]) Tt=_:=ax;generalize upd Hc Tt (.tup [.int (i:Int),.int ((o[i]:Nat):Int)])=H1 at sT eT ⊢;refine ⟨Tt,_,rfl,.of eT,rfl,_,_,rfl,_,_,rfl,rfl,?_⟩;refine ⟨_,rfl,_,rfl,_,rfl,c,_,_,o[i],rfl,rfl,sT _ _ ec,by rw [a8,dH];exact j6 hp,?_⟩
  exact ⟨gT (sc.trans sT) G_,_,_,rfl,by rw [ax,NP ho hi]⟩
 ·rintro σ Hc ⟨sc,v2,v3,rfl,ec⟩
  rw [a8,NR ho] at ec;exact ⟨_,rfl,kk c Hc sc G_ ec⟩
theorem Qw:a9 ["linked","places","one","other"] ["linked","places"] (aJ xJ):=bD
theorem Qx(T:Txt K mg t):aT P w K mg base bI 1 t.oy t.rh ["linked","places"] NS:=by
 have S:=Qw;refine T.sQ.b9 S (fun _ _ _ _ H _ _ _ hr h=>?_);obtain ⟨D,pl,n,ds,un,f,ps,rfl,KL,tT,Bx,n9,kk⟩:=h;have hu:=jE (Nat.add_le_add_left (show 1≤64 by decide) _) hr.units
 have bG:∀i,i<n→un i→pl≠ds i:=fun i hi ui z=>by rw [z,KL.at' i hi ui] at tT;cases tT
 have He:∀{i:Nat} {x:V},(ps.map fun k:Nat=>V.int (k:Int))[i]?=some x→∃p:Nat,ps[i]?=some p∧x=.int (p:Int)∧p<n∧un p:=fun{i x} hx=>by
  rw [cE] at hx;cases e:ps[i]? with
  | none=>rw [e] at hx;cases hx
  | some p=>rw [e] at hx;exact ⟨p,rfl,(Option.some.inj hx).symm,Bx p (g7 e)⟩
 refine ⟨_,(au (fo dU rfl (gu (pv 1)) (cA (i:=2) S.nd rfl (Or.inl rfl))
   (au (fo dU rfl (gu (pv 1)) (cA (i:=3) S.nd rfl (Or.inl rfl))
   (au (b5 (bM kK (pv 2) (pv 3)) (au (As hu (aq a_ (pv 0) (pv 2)) (pv 3) hU rfl)) cw)))))),?_⟩
 refine ⟨_,rfl,pl,rfl,⟨_,.of tT⟩,?_⟩;refine lU (K:=K) (a:=pl) (xs:=ps.map fun k:Nat=>V.int (k:Int)) (fun i σ Hc=>∃(g:Nat→List Nat) (v2 v3:Option V),σ=[some (.ref D),some (.ref pl),v2,v3]∧me n ds un H Hc∧dE Hc D n ds un g∧gf n f ps i 0 g) ⟨f,_,_,rfl,.refl,KL,gf.start n f ps⟩ (fun i σ Hc _ ⟨_,_,_,_,oc,_⟩=>.of (oc _ _ tT bG)) ?_ ?_
 ·rintro i x σ Hc hx ⟨g,v2,v3,rfl,oc,Kc,la⟩
  obtain ⟨p,hp,rfl,pn,up⟩:=He hx;refine ⟨_,rfl,pl,rfl,⟨_,.of (oc _ _ tT bG)⟩,?_⟩;refine lU (K:=K) (a:=pl) (xs:=ps.map fun k:Nat=>V.int (k:Int)) (fun j σ Hd=>∃(g:Nat→List Nat) (v3:Option V),σ=[some (.ref D),some (.ref pl),some (.int (p:Int)),v3]∧me n ds un H Hd∧dE Hd D n ds un g∧gf n f ps i j g) ⟨g,_,rfl,oc,Kc,la⟩ (fun i σ Hc _ ⟨_,_,_,oc,_⟩=>.of (oc _ _ tT bG)) ?_ ?_
  ·rintro j y σ Hd hy ⟨g,v3,rfl,od,Kd,la⟩
   obtain ⟨q,hq,rfl,qn,uq⟩:=He hy;refine ⟨_,rfl,_,rfl,rfl,_,rfl,cG (fun hb=>?_) (fun hb=>?_)⟩
   ·have ne:p≠q:=fun z=>by subst z;rw [jT,cX rfl] at hb;cases hb
    obtain ⟨q1,K1⟩:=Kd.put pn qn up n9;exact ⟨_,rfl,_,rfl,D,_,_,_,rfl,rfl,.of Kd.lst,Kd.ix pn,_,rfl,_,_,rfl,q1,_,_,rfl,od.put pn up,K1,la.put hp hq ne⟩
   ·have e:p=q:=by
     by_cases z:(p:Int)=(q:Int);·lia
     ·exact absurd (by rw [jT,dA z];rfl) hb
    subst e;exact ⟨_,_,rfl,od,Kd,la.same hp hq⟩
  ·rintro σ Hd ⟨g,v3,rfl,od,Kd,la⟩
   rw [a8] at la;exact ⟨g,_,_,rfl,od,Kd,la.row⟩
 ·rintro σ Hc ⟨g,v2,v3,rfl,oc,Kc,la⟩
  rw [a8] at la;exact kk _ g oc Kc la.done
theorem Qy:a9 ["shape","order","linked","turns","told","place"] ["shape","order"] (aJ xK):=bD
theorem Qz(T:Txt K mg t):aT P w K mg base (de P w) 4 t.oz t.rn ["shape","order"] (N_ t.lq):=by
 have S:=Qy;refine T.sR.cY S (fun _ _ _ _ H _ _ _ hr h L=>?_);obtain ⟨tp,a,n,Lk,zs,rfl,hS,hL,ns,P7,ea,vp,kE,kk⟩:=h;obtain ⟨lt,us,cT,elt,Aa⟩:=id hS
 refine ⟨_,(ar (qf (aU (Qu T) hr T.FP T.sP.kp T.FO (lX L) (aa (pv 1) (aa (aq ba (pv 0) ak) af))))
  (dJ.jN (ar (putL 2 S.nd (aU (Qn T) hr T.FK T.sN.kp T.FJ aY (aa (pv 0) af)))
  (ar (nH 3 S.nd (aU (G9 T) hr T.A8 T.pz.kp T.A7 aY (aa (pv 1) af)))
  (ar (wO (i0:=4) (N:=["place"]) (ρ:=(fun σ=>[])) (jj [] rfl) rfl S.nd rfl (Or.inl rfl) (gu (pv 1)) (fun _ _ _=>.nil) (fun _ _ _=>(lW af)))
  (ar (fo dU rfl (gu (pv 1)) (cA (i:=5) S.nd rfl (Or.inr rfl))
   (ar (@gs _ _ _ _ _ _ (cC EU rfl T.Bo PyProof.Rows.boot_sorted (aa (nE (N:=["other","turns","place"]) (ρ:=(fun σ=>[σ[3]?.join,σ[5]?.join])) (jj [3,5] rfl) rfl (Nj (aq a_ (pv 2) (pv 5))) (fun _ _ _=>(.one (bM uD (aq (iX (K:=K)) (pv 1) (pv 0)) (aq (iX (K:=K)) (pv 1) (pv 2))))) (fun _ _ _=>(pv 0))) af)) (hV (pv 4) (pv 5) set_list) (by rfl) (by rfl) (by rfl))
  (au (qf (aU (Qx T) hr T.FR T.sQ.kp T.FQ aY (aa (pv 2) (aa (aq a_ (pv 4) (pv 5)) af)))))))
  (au (aS (pv 4))))))))),?_⟩
 refine ⟨_,rfl,_,rfl,tp,_,_,_,rfl,rfl,.of cT,rfl,a,zs,n,rfl,ea,vp,by lia,fun no H1 s1=>kE no H1 s1,fun yes H1 s1=>?_⟩
 obtain ⟨o,rfl,ho⟩:=NZ yes;have kk:=kk o rfl ho;have lo:=eL ho;have nd:=iB ho;have vq:H a=some (.lst (o.map fun k:Nat=>V.int (k:Int))):=by rw [ea,gI];rfl
 have lm:(o.map fun k:Nat=>V.int (k:Int)).length=n:=by rw [a8,lo]
 refine ⟨_,rfl,tp,n,Lk,rfl,⟨lt,us,s1 _ _ cT,s1 _ _ elt,Aa.mono s1⟩,hL,by lia,fun H2 D ds f s2 nD QA KL nb=>?_⟩
 have XD:=none_of s1 nD;have Hi:∀i,i<n→H (ds i)=none:=fun i hi=>none_of s1 (QA i hi);have cI:=s1.trans s2;dsimp only [b6];refine ⟨_,rfl,a,n,o,rfl,⟨cI _ _ vq,ho⟩,by lia,fun tr H3 s3 QB e3=>?_⟩
 have iH:=cI.trans s3;have XE:=none_of cI QB;have K3:=KL.mono s3;dsimp only [b6];refine l_ (bV (wY (xs:=o.map fun k:Nat=>V.int (k:Int)) (n:=n) lm (fun R h=>⟨_,rfl,a,rfl,⟨_,.of (iH _ _ vq)⟩,h _ _ (ae.refl _) (nJ (.of (iH _ _ vq)))⟩) (fK (by lia)) (fun _ i y Hx=>H3 y=none) (fun _ _ _ _ _ _ h _ _ _=>h) ?_ ?_))
 ·intro D' i x hx Hc R sc _ kc
  refine ⟨by show 0≤sizeLine;exact cu _,fun p np=>kc p _ (aW np) np ⟨_,ax⟩ (none_of sc np)⟩
 ·intro c QC H4 nc s4 _ hA ec
  have iI:=iH.trans s4;have Hj:=none_of iH nc;have K4:=K3.mono s4;have e4:=s4 _ _ e3;have cD:c≠D:=fun z=>by rw [z,K3.lst] at nc;cases nc
  have QD:c≠tr:=fun z=>by rw [z,e3] at nc;cases nc
  dsimp only [b6];refine l_ ⟨_,rfl,a,rfl,⟨_,.of (iI _ _ vq)⟩,?_⟩
  refine lU (K:=K) (a:=a) (xs:=o.map fun k:Nat=>V.int (k:Int)) (fun k σ Hc=>∃(rs:Nat→Addr) (f g:Nat→List Nat) (v5:Option V),σ=[some (.ref tp),some (.ref a),some (.ref D),some (.ref tr),some (.ref c),v5]∧ae H Hc∧dE Hc D n ds (fun p=>k≤o.idxOf p) f∧Hc tr=some (.lst ((List.range n).map fun p=>V.int (o.idxOf p:Int)))∧Hc c=some (.lst ((List.range n).map fun p=>V.ref (rs p))) ∧
    (∀p,p<n→o.idxOf p<k→H (rs p)=none∧rs p≠c∧Hc (rs p)=some (.lst ((g p).map fun k:Nat=>V.int (k:Int)))∧e9 n o p (g p)∧eM n Lk o p (g p))∧nV n Lk o k f) ⟨QC,f,fun _=>[],_,rfl,iI,K4.less (fun _ _ _=>trivial),e4,ec,fun p _ h=>absurd h (mF _),nV.start nb ns⟩ (fun k σ Hc _ ⟨_,_,_,_,_,sc,_⟩=>.of (sc _ _ vq)) ?_ ?_
  ·rintro k x σ Hc hx ⟨rs,f,g,v5,rfl,sc,Kc,By,yH,done,Bz⟩
   have hk:k<o.length:=by have:=(cq.mp hx).1;simpa using this
   have ex:x=.int ((o[k]:Nat):Int):=by rw [cE] at hx;simp [hk] at hx;exact hx.symm
   subst ex;have hp:o[k]<n:=(bW ho).mp (gk hk);have ip:o.idxOf o[k]=k:=md nd hk;generalize o[k]=p at hp ip ⊢;dsimp only [b6];have Hk:=Kc.at' p hp (by lia)
   refine l_ (bV (Ak (N6 ⟨_,rfl,_,rfl,D,_,_,_,rfl,rfl,.of Kc.lst,Kc.ix hp,ds p,dk (f p),rfl,.inl ⟨Hk,fun ob=>?_⟩⟩)));have Kf:dE (upd Hc (ds p) (.cb ob (.dK (dk (f p))))) D n ds (fun q=>k+1≤o.idxOf q) f:=(Kc.less (fun i hi (ui:k+1≤o.idxOf i)=>show k≤o.idxOf i by lia)).upd (Kc.ne p hp) (fun i hi (ui:k+1≤o.idxOf i) z=>by have:=Kc.inj i p hi hp z;subst this;lia)
   have BA:∀{b:Addr} {xs:List V},Hc b=some (.lst xs)→b≠ds p:=fun{b xs} e z=>by rw [z,Hk] at e;cases e
   have yI:upd Hc (ds p) (.cb ob (.dK (dk (f p)))) tr=_:=(aN (BA By)).trans By;have yJ:upd Hc (ds p) (.cb ob (.dK (dk (f p)))) c=_:=(aN (BA yH)).trans yH;have sf:ae H (upd Hc (ds p) (.cb ob (.dK (dk (f p))))):=fun b u e=>by
    rw [aN (fun z=>by rw [z,Hi p hp] at e;cases e)]
    exact sc _ _ e
   have BB:∀q,q<n→o.idxOf q<k→H (rs q)=none∧rs q≠c∧upd Hc (ds p) (.cb ob (.dK (dk (f p)))) (rs q)=some (.lst ((g q).map fun k:Nat=>V.int (k:Int)))∧e9 n o q (g q)∧eM n Lk o q (g q):=fun q hq yK=>by obtain ⟨d1,d2,d3,d4⟩:=done q hq yK;exact ⟨d1,d2,(aN (BA d3)).trans d3,d4⟩
   have Hl:upd Hc (ds p) (.cb ob (.dK (dk (f p)))) (ds p)=some (.cb ob (.dK (dk (f p)))):=ax;generalize upd Hc (ds p) (.cb ob (.dK (dk (f p))))=Hf at Kf yI yJ sf BB Hl ⊢;have vt:=Kc.pl p hp;refine NX Hl (fun q=>decide ((o.idxOf p:Int)<(o.idxOf q:Int))) (jE vt.len (fK (by lia))) ?_ ?_ ?_
   ·intro q hq Hx R sx hR
    have qn:=vt.2 q hq;exact ⟨_,rfl,_,rfl,tr,_,_,_,rfl,rfl,.of (sx _ _ yI),bH qn,_,rfl,_,rfl,tr,_,_,_,rfl,rfl,.of (sx _ _ yI),bH hp,_,_,rfl,rfl,_,rfl,hR⟩
   ·intro q hq Hx R hR
    exact ⟨_,rfl,hR⟩
   ·intro D1 H1 BC Hm Hn
    rw [N5] at Hn;have fl:((f p).filter fun q=>decide (o.idxOf p<o.idxOf q)).length≤n:=aV (za _ _) vt.len;refine ⟨D1,((f p).filter fun q=>decide (o.idxOf p<o.idxOf q)).map iN,rfl,by rw [Hn,gI];rfl,by rw [a8];lia,fun ws D2 pw so Ho=>?_⟩
    obtain ⟨ms,rfl,pm⟩:=EX pw;have dQ:=NY vt pm so;have hm:∀q,q∈ms↔q∈f p∧k<o.idxOf q:=fun q=>by rw [pm.mem_iff,pX,um,ip]
    have QE:eM n Lk o p ms:=fun q=>by
     rw [hm q,ip];constructor
     ·rintro ⟨h1,h2⟩
      have qn:=vt.2 q h1;exact ⟨qn,h2,((Bz p q hp qn (by lia) (by lia)).mp h1).2⟩
     ·rintro ⟨h1,h2,h3⟩
      exact ⟨(Bz p q hp h1 (by lia) (by lia)).mpr ⟨fun e=>by subst e;lia,h3⟩,h2⟩
    have pN:ae Hf (upd H1 D2 (.lst ((ms.map iN).map V.int))):=w5 Hm Ho;have Hq:upd H1 D2 (.lst ((ms.map iN).map V.int)) D2=some (.lst (ms.map fun k:Nat=>V.int (k:Int))):=by rw [ax,gI];rfl
    have BD:Hf D2=none:=none_of Hm Ho;have QF:H D2=none:=none_of sf BD;generalize upd H1 D2 (.lst ((ms.map iN).map V.int))=Hg at pN Hq ⊢;have Hr:D2≠c:=fun z=>by rw [z,yJ] at BD;cases BD
    refine ⟨_,rfl,_,rfl,c,_,_,p,rfl,rfl,pN _ _ yJ,by rw [a8,dH];exact j6 hp,?_⟩
    rw [N1];have Kg:=Kf.mono pN;have Kh:dE (upd Hg c (.lst ((List.range n).map fun q=>V.ref (i4 rs p D2 q)))) D n ds (fun q=>k+1≤o.idxOf q) f:=Kg.upd cD (fun i hi ui z=>by have:=Kg.at' i hi ui;rw [z,pN _ _ yJ] at this;cases this)
    have sh:ae H (upd Hg c (.lst ((List.range n).map fun q=>V.ref (i4 rs p D2 q)))):=gT (sf.trans pN) Hj;have BE:upd Hg c (.lst ((List.range n).map fun q=>V.ref (i4 rs p D2 q))) c=_:=ax;have Hs:upd Hg c (.lst ((List.range n).map fun q=>V.ref (i4 rs p D2 q))) tr=_:=(aN (Ne.symm QD)).trans (pN _ _ yI);have BF:upd Hg c (.lst ((List.range n).map fun q=>V.ref (i4 rs p D2 q))) D2=_:=(aN Hr).trans Hq;have Ht:∀q,q<n→o.idxOf q<k→upd Hg c (.lst ((List.range n).map fun q=>V.ref (i4 rs p D2 q))) (rs q)=some (.lst ((g q).map fun k:Nat=>V.int (k:Int))):=fun q hq yK=>by obtain ⟨d1,d2,d3,d4⟩:=BB q hq yK;exact (aN d2).trans (pN _ _ d3)
    generalize upd Hg c (.lst ((List.range n).map fun q=>V.ref (i4 rs p D2 q)))=Hh at Kh sh BE Hs BF Ht ⊢;refine ⟨_,rfl,_,rfl,_,rfl,c,_,_,_,rfl,rfl,.of BE,bH hp,?_⟩;rw [EY];refine ⟨D,D2,n,ds,_,f,ms,rfl,Kh,BF,fun q hq=>⟨dQ.lt q hq,by have:=dQ.la q hq;lia⟩,by lia,fun H5 g5 off K5 con=>?_⟩
    have bG:∀{b:Addr} {xs:List V},Hh b=some (.lst xs)→H5 b=some (.lst xs):=fun{b xs} e=>off _ _ e fun i hi ui z=>by rw [z,Kh.at' i hi ui] at e;cases e
    refine ⟨i4 rs p D2,g5,e8 g p ms,_,rfl,fun b u e=>off _ _ (sh _ _ e) (fun i hi _ z=>by rw [z,Hi i hi] at e;cases e),K5,bG Hs,bG BE,fun q hq yK=>?_,Bz.step ho hp ip hm dQ.lt con⟩
    by_cases e:q=p
    ·subst e
     rw [EY,N3];exact ⟨QF,Hr,bG BF,dQ,QE⟩
    ·rw [N2 e,N4 e]
     have ne:=nS ho hq hp e;have Hu:o.idxOf q<k:=by lia
     obtain ⟨d1,d2,d3,d4⟩:=BB q hq Hu;exact ⟨d1,d2,bG (Ht q hq Hu),d4⟩
  ·rintro σ Hc ⟨rs,f,g,v5,rfl,sc,Kc,By,yH,done,_⟩
   rw [lm] at done;have lt:∀p,p<n→o.idxOf p<n:=fun p hp=>by have:=(cS ((bW ho).mpr hp)).1;lia
   exact ⟨_,rfl,kk Hc c rs g sc Hj (fun p hp=>(done p hp (lt p hp)).1) ⟨yH,fun p hp=>(done p hp (lt p hp)).2.2.1⟩ fun p hp=>(done p hp (lt p hp)).2.2.2⟩
theorem QG:a9 ["world","table","order","others","work","turn","place"] ["world","table","order"] (aJ xO):=bD
theorem Hv(T:Txt K mg t):aT P w K mg base bI 8 t.oC t.rA ["world","table","order"] (Om t.aP t.lq):=by
 have S:=QG;have iE:=tS (P:=P) (w:=w) (base:=base) T;obtain ⟨dv,iF,iG⟩:=T.pI;refine T.pA.b9 S (fun _ _ _ _ H _ _ _ hr h=>?_);obtain ⟨z,a,d,q,B,X,n,ai,o,M,D,rfl,hw,hq,hT,yL,ln,n1,dR,wd,ed,ho,cm,kS,kF⟩:=h;have mB:=hr.units;have hu:=jE (Nat.add_le_add_left (show 1≤64 by decide) _) hr.units
 have hu:=hr.wm;have lo:=eL ho;have Ff:=iB ho
 refine ⟨_,(ar (putL 3 S.nd (aU (Qz T) hr T.FU T.sR.kp T.FT gA (aa (aU (Qh T) hr T.FI T.sM.kp T.FH gA (aa (pv 0) (aa (pv 1) af))) (aa (pv 2) af))))
  (ar (wO (i0:=4) (N:=["row"]) (ρ:=(fun σ=>[])) (jj [] rfl) rfl S.nd rfl (Or.inl rfl) (gu (pv 1)) (fun _ _ _=>.nil) (fun _ _ _=>(ji (MJ (K:=K)) rfl T.lA boot_list (aa (pv 0) af))))
  (ar (fo dU rfl (qF rfl T.pK (aa (pv 2) af)) (mZ rfl (gM (cA (i:=5) S.nd rfl (Or.inl rfl)) (gM (cA (i:=6) S.nd rfl (Or.inl rfl)) mY)))
   (ar (b5 (bM (L5 hu) (aq a_ (aq a_ (pv 4) (pv 6)) (pv 6)) (fq (pv 0) T.cH T.lx iE (hr.mono (by decide)) iG iF gA (aa ak af))) (au (aS (d7 (aa (pv 4) (aa (pv 3) (aa (aM fU (pv 5) ak) af)))))) cw)
  (au (qf (aU (P6 T) hr T.FY T.sV.kp T.FX aY (aa (pv 0) (aa (pv 4) (aa (pv 6) (aa (aq a_ (pv 3) (pv 6)) af)))))))))
  (au (aS (d7 (aa (pv 4) (aa (pv 3) (aa kI af))))))))),?_⟩
 have lt:∀zz∈cL n (bN ai) n,0≤zz.1∧zz.1<zz.2∧zz.2<(n:Int):=Oq;have QH:Av n (cL n (bN ai) n):=fun zz hz=>by have:=lt zz hz;exact ⟨this.1,by lia,by lia,this.2.2⟩
 have ns:Ax (cL n (bN ai) n):=fun zz hz=>by have:=lt zz hz;lia
 refine bh fun _ hR=>bV ⟨_,rfl,_,rfl,z,a,q,B,ai,n,rfl,hw,hq,hT,by lia,by lia,wd,fun ne=>absurd ln.symm ne,fun _ tp H1 s1 fc sh=>⟨_,rfl,tp,d,n,cL n (bN ai) n,o.map iN,rfl,sh,QH,ns,by lia,by rw [s1 _ _ ed,gI];rfl,by rw [a8];lia,fun no=>absurd (ho.map iN) no,fun o' ez jK H2 ot ls g s2 not XF la cR=>hR _ _ ?_⟩⟩
 have eo:o'=o:=by
  have inj:∀{a b:List Nat},a.map iN=b.map iN→a=b:=fun{a b} e=>by
   have:=gh (List.map Int.toNat) e;rw [gI,gI] at this;have QI:(Int.toNat ∘ iN)=id:=by funext x;exact fj x
   rwa [QI,qc,qc] at this
  exact (inj ez).symm
 subst eo;have cI:=s1.trans s2;obtain ⟨ra,vf,ea,er,num⟩:=Oo (hT.mono cI) ln wd;have fB:((List.range n).map fun i=>V.ref (ra i)).length=n:=by rw [a8,dH]
 refine bh fun _ hR=>bV (wY (xs:=(List.range n).map fun i=>V.ref (ra i)) (n:=n) fB (fun R h=>⟨_,rfl,a,rfl,⟨_,.of ea⟩,h _ _ (ae.refl _) (nJ (.of ea))⟩) (fK (by lia)) (fun _ i y Hx=>Hx y=some (.lst ((List.range n).map (vf i)))∧H2 y=none) ?_ ?_ ?_)
 ·intro D i y Ha Hb ys ⟨h1,h2⟩ hy e f
  exact ⟨f y _ hy h1,h2⟩
 ·intro D i x hx Hc R sc _ kc
  have hi:i<n:=by
   have:=(cq.mp hx).1
   rwa [fB] at this
  have ex:x=.ref (ra i):=by rw [cE,jb hi] at hx;exact (Option.some.inj hx).symm
  subst ex;exact ⟨_,rfl,ra i,_,rfl,.inl (.of (sc _ _ (er i hi))),fun l nl=>kc l _ (aW nl) nl ⟨_,ax⟩ ⟨ax,none_of sc nl⟩⟩
 ·intro wk rs H3 QJ s3 inj hA QK
  refine hR _ _ ?_;have W3:WTab H3 wk n rs vf:=⟨QK,inj,fun i hi=>(hA i hi).2,fun i hi=>(hA i hi).1.1⟩;have vv:∀i,i<n→H2 (rs i)=none:=fun i hi=>(hA i hi).1.2;have iH:=cI.trans s3;have F3:c_ X H3 q n vf (sT M D o' 0) (sU M D o' 0):=fun i j hi hj=>by
   have e1:sT M D o' 0 i j=M i j:=by unfold sT;rw [ao ⟨cu _,cu _⟩];exact uZ
   have e2:sU M D o' 0 i j=D i:=by unfold sU;rw [ao ⟨cu _,cu _⟩];exact fh _
   have b:=cm.bd 0 i j (cu _);rw [e1,e2] at b ⊢;exact qP ((num i j hi hj).mono s3) (cm.k9 i j hi hj) (cm.dn i) b.1 b.2
  have nv:=qB hq;obtain ⟨dz,hz⟩:=id hw;have yM:∀{Hc:Hp},eN n rs H3 Hc→ae H2 Hc:=fun{Hc} oc b u e=>oc b u (fun i hi zz=>by rw [zz,vv i hi] at e;cases e) (s3 _ _ e)
  have sH:∀{Hc:Hp},eN n rs H3 Hc→ae H Hc:=fun{Hc} oc=>cI.trans (yM oc);have QL:∀i,i<n→ot≠rs i:=fun i hi zz=>by have h:=la.1;rw [zz,vv i hi] at h;cases h
  have Hw:∀i,i<n→∀j,j<n→ls j≠rs i:=fun i hi j hj zz=>by have h:=la.2 j hj;rw [zz,vv i hi] at h;cases h
  have QM:∀i,i<n→z≠rs i:=fun i hi zz=>by have h:=hz;rw [zz,none_of cI (vv i hi)] at h;cases h
  have pack:∀{Hc:Hp} {vf:Nat→Nat→V} {k:Nat},eN n rs H3 Hc→WTab Hc wk n rs vf→c_ X Hc q n vf (sT M D o' k) (sU M D o' k)→AG H Hc q n X (cL n (bN ai) n) o' M D k wk ot rs vf ls g:=fun{Hc vf k} oc Wc Fc=>⟨Wc,⟨none_of cI QJ,fun i hi=>none_of cI (vv i hi)⟩,Fc,⟨yM oc _ _ la.1,fun p hp=>yM oc _ _ (la.2 p hp)⟩,cR,fun i hi=>⟨QL i hi,Hw i hi⟩⟩;refine bh fun _ hR=>⟨_,rfl,d,rfl,⟨_,.of (iH _ _ ed)⟩,?_⟩;refine Es (K:=K) (l:=d) (xs:=bS o') (fun k σ Hc=>∃(vf:Nat→Nat→V) (v5 v6:Option V),σ=[some (.ref z),some (.ref a),some (.ref d),some (.ref ot),some (.ref wk),v5,v6]∧eN n rs H3 Hc∧WTab Hc wk n rs vf∧c_ X Hc q n vf (sT M D o' k) (sU M D o' k)∧bZ q M (cO o' k)) ⟨vf,_,_,rfl,eN.refl _ _ _,W3,F3,trivial⟩ (fun k σ Hc ⟨_,_,_,_,oc,_⟩=>.of (sH oc _ _ ed)) ?_ ?_
  ·rintro k x σ Hc Tt hx ⟨vf,v5,v6,rfl,oc,Wc,Fc,gd⟩ nT
   obtain ⟨p,hk,rfl⟩:=int_at hx;have kl:k<o'.length:=(cq.mp hk).1;have pk:o'[k]=p:=(cq.mp hk).2;have hp:p<n:=(bW ho).mp (g7 hk);have ip:o'.idxOf p=k:=by rw [←pk];exact md Ff kl
   have yN:ae Hc (upd Hc Tt (.tup [.int (k:Int),.int (p:Int)])):=aW nT;have eT:upd Hc Tt (.tup [.int (k:Int),.int (p:Int)]) Tt=some (.tup [.int (k:Int),.int (p:Int)]):=ax;generalize upd Hc Tt (.tup [.int (k:Int),.int (p:Int)])=H4 at yN eT ⊢;have BG:=oc.same yN;have W4:=Wc.mono yN;have F4:c_ X H4 q n vf (sT M D o' k) (sU M D o' k):=fun i j hi hj=>(Fc i j hi hj).mono yN;refine ⟨Tt,_,rfl,.of eT,rfl,_,_,rfl,_,_,rfl,rfl,?_⟩;have Hy:sT M D o' k p p=az M (cO o' k) (M p) p:=by unfold sT;rw [ao ⟨by lia,by lia⟩]
   obtain ⟨x,m,h1,h2,h3⟩:=F4 p p hp hp;have BH:=sH BG _ _ hz;refine bh fun _ hR=>⟨_,rfl,_,rfl,wk,_,_,_,rfl,rfl,.of W4.lst,bH hp,_,rfl,rs p,_,_,_,rfl,rfl,.of (W4.at' p hp),bH hp,_,rfl,z,dz,_,rfl,BH,fv (by decide +kernel),z,q,0,1,rfl,⟨dz,BH⟩,hq,b7.of_lt (by decide) (by decide),fun h=>absurd h nv,fun _ v0 H5 s5 lE=>?_⟩
   refine MQ (h1.mono s5) (ma (B:=1000) (by decide) lE hq (.inl rfl)) ⟨_,rfl,cG (fun hb=>?_) (fun hb=>?_)⟩
   ·have x0:x=0:=eF hb
    have yO:q∣az M (cO o' k) (M p) p:=by rw [←Hy];exact (AA hq ⟨x,m,h1,h2,h3⟩).mpr ⟨x,m,h1,x0⟩
    have vw:=BG.same s5;refine gD ⟨_,rfl,_,rfl,_,rfl,_,_,rfl,rfl,by show 3≤sizeLine;decide,fun tp fc=>kS k kl gd (by rw [pk];exact yO) tp wk ot _ rs ls vf g ((sH vw).trans (aW fc)) ax (pack (vw.same (aW fc)) ((W4.mono s5).mono (aW fc)) fun i j hi hj=>((F4 i j hi hj).mono s5).mono (aW fc))⟩
   ·have x0:¬x=0:=fun zz=>hb (cX zz)
    have k7:¬q∣az M (cO o' k) (M p) p:=fun yO=>by rw [←Hy] at yO;obtain ⟨x',m',g1,g2⟩:=(AA hq ⟨x,m,h1,h2,h3⟩).mp yO;exact x0 ((Ot h1 g1).1.trans g2)
    refine hR _ _ ?_;have vw:=BG.same s5;have S5:=yM vw;have e_:=Og (L:=cL n (bN ai) n) (ms:=g p) (X:=X) hq ho hp ip gd k7 cm.dn (fun a' b' ha hb ab na=>cm.zero a' b' ha hb (Fg ha hb ab na)) (cR p hp).2 cm.bd;have lk:=(cR p hp).1;refine ⟨_,rfl,_,rfl,_,rfl,_,rfl,_,rfl,ot,_,_,_,rfl,rfl,.of (S5 _ _ la.1),bH hp,z,wk,ls p,q,n,X,p,rs,vf,g p,sT M D o' k,sU M D o' k,sT M D o' (k+1),sU M D o' (k+1),rfl,⟨dz,s5 _ _ BH⟩,hq,W4.mono s5,S5 _ _ (la.2 p hp),fun i hi=>⟨Hw i hi p hp,QM i hi⟩,hp,fun m' dZ=>⟨lk.lt m' dZ,fun zz=>by have:=lk.la m' dZ;rw [zz] at this;lia⟩,lk.up.imp (fun h=>cP h),by lia,cm.X1,cm.fz,fun i j hi hj=>(F4 i j hi hj).mono s5,fun i j _ _=>cm.bd k i j (by lia),e_,fun H6 QN off W6 F6=>?_⟩
    exact ⟨QN,_,_,rfl,fun b u nb e=>off b u nb (vw b u nb e),W6,F6,by rw [jv kl,pk];exact ⟨gd,k7⟩⟩
  ·rintro σ Hc ⟨vf,v5,v6,rfl,oc,Wc,Fc,gd⟩
   refine hR _ _ ?_;have ll:(bS o').length=n:=by unfold bS;rw [a8,lo]
   rw [ll] at Fc gd;refine gD ⟨_,rfl,_,rfl,by show 3≤sizeLine;decide,fun tp fc=>kF gd tp wk ot _ rs ls vf g ((sH oc).trans (aW fc)) ax (pack (oc.same (aW fc)) (Wc.mono (aW fc)) fun i j hi hj=>(Fc i j hi hj).mono (aW fc))⟩
theorem QO:a9 ["world","work","others","order","aim","left","place","i"] ["world","work","others","order","aim"] (aJ xU):=bD
theorem QP(T:Txt K mg t):aT P w K mg base bI 5 t.oJ t.rH ["world","work","others","order","aim"] (Ou t.aP):=by
 have S:=QO;have vk:=Bq (P:=P) (w:=w) (base:=base) T;have pL:=yE (P:=P) (w:=w) (base:=base) T;refine T.tf.b9 S (fun _ _ _ _ H _ _ _ hr h=>?_);obtain ⟨z,wk,ot,d,e,q,X,n,L,o,M,D,rs,ls,vf,g,av,rfl,hw,hq,n1,dR,hW,hF,la,cR,ed,ho,ee,hA,gd,hD,zero,X1,fz,bd,bl,kk⟩:=h;have lo:=eL ho;obtain ⟨dz,hz⟩:=id hw;have eO:X≤10 ^ 300:=aV fz (by decide +kernel)
 have XX:X*X≤10 ^ 300:=aV (fQ fz fz) (by decide +kernel)
 have vx:∀i j,i<n→j<n→¬q∣sU M D o n i j:=fun i j hi hj=>(hF i j hi hj).choose_spec.choose_spec.2.2;have vy:∀k i,k≤n→¬q∣sW M D o k i:=fun k i hk=>ei hq (hD i) (ju hq (gF gd (by lia)))
 refine ⟨_,(ar (putL 5 S.nd (ji wq rfl T.lA boot_list (aa (pv 4) af)))
  (ar (fo dU rfl (gu (pv 3)) (cA (i:=6) S.nd rfl (Or.inl rfl))
   (au (fo dU rfl (gu (aq a_ (pv 2) (pv 6))) (cA (i:=7) S.nd rfl (Or.inl rfl))
   (au (@gs _ _ _ _ _ _ (fq (pv 0) T.cH T.tP vk (hr.mono (by decide)) T.yv .nil aY (aa (aq a_ (pv 5) (pv 7)) (aa (fq (pv 0) T.cH T.pJ pL (hr.mono (by decide)) T.vg .nil aY (aa (aq a_ (aq a_ (pv 1) (pv 7)) (pv 6)) (aa (aq a_ (pv 5) (pv 6)) af))) af))) (hV (pv 5) (pv 7) set_list) (by rfl) (by rfl) (by rfl))))))
  (au (aS (pv 5))))),?_⟩
 refine bh fun _ hR=>bV ⟨_,rfl,e,_,rfl,.inl (.of ee),fun r nr=>hR _ _ ?_⟩;have o1:i5 r H (upd H r (.lst ((List.range n).map av))):=i5.of (aW nr);have e1:b_ (upd H r (.lst ((List.range n).map av))) r n av:=ax;have F1:∀i,i<n→aK X (upd H r (.lst ((List.range n).map av))) q (av i) (sL M o n 0 i) (sW M D o 0 i):=fun i hi=>by
  have a1:sL M o n 0 i=M i n:=by unfold sL;rw [Nat.zero_min];exact uZ
  have a2:sW M D o 0 i=D i:=by unfold sW;rw [Nat.zero_min];exact fh _
  rw [a1,a2];exact (hA i hi).mono (aW nr)
 generalize upd H r (.lst ((List.range n).map av))=H1 at o1 e1 F1 ⊢;have off:∀{Hc:Hp},i5 r H Hc→∀b u,H b=some u→Hc b=some u:=fun{Hc} oc b u e=>oc b u (fun zz=>by rw [zz,nr] at e;cases e) e
 refine bh fun _ hR=>⟨_,rfl,d,rfl,⟨_,.of (off o1 _ _ ed)⟩,?_⟩;refine lU (K:=K) (a:=d) (xs:=bS o) (fun k σ Hc=>∃(lv:Nat→V) (v6 v7:Option V),σ=[some (.ref z),some (.ref wk),some (.ref ot),some (.ref d),some (.ref e),some (.ref r),v6,v7]∧i5 r H Hc∧b_ Hc r n lv∧∀i,i<n→aK X Hc q (lv i) (sL M o n k i) (sW M D o k i)) ⟨av,_,_,rfl,o1,e1,F1⟩ (fun k σ Hc _ ⟨_,_,_,_,oc,_⟩=>.of (off oc _ _ ed)) ?_ ?_
 ·rintro k x σ Hc hx ⟨lv,v6,v7,rfl,oc,er,Fc⟩
  obtain ⟨p,hk,rfl⟩:=int_at hx;have kl:k<o.length:=(cq.mp hk).1;have pk:o[k]=p:=(cq.mp hk).2;have hp:p<n:=(bW ho).mp (g7 hk);have ip:o.idxOf p=k:=by rw [←pk];exact md (iB ho) kl
  obtain ⟨QQ,df⟩:=Ov (D:=D) hq ho hp ip gd zero (cR p hp).2;have lk:=(cR p hp).1;have nd:(g p).Nodup:=lk.up.imp (fun h=>cP h);have pm:p∉g p:=fun zz=>by have:=lk.la p zz;lia
  dsimp only [b6];refine ⟨_,rfl,_,rfl,ot,_,_,_,rfl,rfl,.of (off oc _ _ la.1),bH hp,ls p,rfl,⟨_,.of (off oc _ _ (la.2 p hp))⟩,?_⟩;refine lU (K:=K) (a:=ls p) (xs:=bS (g p)) (fun l σ Hd=>∃(lv:Nat→V) (v7:Option V),σ=[some (.ref z),some (.ref wk),some (.ref ot),some (.ref d),some (.ref e),some (.ref r),some (.int (p:Int)),v7]∧i5 r H Hd∧b_ Hd r n lv∧∀i,i<n→aK X Hd q (lv i) (if i∈(g p).take l then sL M o n (k+1) i else sL M o n k i) (if i∈(g p).take l then sW M D o (k+1) i else sW M D o k i)) ⟨lv,_,rfl,oc,er,fun i hi=>by simpa using Fc i hi⟩ (fun l σ Hd _ ⟨_,_,_,od,_⟩=>.of (off od _ _ (la.2 p hp))) ?_ ?_
  ·clear Fc er oc
   rintro l x σ Hd hx ⟨lv,v7,rfl,od,er,Fd⟩;obtain ⟨i,hi,rfl⟩:=int_at hx;have im:=g7 hi;have b8:=lk.lt i im;have il:=xh nd hi;have pl:p∉(g p).take l:=fun zz=>pm (List.mem_of_mem_take zz);have wi:=Fd i b8;have wp:=Fd p hp;rw [ah il,ah il] at wi;rw [ah pl,ah pl] at wp;have sd:ae H Hd:=off od;have wt:=(hF i p b8 hp).mono sd;have fN:=sd _ _ hz;dsimp only [b6];refine bV ⟨_,rfl,z,dz,_,rfl,fN,fv (by decide +kernel),_,rfl,_,rfl,r,_,_,_,rfl,rfl,.of er,bH b8,_,rfl,z,dz,_,rfl,fN,fv (by decide +kernel),_,rfl,_,rfl,wk,_,_,_,rfl,rfl,.of (sd _ _ hW.lst),bH b8,_,rfl,rs i,_,_,_,rfl,rfl,.of (sd _ _ (hW.at' i b8)),bH hp,_,rfl,_,rfl,r,_,_,_,rfl,rfl,.of er,bH hp,?_⟩
   dsimp only [jQ];show iW t.aP (fun x m y n=>x*y) (fun i j=>i*j) [.ref z,vf i p,lv p] _ _ _;refine xg (Y':=(sT M D o n i p*sL M o n k p).natAbs+(sU M D o n i p*sW M D o k p).natAbs) ⟨dz,fN⟩ hq wt wp eO eO (ei hq (vx i p b8 hp) (vy k p (by lia))) (by lia) (by lia) fun v1 H2 s2 w1=>?_
   have w1:aK (X*X) H2 q v1 (sT M D o n i p*sL M o n k p) (sU M D o n i p*sW M D o k p):=w1.bd (by rw [fE];exact fQ (bd n i p (aD _)).1 (bl k p (by lia)).1) (by rw [fE];exact fQ (bd n i p (aD _)).2 (bl k p (by lia)).2)
   show iW t.aP (fun x m y n=>x*n-y*m) (fun i j=>i-j) [.ref z,lv i,v1] _ _ _;refine AD (Y':=(sL M o n k i*(sU M D o n i p*sW M D o k p)-sT M D o n i p*sL M o n k p*sW M D o k i).natAbs+(sW M D o k i*(sU M D o n i p*sW M D o k p)).natAbs) ⟨dz,s2 _ _ fN⟩ hq (wi.mono s2) w1 eO XX (ei hq (vy k i (by lia)) (ei hq (vx i p b8 hp) (vy k p (by lia)))) (by lia) (by lia) fun v2 H3 s3 w2=>?_
   have w2:=(w2.eq hq (QQ i im) (vy (k+1) i (by lia))).bd (bl (k+1) i (by lia)).1 (bl (k+1) i (by lia)).2
   have pO:=s2.trans s3;have jz:=pO _ _ er;refine ⟨_,rfl,_,rfl,r,_,_,i,rfl,rfl,jz,by rw [a8,dH];exact j6 b8,?_⟩
   refine ⟨fun j=>if j=i then v2 else lv j,_,rfl,fun b u ne e=>by rw [aN ne];exact pO _ _ (od b u ne e),by unfold b_;rw [ax,map_set],fun j hj=>?_⟩
   rw [take_snoc hi];by_cases ej:j=i
   ·subst ej
    simp only [ao,km,ja,or_true];exact w2.put jz
   ·have e3:(j∈(g p).take l++[i])↔j∈(g p).take l:=by simp [ej]
    simp only [ah ej,e3];exact ((Fd j hj).mono pO).put jz
  ·rintro σ Hd ⟨lv,v7,rfl,od,er,Fd⟩
   have ll:(bS (g p)).length=(g p).length:=a8 _;rw [ll,jF] at Fd;refine ⟨lv,_,_,rfl,od,er,fun i hi=>?_⟩;have:=Fd i hi;by_cases h:i∈g p;·rwa [ao h,ao h] at this
   ·rw [ah h,ah h] at this
    exact (this.eq hq (df i hi h) (vy (k+1) i (by lia))).bd (bl (k+1) i (by lia)).1 (bl (k+1) i (by lia)).2
 ·rintro σ Hc ⟨lv,v6,v7,rfl,oc,er,Fc⟩
  refine hR _ _ ?_;have ll:(bS o).length=n:=by unfold bS;rw [a8,lo]
  rw [ll] at Fc;exact ⟨_,rfl,kk r lv Hc (off oc) nr er Fc⟩
theorem QR:a9 ["world","work","others","places","row","told","place","j"] ["world","work","others","places","row"] (aJ xV):=bD
theorem Hz(T:Txt K mg t):aT P w K mg base bI 5 t.oK t.rJ ["world","work","others","places","row"] (Ox t.aP):=by
 have S:=QR;have vk:=Bq (P:=P) (w:=w) (base:=base) T;have pL:=yE (P:=P) (w:=w) (base:=base) T;have vj:=Br (P:=P) (w:=w) (base:=base) T;refine T.pD.b9 S (fun _ A _ _ H _ _ _ hr h=>?_);obtain ⟨z,wk,ot,d,e,q,X,n,ps,Tw,U,rs,ls,vf,g,av,A,B,x,y,Sw,Rw,rfl,hw,hq,dR,hW,hF,hB,la,ed,nd,Bx,BI,ee,hA,X1,fz,rp,kk⟩:=h;obtain ⟨dz,hz⟩:=id hw;have eO:X≤10 ^ 300:=aV fz (by decide +kernel)
 have XX:X*X≤10 ^ 300:=aV (fQ fz fz) (by decide +kernel)
 have vx:∀i j,i<n→j<n→¬q∣U i j:=fun i j hi hj=>(hF i j hi hj).choose_spec.choose_spec.2.2
 refine ⟨_,(ar (putL 5 S.nd (ji wq rfl T.lA boot_list (aa (pv 4) af)))
  (ar (fo dU rfl (Oj rfl T.GV (aa (pv 3) af)) (cA (i:=6) S.nd rfl (Or.inl rfl))
   (ar (fo dU rfl (gu (aq a_ (pv 2) (pv 6))) (cA (i:=7) S.nd rfl (Or.inl rfl))
   (au (@gs _ _ _ _ _ _ (fq (pv 0) T.cH T.tP vk (hr.mono (by decide)) T.yv .nil aY (aa (aq a_ (pv 5) (pv 6)) (aa (fq (pv 0) T.cH T.pJ pL (hr.mono (by decide)) T.vg .nil aY (aa (aq a_ (aq a_ (pv 1) (pv 6)) (pv 7)) (aa (aq a_ (pv 5) (pv 7)) af))) af))) (hV (pv 5) (pv 6) set_list) (by rfl) (by rfl) (by rfl))))
  (au (@gs _ _ _ _ _ _ (fq (pv 0) T.cH T.tQ vj (hr.mono (by decide)) T.yw .nil gA (aa (aq a_ (pv 5) (pv 6)) (aa (aq a_ (aq a_ (pv 1) (pv 6)) (pv 6)) af))) (hV (pv 5) (pv 6) set_list) (by rfl) (by rfl) (by rfl)))))
  (au (aS (pv 5))))),?_⟩
 refine bh fun _ hR=>bV ⟨_,rfl,e,_,rfl,.inl (.of ee),fun r nr=>hR _ _ ?_⟩;have o1:i5 r H (upd H r (.lst ((List.range n).map av))):=i5.of (aW nr);have e1:b_ (upd H r (.lst ((List.range n).map av))) r n av:=ax;have F1:∀i,i<n→aK X (upd H r (.lst ((List.range n).map av))) q (av i) (A i) (B i):=fun i hi=>(hA i hi).mono (aW nr);generalize upd H r (.lst ((List.range n).map av))=H1 at o1 e1 F1 ⊢;have off:∀{Hc:Hp},i5 r H Hc→∀b u,H b=some u→Hc b=some u:=fun{Hc} oc b u e=>oc b u (fun zz=>by rw [zz,nr] at e;cases e) e
 have HA:(bS ps).length=ps.length:=a8 _;refine bh fun _ hR=>⟨_,rfl,d,_,rfl,.of (off o1 _ _ ed),?_⟩;refine Ol (K:=K) (a:=d) (xs:=bS ps) (fun k σ Hc=>∃(lv:Nat→V) (v6 v7:Option V),σ=[some (.ref z),some (.ref wk),some (.ref ot),some (.ref d),some (.ref e),some (.ref r),v6,v7]∧i5 r H Hc∧b_ Hc r n lv∧∀i,i<n→aK X Hc q (lv i) (if i∈ps.take (ps.length-k) then A i else x i) (if i∈ps.take (ps.length-k) then B i else y i)) ⟨av,_,_,rfl,o1,e1,fun i hi=>?_⟩ (fun k σ Hc _ ⟨_,_,_,_,oc,_⟩=>.of (off oc _ _ ed)) ?_ ?_
 ·rw [Nat.sub_zero,jF]
  by_cases h:i∈ps
  ·rw [ao h,ao h]
   exact F1 i hi
  ·rw [ah h,ah h,←(rp.u3 i hi h).1,←(rp.u3 i hi h).2]
   exact F1 i hi
 ·rintro k v σ Hc QS hx ⟨lv,v6,v7,rfl,oc,er,Fc⟩
  rw [HA] at QS hx;obtain ⟨p,hk,rfl⟩:=int_at hx;have pm:=g7 hk;obtain ⟨hp,hg⟩:=Bx p pm;have BI:=BI _ p hk;have ts:ps.take (ps.length-k)=ps.take (ps.length-1-k)++[p]:=by
   rw [show ps.length-k=(ps.length-1-k)+1 by lia]
   exact take_snoc hk
  have pt:p∉ps.take (ps.length-1-k):=xh nd hk;have gt:∀j∈g p,j∉ps.take (ps.length-k):=fun j hj=>by
   have:=BI j hj
   rwa [show ps.length-1-k+1=ps.length-k by lia] at this
  dsimp only [b6];refine bh fun _ hR=>⟨_,rfl,_,rfl,ot,_,_,_,rfl,rfl,.of (off oc _ _ la.1),bH hp,ls p,rfl,⟨_,.of (off oc _ _ (la.2 p hp))⟩,?_⟩;refine lU (K:=K) (a:=ls p) (xs:=bS (g p)) (fun l σ Hd=>∃(lv:Nat→V) (v7:Option V),σ=[some (.ref z),some (.ref wk),some (.ref ot),some (.ref d),some (.ref e),some (.ref r),some (.int (p:Int)),v7]∧i5 r H Hd∧b_ Hd r n lv∧aK X Hd q (lv p) (Sw p l) (Rw p l)∧∀i,i<n→i≠p→aK X Hd q (lv i) (if i∈ps.take (ps.length-k) then A i else x i) (if i∈ps.take (ps.length-k) then B i else y i)) ⟨lv,_,rfl,oc,er,?_,fun i hi _=>Fc i hi⟩ (fun l σ Hd _ ⟨_,_,_,od,_⟩=>.of (off od _ _ (la.2 p hp))) ?_ ?_
  ·have:=Fc p hp
   rw [ao (by rw [ts];simp),ao (by rw [ts];simp)] at this
   exact (this.eq hq (rp.s0 p pm) (rp.AI p pm 0)).bd (rp.bd.1 p pm 0 (cu _)).1 (rp.bd.1 p pm 0 (cu _)).2
  ·clear Fc er oc
   rintro l v σ Hd hx ⟨lv,v7,rfl,od,er,wp,Fd⟩;obtain ⟨j,hj,rfl⟩:=int_at hx;have jm:=g7 hj;have ll:=(cq.mp hj).1;obtain ⟨d5,jp⟩:=hg j jm;have wj:=Fd j d5 jp;rw [ah (gt j jm),ah (gt j jm)] at wj;have sd:ae H Hd:=off od;have wt:=(hF p j hp d5).mono sd;have fN:=sd _ _ hz;dsimp only [b6];refine bV ⟨_,rfl,z,dz,_,rfl,fN,fv (by decide +kernel),_,rfl,_,rfl,r,_,_,_,rfl,rfl,.of er,bH hp,_,rfl,z,dz,_,rfl,fN,fv (by decide +kernel),_,rfl,_,rfl,wk,_,_,_,rfl,rfl,.of (sd _ _ hW.lst),bH hp,_,rfl,rs p,_,_,_,rfl,rfl,.of (sd _ _ (hW.at' p hp)),bH d5,_,rfl,_,rfl,r,_,_,_,rfl,rfl,.of er,bH d5,?_⟩
   dsimp only [jQ];show iW t.aP (fun x m y n=>x*y) (fun i j=>i*j) [.ref z,vf p j,lv j] _ _ _;refine xg (Y':=(Tw p j*x j).natAbs+(U p j*y j).natAbs) ⟨dz,fN⟩ hq wt wj eO eO (ei hq (vx p j hp d5) (rp.AJ j)) (by lia) (by lia) fun v1 H2 s2 w1=>?_
   have w1:aK (X*X) H2 q v1 (Tw p j*x j) (U p j*y j):=w1.bd (by rw [fE];exact fQ (hB p j hp d5).1 (rp.bd.2 j).1) (by rw [fE];exact fQ (hB p j hp d5).2 (rp.bd.2 j).2)
   show iW t.aP (fun x m y n=>x*n-y*m) (fun i j=>i-j) [.ref z,lv p,v1] _ _ _;refine AD (Y':=(Sw p l*(U p j*y j)-Tw p j*x j*Rw p l).natAbs+(Rw p l*(U p j*y j)).natAbs) ⟨dz,s2 _ _ fN⟩ hq (wp.mono s2) w1 eO XX (ei hq (rp.AI p pm l) (ei hq (vx p j hp d5) (rp.AJ j))) (by lia) (by lia) fun v2 H3 s3 w2=>?_
   have w2:=(w2.eq hq (rp.Ow p pm l j hj) (rp.AI p pm (l+1))).bd (rp.bd.1 p pm (l+1) ll).1 (rp.bd.1 p pm (l+1) ll).2;have pO:=s2.trans s3;have jz:=pO _ _ er;refine ⟨_,rfl,_,rfl,r,_,_,p,rfl,rfl,jz,by rw [a8,dH];exact j6 hp,?_⟩
   refine ⟨fun i=>if i=p then v2 else lv i,_,rfl,fun b u ne e=>by rw [aN ne];exact pO _ _ (od b u ne e),by unfold b_;rw [ax,map_set],by dsimp only;rw [ao rfl];exact w2.put jz,fun i hi ip=>?_⟩
   dsimp only;rw [ah ip];exact ((Fd i hi ip).mono pO).put jz
  ·rintro σ Hd ⟨lv,v7,rfl,od,er,wp,Fd⟩
   have ll:(bS (g p)).length=(g p).length:=a8 _;rw [ll] at wp;refine hR _ _ ?_;have sd:ae H Hd:=off od;have wt:=(hF p p hp hp).mono sd;have fN:=sd _ _ hz;refine bV ⟨_,rfl,z,dz,_,rfl,fN,fv (by decide +kernel),_,rfl,_,rfl,r,_,_,_,rfl,rfl,.of er,bH hp,_,rfl,_,rfl,wk,_,_,_,rfl,rfl,.of (sd _ _ hW.lst),bH hp,_,rfl,rs p,_,_,_,rfl,rfl,.of (sd _ _ (hW.at' p hp)),bH hp,?_⟩
   dsimp only [jQ];show uR t.aP t.gG [.ref z,lv p,vf p p] _ _ _;refine AE (Y':=(Sw p (g p).length*U p p).natAbs+(Rw p (g p).length*Tw p p).natAbs) ⟨dz,fN⟩ hq wp wt eO eO (rp.k7 p pm) (by lia) (by lia) fun v2 H3 s3 w2=>?_
   have w2:=(w2.eq hq (rp.fin p pm) (rp.AJ p)).bd (rp.bd.2 p).1 (rp.bd.2 p).2;have jz:=s3 _ _ er;refine ⟨_,rfl,_,rfl,r,_,_,p,rfl,rfl,jz,by rw [a8,dH];exact j6 hp,?_⟩
   refine ⟨fun i=>if i=p then v2 else lv i,_,_,rfl,fun b u ne e=>by rw [aN ne];exact s3 _ _ (od b u ne e),by unfold b_;rw [ax,map_set],fun i hi=>?_⟩
   rw [show ps.length-(k+1)=ps.length-1-k by lia]
   dsimp only;by_cases ip:i=p
   ·subst ip
    rw [ao rfl,ah pt,ah pt];exact w2.put jz
   ·have e3:i∈ps.take (ps.length-k)↔i∈ps.take (ps.length-1-k):=by rw [ts];simp [ip]
    have:=((Fd i hi ip).mono s3).put (o:=.lst (((List.range n).map lv).set p v2)) jz;simp only [e3] at this;rw [ah ip];exact this
 ·rintro σ Hc ⟨lv,v6,v7,rfl,oc,er,Fc⟩
  refine hR _ _ ?_;rw [HA] at Fc;refine ⟨_,rfl,kk r lv Hc (off oc) nr er fun i hi=>?_⟩;have:=Fc i hi;simpa using this
theorem QT:a9 ["world","work","others","order","many","start"] ["world","work","others","order","many"] (aJ xW):=bD
theorem QU(T:Txt K mg t):aT P w K mg base bI 6 t.oM t.rK ["world","work","others","order","many"] (OF t.aP):=by
 have S:=QT;have iE:=tS (P:=P) (w:=w) (base:=base) T;obtain ⟨dv,iF,iG⟩:=T.pI;refine T.tj.b9 S (fun _ _ _ _ H _ _ _ hr h=>?_);obtain ⟨z,wk,ot,d,q,X,n,k,tt,L,o,M,D,rs,ls,vf,g,rfl,hw,hq,dR,hW,hF,la,cR,ed,ho,ht,it,gd,hD,zero,X1,fz,bd,b1,b2,kk⟩:=h;have lo:=eL ho;obtain ⟨dz,hz⟩:=id hw;have nv:=qB hq;have kl:k<o.length:=by rw [←it];exact (cS ((bW ho).mpr ht)).1
 have QV:o[k]=tt:=by have:=(cS ((bW ho).mpr ht)).2;simp only [it] at this;exact this
 have ln:(bS o).length=n:=by unfold bS;rw [a8,lo]
 refine ⟨_,(ar (putL 5 S.nd (aM DL (lW (aa (fq (pv 0) T.cH T.lx iE (hr.mono (by decide)) iG iF gA (aa ak af)) af)) (cC eW rfl T.eC eG (aa (pv 3) af))))
  (ar (@gs _ _ _ _ _ _ (fq (pv 0) T.cH T.lx iE (hr.mono (by decide)) iG iF gA (aa ak af)) (hV (pv 5) (aq a_ (pv 3) (aM qj (pv 4) ak)) set_list) (by rfl) (by rfl) (by rfl))
  (au (aS (aU (Hz T) hr T.Bd T.pD.kp T.Bc aY (aa (pv 0) (aa (pv 1) (aa (pv 2) (aa (Km Kv (pv 3) Kj (Kk (aM qj (pv 4) ak))) (aa (pv 5) af)))))))))),?_⟩
 refine bh fun _ hR=>bV ⟨_,rfl,z,dz,_,rfl,hz,fv (by decide +kernel),z,q,0,1,rfl,⟨dz,hz⟩,hq,b7.of_lt (by decide) (by decide),fun h=>absurd h nv,fun _ v0 H1 s1 QW=>?_⟩
 refine ⟨by show 1≤sizeLine;decide,fun l nl=>?_⟩
 have sl:ae H1 (upd H1 l (.lst [v0])):=aW nl;have HB:upd H1 l (.lst [v0]) l=some (.lst [v0]):=ax;have h0:=ma (B:=X) (by lia) (QW.mono sl) hq (.inl rfl)
 generalize upd H1 l (.lst [v0])=H2 at sl HB h0 ⊢;have s2:=s1.trans sl;refine ⟨_,rfl,d,_,rfl,.inl (.of (s2 _ _ ed)),?_⟩;rw [ln];refine ⟨l,(n:Int),[v0],rfl,rfl,HB,by lia,by lia,?_,fun r nr=>hR _ _ ?_⟩
 ·rw [fj]
  exact aV (show [v0].length*n≤40 by simp;exact dR) (by decide)
 rw [fj,show (List.replicate n [v0]).flatten=(List.range n).map fun _=>v0 by
  refine fF (by simp) fun i h1 h2=>?_
  simp]
 have sr:ae H2 (upd H2 r (.lst ((List.range n).map fun _=>v0))):=aW nr;have er:upd H2 r (.lst ((List.range n).map fun _=>v0)) r=some (.lst ((List.range n).map fun _=>v0)):=ax;generalize upd H2 r (.lst ((List.range n).map fun _=>v0))=H3 at sr er ⊢;have s3:=s2.trans sr;have QX:H r=none:=none_of s2 nr;have HC:=s3 _ _ hz;refine bh fun _ hR=>bV ⟨_,rfl,z,dz,_,rfl,HC,fv (by decide +kernel),z,q,1,1,rfl,⟨dz,HC⟩,hq,b7.of_lt (by decide) (by decide),fun h=>absurd h nv,fun _ v1 H4 s4 QY=>?_⟩
 have h1:=ma (B:=X) (by lia) QY hq (.inr rfl)
 have BJ:=s4 _ _ er;have ek:(bS o)[k]?=some (.int (tt:Int)):=by unfold bS;rw [cE,d6 kl,QV];rfl
 refine ⟨_,rfl,_,rfl,_,rfl,_,_,rfl,rfl,d,_,_,_,rfl,rfl,.of (s4 _ _ (s3 _ _ ed)),(by show iT (bS o) ((k:Int)+1-1)=_;rw [show (k:Int)+1-1=(k:Int) by lia];exact kN ek),r,_,_,tt,rfl,rfl,BJ,by rw [a8,dH];exact j6 ht,hR _ _ ?_⟩
 have HD:¬q∣aA M (cO o k):=ju hq gd;rw [map_set];have o5:∀b u,b≠r→H4 b=some u→upd H4 r (.lst ((List.range n).map fun j'=>if j'=tt then v1 else v0)) b=some u:=fun b u ne e=>by rw [aN ne];exact e
 have HE:upd H4 r (.lst ((List.range n).map fun j'=>if j'=tt then v1 else v0)) r=some (.lst ((List.range n).map fun j'=>if j'=tt then v1 else v0)):=ax
 have w1:aK X (upd H4 r (.lst ((List.range n).map fun j'=>if j'=tt then v1 else v0))) q v1 (aA M (cO o k)) (aA M (cO o k)):=aK.put ⟨1,1,h1,by rw [Int.one_mul,fh,lN];exact qd q,HD⟩ BJ
 have w0:aK X (upd H4 r (.lst ((List.range n).map fun j'=>if j'=tt then v1 else v0))) q v0 0 (aA M (cO o k)):=aK.put ⟨0,1,(h0.mono sr).mono s4,by rw [eQ,eQ,lN];exact qd q,HD⟩ BJ
 generalize upd H4 r (.lst ((List.range n).map fun j'=>if j'=tt then v1 else v0))=H5 at o5 HE w1 w0 ⊢
 have s5:ae H H5:=fun b u e=>o5 b u (fun zz=>by rw [zz,QX] at e;cases e) (s4 _ _ (s3 _ _ e))
 refine gD ⟨_,rfl,_,rfl,_,rfl,_,rfl,_,rfl,_,_,rfl,rfl,_,rfl,d,_,rfl,.of (s5 _ _ ed),fun u nu=>?_⟩;have ec:ni (bS o) none (some ((k:Int)+1-1))=bS (o.take k):=by
  rw [show (k:Int)+1-1=(k:Int) by lia,LU]
  unfold bS;rw [List.map_take]
 rw [ec];have s6:ae H5 (upd H5 u (.lst (bS (o.take k)))):=aW nu;have eu:upd H5 u (.lst (bS (o.take k))) u=some (.lst (bS (o.take k))):=ax;generalize upd H5 u (.lst (bS (o.take k)))=H6 at s6 eu ⊢;have pP:=s5.trans s6;have lt:∀{p},p∈o.take k→p<n∧o.idxOf p<k:=fun{p} hp=>(qO ho).mp hp;refine ⟨_,rfl,z,wk,ot,u,r,q,X,n,o.take k,sT M D o k,sU M D o k,rs,ls,vf,g,fun j'=>if j'=tt then v1 else v0,fun i=>if i=tt then aA M (cO o k) else 0,fun _=>aA M (cO o k),dr M o k tt,fun _=>aA M (cO o k),mS M o g k tt,fun p _=>D p*aA M (cO o (o.idxOf p))*aA M (cO o k),rfl,⟨dz,pP _ _ hz⟩,hq,dR,hW.mono pP,fun i j hi hj=>(hF i j hi hj).mono pP,fun i j _ _=>bd k i j (by lia),⟨pP _ _ la.1,fun p hp=>pP _ _ (la.2 p hp)⟩,eu,(vK k o).nodup (iB ho),fun p hp=>⟨(lt hp).1,fun j hj=>⟨(cR p (lt hp).1).1.lt j hj,fun zz=>by have:=(cR p (lt hp).1).1.la j hj;rw [zz] at this;lia⟩⟩,fun k' p j9 j hj zz=>?_,s6 _ _ HE,fun i hi=>?_,X1,fz,OE hq ho ht it gd hD zero cR b1 b2,fun r' lv H7 s7 QZ Q0 F7=>kk r' lv H7 (pP.trans s7) (none_of pP QZ) Q0 F7⟩
 ·have pm:=g7 j9
  have BK:=(cq.mp j9).1;have e1:o[k']?=some p:=by
   rw [lK] at BK;rw [List.getElem?_take,ao (by lia)] at j9
   exact j9
  have ip:o.idxOf p=k':=by
   have:=md (iB ho) (cq.mp e1).1
   rwa [(cq.mp e1).2] at this
  have Q1:=(cR p (lt pm).1).1.la j hj;have jt:j∈o.take (k'+1):=by rw [List.take_take] at zz;exact (List.take_prefix_take_left (Nat.min_le_left _ _)).subset zz
  have:=((qO ho).mp jt).2;lia
 ·dsimp only
  by_cases e:i=tt
  ·rw [ao e,ao e]
   exact w1.mono s6
  ·rw [ah e,ah e]
   exact w0.mono s6
def Q2(N:Addr):Sp:=fun vs H Q E=>∃(n:Nat) (a:Addr) (xs:List V),vs=[.int (n:Int),.ref a]∧H a=some (.lst xs)∧(xs.length≠n→E (.ref N) none H)∧(xs.length=n→Q .aH H)
theorem Q3:a9 ["n","aim"] ["n","aim"] (aJ xy):=bD
theorem Q4(T:Txt K mg t):aT P w K mg base (de P w) 1 t.oa t.qW ["n","aim"] (Q2 t.ke):=by
 have S:=Q3;refine T.sE.cY S (fun _ _ _ _ H _ _ _ hr h L=>?_);obtain ⟨n,a,xs,rfl,ea,kE,k⟩:=h;refine ⟨_,(au (b5 (bM kK (cC eW rfl T.eC eG (aa (pv 1) af)) (pv 0)) (au (lY L rfl lO T.yC rfl T.yz (aa eU af))) cw)),?_⟩;refine ⟨_,rfl,a,xs,rfl,.inl (.of ea),_,rfl,rfl,_,rfl,cG (fun d_=>?_) (fun d_=>?_)⟩
 ·have d_:xs.length≠n:=fun z=>by
   have:(xs.length:Int)=(n:Int):=by lia
   rw [jT,cX this] at d_;cases d_
  exact ⟨by show 1≤sizeLine;decide,kE d_⟩
 ·have heq:xs.length=n:=by
   by_cases z:(xs.length:Int)=(n:Int);·lia
   ·exact absurd (by rw [jT,dA z];rfl) d_
  exact k heq
theorem Q5:a9 ["world","table","order","aim","told","work","others","answer"] ["world","table","order","aim"] (aJ xX):=bD
theorem HF(T:Txt K mg t):aT P w K mg base bI 9 t.oN t.rM ["world","table","order","aim"] (OG t.aP):=by
 have S:=Q5;refine T.pE.b9 S (fun _ _ _ _ H _ _ _ hr h=>?_);obtain ⟨z,a,d,e,q,B,X,n,ai,o,M,D,av,rfl,hw,hq,hT,yL,ln,n1,dR,wd,ed,ho,cm,am,kS,kO⟩:=h;have mB:=hr.units;have lo:=eL ho
 refine ⟨_,(ar (qf (aU (Q4 T) hr T.FC T.sE.kp T.FA gA (aa (cC eW rfl T.eC eG (aa (pv 1) af)) (aa (pv 3) af))))
  (ar (putL 4 S.nd (aU (Hv T) hr T.A_ T.pA.kp T.A9 aY (aa (pv 0) (aa (pv 1) (aa (pv 2) af)))))
  (ar (putL 5 S.nd (aq ba (pv 4) ak))
  (ar (putL 6 S.nd (aq ba (pv 4) ak))
  (ar (b5 (bM Dg (aq ba (pv 4) ak) kI) (au (aS (d7 (aa eU (aa (aq ba (pv 4) ak) (aa (aU (QU T) hr T.Gg T.tj.kp T.Gf aY (aa (pv 0) (aa (pv 5) (aa (pv 6) (aa (pv 2) (aa (aq ba (pv 4) ak) af)))))) af)))))) cw)
  (ar (putL 7 S.nd (aU (Hz T) hr T.Bd T.pD.kp T.Bc aY (aa (pv 0) (aa (pv 5) (aa (pv 6) (aa (pv 2) (aa (aU (QP T) hr T.Ge T.tf.kp T.Gd aY (aa (pv 0) (aa (pv 5) (aa (pv 6) (aa (pv 2) (aa (pv 3) af)))))) af)))))))
  (au (aS (d7 (aa eU (aa (pv 7) (aa (cC (Mr (K:=K) rfl) rfl T.GW boot_sum (aa (nE (N:=["each"]) (ρ:=(fun σ=>[])) (jj [] rfl) rfl (gu (pv 6)) (fun _ _ _=>.nil) (fun _ _ _=>(aU (Qq T) hr T.FW T.sS.kp T.FV aY (aa (cC (Ei (K:=K)) rfl T.eC eG (aa (pv 0) af)) af)))) af)) af)))))))))))),?_⟩
 obtain ⟨HG,ea,XG,_⟩:=id hT;have zero:∀a' b',a'<n→b'<n→a'≠b'→¬aL n (cL n (bN ai) n) a' b'→M a' b'=0:=fun a' b' ha hb ab na=>cm.zero a' b' ha hb (Fg ha hb ab na);have gl:∀{g:Nat→List Nat},(∀p,p<n→e9 n o p (g p)∧eM n (cL n (bN ai) n) o p (g p))→∀p,p<n→(g p).length≤n:=fun{g} cR p hp=>aV (N7 ho (cR p hp).1) (by lia)
 refine bh fun _ hR=>⟨_,rfl,a,HG,rfl,.inl (.of ea),_,rfl,HG.length,e,_,rfl,am.row,fun ne=>absurd (by rw [a8,dH];lia) ne,fun _=>hR _ _ ?_⟩
 refine bh fun _ hR=>bV ⟨_,rfl,_,rfl,_,rfl,z,a,d,q,B,X,n,ai,o,M,D,rfl,hw,hq,hT,yL,ln,n1,dR,wd,ed,ho,cm,fun k hk gd dv tp wk ot H1 rs ls vf g s1 cT pk=>hR _ _ ?_,fun gd tp wk ot H1 rs ls vf g s1 cT pk=>hR _ _ ?_⟩
 ·clear hR
  have ht:o[k]<n:=(bW ho).mp (gk hk);have it:o.idxOf o[k]=k:=md (iB ho) hk;obtain ⟨dz,hz⟩:=id hw;refine bh fun _ hR=>bV ⟨_,rfl,tp,_,_,_,rfl,rfl,.of cT,rfl,hR _ _ ?_⟩;refine bh fun _ hR=>bV ⟨_,rfl,tp,_,_,_,rfl,rfl,.of cT,rfl,hR _ _ ?_⟩;refine bh fun _ hR=>⟨_,rfl,tp,_,_,_,rfl,rfl,.of cT,rfl,rfl,true,by simp,iq (gD ⟨_,rfl,tp,_,_,_,rfl,rfl,.of cT,rfl,_,rfl,_,rfl,_,rfl,_,rfl,_,rfl,tp,_,_,_,rfl,rfl,.of cT,rfl,z,wk,ot,d,q,X,n,k,o[k],cL n (bN ai) n,o,M,D,rs,ls,vf,g,rfl,⟨dz,s1 _ _ hz⟩,hq,dR,pk.tab,pk.k9,pk.dQ,pk.ok,s1 _ _ ed,ho,ht,it,gd,cm.dn,zero,cm.X1,cm.fz,cm.bd,fun p l hp hl=>am.bt g (gl pk.ok) k o[k] p l (by lia) hp hl,fun p=>am.bm k o[k] p (by lia),fun r lv H2 s2 nr er F2=>⟨by show 3≤sizeLine;decide,fun BL lF=>?_⟩⟩)⟩
  have cI:=s1.trans s2;exact kS k hk gd dv BL r lv _ (cI.trans (aW lF)) (none_of s1 nr) (none_of cI lF) ax ((aW lF) _ _ er) fun i hi=>(F2 i hi).mono (aW lF)
 ·clear hR
  obtain ⟨dz,hz⟩:=id hw;refine bh fun _ hR=>bV ⟨_,rfl,tp,_,_,_,rfl,rfl,.of cT,rfl,hR _ _ ?_⟩;refine bh fun _ hR=>bV ⟨_,rfl,tp,_,_,_,rfl,rfl,.of cT,rfl,hR _ _ ?_⟩;refine bh fun _ hR=>⟨_,rfl,tp,_,_,_,rfl,rfl,.of cT,rfl,rfl,false,by simp,dY (hR _ _ ?_)⟩
  refine bh fun _ hR=>bV ⟨_,rfl,_,rfl,_,rfl,_,rfl,_,rfl,_,rfl,_,rfl,_,rfl,_,rfl,z,wk,ot,d,e,q,X,n,cL n (bN ai) n,o,M,D,rs,ls,vf,g,av,rfl,⟨dz,s1 _ _ hz⟩,hq,n1,dR,pk.tab,pk.k9,pk.dQ,pk.ok,s1 _ _ ed,ho,s1 _ _ am.row,fun i hi=>(am.k9 i hi).mono s1,gd,cm.dn,zero,cm.X1,cm.fz,cm.bd,am.bl,fun r1 Q6 H2 s2 XH Q7 F1=>?_⟩;refine ⟨z,wk,ot,d,r1,q,X,n,o,sT M D o n,sU M D o n,rs,ls,vf,g,Q6,sL M o n n,sW M D o n,dO M (cO o n) n,fun _=>aA M (cO o n),rS M o g (cO o n) n fun _=>aA M (cO o n),fun p _=>D p*aA M (cO o (o.idxOf p))*aA M (cO o n),rfl,⟨dz,s2 _ _ (s1 _ _ hz)⟩,hq,dR,pk.tab.mono s2,fun i j hi hj=>(pk.k9 i j hi hj).mono s2,fun i j _ _=>cm.bd n i j (aD _),⟨s2 _ _ pk.dQ.1,fun p hp=>s2 _ _ (pk.dQ.2 p hp)⟩,s2 _ _ (s1 _ _ ed),iB ho,fun p hp=>⟨(bW ho).mp hp,fun j hj=>⟨(pk.ok p ((bW ho).mp hp)).1.lt j hj,fun zz=>by have:=(pk.ok p ((bW ho).mp hp)).1.la j hj;rw [zz] at this;lia⟩⟩,fun k' p j9 j hj zz=>?_,Q7,F1,cm.X1,cm.fz,OA hq ho gd cm.dn zero pk.ok (fun p l hp hl=>am.bo g (gl pk.ok) p l hp hl) am.bc,fun r lv H3 s3 nr er F3=>hR _ _ ?_⟩
  ·have BK:=(cq.mp j9).1
   have ip:o.idxOf p=k':=by
    have:=md (iB ho) BK
    rwa [(cq.mp j9).2] at this
   have pn:p<n:=(bW ho).mp (g7 j9);have Q1:=(pk.ok p pn).1.la j hj;have:=((qO ho).mp zz).2;lia
  ·have iH:=s1.trans (s2.trans s3)
   have BM:qK H3 ot n ls g:=⟨s3 _ _ (s2 _ _ pk.dQ.1),fun p hp=>s3 _ _ (s2 _ _ (pk.dQ.2 p hp))⟩;have fB:((List.range n).map fun p=>V.ref (ls p)).length=n:=by rw [a8,dH]
   refine gD ⟨_,rfl,?_⟩;dsimp only;refine OH (Eh (xs:=(List.range n).map fun p=>V.ref (ls p)) (fun R h=>⟨_,rfl,ot,rfl,⟨_,.of BM.1⟩,h _ _ (ae.refl _) (nJ (.of BM.1))⟩) (by rw [fB];exact fK (by lia)) (fun _ i y _=>y=.int (((g i).length:Int)*(g i).length+3*(g i).length+1)) (fun _ _ _ _ _ _ h _ _=>h) ?_ ?_)
   ·intro D' k x hx Hc R sc _ kc
    have hk:k<n:=by
     have:=(cq.mp hx).1
     rwa [fB] at this
    have ex:x=.ref (ls k):=by rw [cE,jb hk] at hx;exact (Option.some.inj hx).symm
    subst ex;have lg:=gl pk.ok k hk;refine ⟨_,rfl,ls k,_,rfl,.inl (.of (sc _ _ (BM.2 k hk))),(g k).length,by rw [a8];rfl,by lia,kc _ Hc (ae.refl _) rfl⟩
   ·intro D' ys Hc XI sc jy mz Q8
    rw [fB] at jy;have ey:ys=((List.range n).map fun i=>((g i).length:Int)*(g i).length+3*(g i).length+1).map V.int:=by
     refine fF (by simp [jy]) fun i h1 h2=>?_
     rw [fR,fR,gJ];exact mz i _ (d6 h1)
    have es:((List.range n).map fun i=>((g i).length:Int)*(g i).length+3*(g i).length+1).sum=((k8 n g:Nat):Int):=by
     unfold k8 Fe;generalize List.range n=l;clear ey mz jy
     induction l with
     | nil=>rfl
     | cons x l ih=>rw [cQ,da,cQ,da,ih];push_cast;rfl
    refine ⟨D',_,rfl,.of (by rw [Q8,ey]),?_⟩
    rw [es];refine ⟨by show 3≤sizeLine;decide,fun BL lF=>?_⟩
    have iI:=iH.trans sc;exact kO gd BL r lv g _ (iI.trans (aW lF)) (none_of (s1.trans s2) nr) (none_of iI lF) pk.ok ax ((aW lF) _ _ (sc _ _ er)) fun i hi=>((F3 i hi).mono sc).mono (aW lF)
theorem Q9:a9 ["world","row","turns","i","told"] ["world","row","turns","i"] (aJ xP):=bD
theorem Q_(T:Txt K mg t):aT P w K mg base bI 5 t.oE t.rB ["world","row","turns","i"] (OX t.aP):=by
 have S:=Q9;have iE:=tS (P:=P) (w:=w) (base:=base) T;obtain ⟨dv,iF,iG⟩:=T.pI;refine T.sX.b9 S (fun _ _ _ _ H vs _ _ hr h=>?_);obtain ⟨z,w',tn,q,X,n,i,o,wv,Tw,U,rfl,hw,hq,dR,hi,ho,ew,et,X1,bd,pQ,BN,BO,kk⟩:=h;have nv:=qB hq;obtain ⟨dz,hz⟩:=id hw
 refine ⟨_,(ar (O2 (i0:=4) (N:=["j","number","turns","i","world"]) (ρ:=(fun σ=>[σ[2]?.join,σ[3]?.join,σ[0]?.join])) (wR [2,3,0] rfl) rfl S.nd rfl (Or.inl rfl) (qF rfl T.pK (aa (pv 1) af)) (fun _ _ _=>.nil) (fun _ _ _=>(CY (bM qk (aq (iX (K:=K)) (pv 2) (pv 0)) (aq (iX (K:=K)) (pv 2) (pv 3))) (pv 1) (fq (pv 4) T.cH T.lx iE (hr.mono (by decide)) iG iF gA (aa ak af)))))
  (ar (@gs _ _ _ _ _ _ (fq (pv 0) T.cH T.lx iE (hr.mono (by decide)) iG iF gA (aa ak af)) (hV (pv 4) (pv 3) set_list) (by rfl) (by rfl) (by rfl))
  (au (aS (pv 4))))),?_⟩
 refine bh fun _ hR=>bV (wU (Z:=fun zs _=>zs=(((List.range ((List.range n).map wv).length).zip ((List.range n).map wv)).map fun p=>(V.int (p.1:Int),p.2))) (fun R h=>⟨_,rfl,w',rfl,⟨_,.of ew⟩,h _ _ _ (ae.refl _) (xi (.of ew)) (by rw [mj];exact fK (by lia)) rfl⟩) (fun _ j y Hx=>j≠i→aK X Hx q y (Tw j) (U j)) (fun D j y Ha Hb ys h e f ne=>(h ne).bG e f) ?_ ?_)
 ·rintro zs H1 rfl s1 D j x y pR Hc R sc _ kc
  obtain ⟨hj,rfl,rfl⟩:=xu pR;have s2:=s1.trans sc;have vz:=s2 _ _ et;have ki:=s2 _ _ hz;refine ⟨_,rfl,_,rfl,tn,_,_,_,rfl,rfl,.of vz,bH hj,_,rfl,_,rfl,tn,_,_,_,rfl,rfl,.of vz,bH hi,_,_,rfl,rfl,_,rfl,cG (fun hb=>?_) (fun hb=>?_)⟩
  ·have hb:=eF hb
   exact ⟨_,rfl,kc _ Hc (ae.refl _) fun _=>(pQ j hj (by lia)).mono s2⟩
  ·refine ⟨_,rfl,z,dz,_,rfl,ki,fv (by decide +kernel),z,q,0,1,rfl,⟨dz,ki⟩,hq,b7.of_lt (by decide) (by decide),fun h=>absurd h nv,fun _ v0 H5 s5 lE=>kc v0 H5 s5 fun ne=>?_⟩
   have h0:=ma (B:=1000) (by decide) lE hq (.inl rfl)
   have lt:o.idxOf i<o.idxOf j:=by have h1:¬((o.idxOf j:Nat):Int)<((o.idxOf i:Nat):Int):=fun z=>hb (cX z);have h2:=nS ho hj hi ne;lia
   rw [BN j hj lt];exact qP h0 (by rw [eQ,eQ];exact qd q) (bd j hj).2.2 (cu _) (bd j hj).2.1
 ·rintro zs H1 rfl s1 D vs Hc nD sc jA pS eD
  rw [mj] at jA;have s2:=s1.trans sc;refine hR _ _ ?_;have ev:vs=(List.range n).map fun j=>vs.getD j .aH:=by
   refine fF (by simp [jA]) fun j h1 h2=>?_
   rw [fR,gJ,getD_at h1]
  have hv:∀j,j<n→j≠i→aK X Hc q (vs.getD j .aH) (Tw j) (U j):=fun j hj ne=>by
   have dP:j<vs.length:=by lia
   rw [getD_at dP];exact pS j _ (d6 dP) ne
  obtain ⟨lv,Ra,hv⟩:∃lv:Nat→V,vs=(List.range n).map lv∧∀j,j<n→j≠i→aK X Hc q (lv j) (Tw j) (U j):=⟨fun j=>vs.getD j .aH,ev,hv⟩;rw [Ra] at eD;have ki:=s2 _ _ hz;refine bh fun _ hR=>bV ⟨_,rfl,z,dz,_,rfl,ki,fv (by decide +kernel),z,q,1,1,rfl,⟨dz,ki⟩,hq,b7.of_lt (by decide) (by decide),fun h=>absurd h nv,fun _ v1 H4 s4 lE=>?_⟩
  have h1:=ma (B:=1000) (by decide) lE hq (.inr rfl)
  have BP:=s4 _ _ eD;refine ⟨_,rfl,_,rfl,D,_,_,i,rfl,rfl,BP,by rw [a8,dH];exact j6 hi,hR _ _ ?_⟩
  rw [map_set];refine ⟨_,rfl,kk D _ _ (gT (s2.trans s4) nD) nD ax fun j hj=>?_⟩
  split
  ·rename_i e
   subst e;rw [BO];refine aK.put ?_ BP;exact qP h1 (by rw [Int.one_mul,fh,lN];exact qd q) (bd j hj).2.2 (bd j hj).2.1 (bd j hj).2.1
  ·rename_i ne
   exact ((hv j hj ne).mono s4).put BP
theorem Rb:a9 ["world","row","turns","i"] ["world","row","turns","i"] (aJ xQ):=bD
theorem Rc(T:Txt K mg t):aT P w K mg base bI 5 t.oF t.rC ["world","row","turns","i"] (OY t.aP):=by
 have S:=Rb;have iE:=tS (P:=P) (w:=w) (base:=base) T;obtain ⟨dv,iF,iG⟩:=T.pI;refine T.sY.b9 S (fun _ _ _ _ H vs _ _ hr h=>?_);obtain ⟨z,w',tn,q,X,n,i,o,wv,Tw,U,rfl,hw,hq,dR,hi,ho,ew,et,X1,bd,BQ,pQ,kk⟩:=h;have nv:=qB hq;obtain ⟨dz,hz⟩:=id hw;refine ⟨_,(au (aS (Ai (N:=["j","number","turns","i","world"]) (ρ:=(fun σ=>[σ[2]?.join,σ[3]?.join,σ[0]?.join])) (wR [2,3,0] rfl) rfl (qF rfl T.pK (aa (pv 1) af)) (fun _ _ _=>.nil) (fun _ _ _=>(CY (bM qk (aq (iX (K:=K)) (pv 2) (pv 0)) (aq (iX (K:=K)) (pv 2) (pv 3))) (fq (pv 4) T.cH T.lx iE (hr.mono (by decide)) iG iF gA (aa ak af)) (pv 1)))))),?_⟩
 refine gD (wU (Z:=fun zs _=>zs=(((List.range ((List.range n).map wv).length).zip ((List.range n).map wv)).map fun p=>(V.int (p.1:Int),p.2))) (fun R h=>⟨_,rfl,w',rfl,⟨_,.of ew⟩,h _ _ _ (ae.refl _) (xi (.of ew)) (by rw [mj];exact fK (by lia)) rfl⟩) (fun _ j y Hx=>aK X Hx q y (Tw j) (U j)) (fun D j y Ha Hb ys h e f=>h.bG e f) ?_ ?_)
 ·rintro zs H1 rfl s1 D j x y pR Hc R sc _ kc
  obtain ⟨hj,rfl,rfl⟩:=xu pR;have s2:=s1.trans sc;have vz:=s2 _ _ et;have ki:=s2 _ _ hz;refine ⟨_,rfl,_,rfl,tn,_,_,_,rfl,rfl,.of vz,bH hj,_,rfl,_,rfl,tn,_,_,_,rfl,rfl,.of vz,bH hi,_,_,rfl,rfl,_,rfl,cG (fun hb=>?_) (fun hb=>?_)⟩
  ·have hb:=eF hb
   refine ⟨_,rfl,z,dz,_,rfl,ki,fv (by decide +kernel),z,q,0,1,rfl,⟨dz,ki⟩,hq,b7.of_lt (by decide) (by decide),fun h=>absurd h nv,fun _ v0 H5 s5 lE=>kc v0 H5 s5 ?_⟩
   have h0:=ma (B:=1000) (by decide) lE hq (.inl rfl)
   rw [pQ j hj (by lia)]
   exact qP h0 (by rw [eQ,eQ];exact qd q) (bd j hj).2.2 (cu _) (bd j hj).2.1
  ·have h1:¬((o.idxOf j:Nat):Int)<((o.idxOf i:Nat):Int):=fun z=>hb (cX z)
   exact ⟨_,rfl,kc _ Hc (ae.refl _) ((BQ j hj (by lia)).mono s2)⟩
 ·rintro zs H1 rfl s1 D vs Hc nD sc jA pS eD
  rw [mj] at jA;have ev:vs=(List.range n).map fun j=>vs.getD j .aH:=by
   refine fF (by simp [jA]) fun j h1 h2=>?_
   rw [fR,gJ,getD_at h1]
  refine kk D (fun j=>vs.getD j .aH) Hc (s1.trans sc) nD (by unfold b_;rw [←ev];exact eD) fun j hj=>?_
  have dP:j<vs.length:=by lia
  rw [getD_at dP];exact pS j _ (d6 dP)
theorem Rf:a9 ["world","table","turns"] ["world","table","turns"] (aJ xR):=bD
theorem Rg(T:Txt K mg t):aT P w K mg base bI 6 t.oG t.rD ["world","table","turns"] (OZ t.aP):=by
 have S:=Rf;refine T.sZ.b9 S (fun _ _ _ _ H vs _ _ hr h=>?_);obtain ⟨z,a,tn,q,X,n,o,ra,vf,Tw,U,rfl,hw,hq,dR,ho,hT,et,X1,bd,pQ,BN,BO,kk⟩:=h;refine ⟨_,(au (aS (Ai (N:=["i","row","world","turns"]) (ρ:=(fun σ=>[σ[0]?.join,σ[2]?.join])) (wR [0,2] rfl) rfl (qF rfl T.pK (aa (pv 1) af)) (fun _ _ _=>.nil) (fun _ _ _=>(aU (Q_ T) hr T.F0 T.sX.kp T.FZ aY (aa (pv 2) (aa (pv 1) (aa (pv 3) (aa (pv 0) af))))))))),?_⟩;refine gD (wU (Z:=fun zs _=>zs=(((List.range ((List.range n).map fun i=>V.ref (ra i)).length).zip ((List.range n).map fun i=>V.ref (ra i))).map fun p=>(V.int (p.1:Int),p.2))) (fun R h=>⟨_,rfl,a,rfl,⟨_,.of hT.lst⟩,h _ _ _ (ae.refl _) (xi (.of hT.lst)) (by rw [mj];exact fK (by lia)) rfl⟩) (fun D i y Hx=>∃(r:Addr) (lv:Nat→V),y=.ref r∧r≠D∧H r=none∧b_ Hx r n lv∧∀j,j<n→aK X Hx q (lv j) (Tw i j) (U i j)) (fun D j y Ha Hb ys ⟨r,lv,e1,e2,e3,e4,e5⟩ e f=>⟨r,lv,e1,e2,e3,f r _ e2 e4,fun j hj=>(e5 j hj).bG e f⟩) ?_ ?_)
 ·rintro zs H1 rfl s1 D i x y pR Hc R sc ⟨ys,BR⟩ kc
  obtain ⟨hi,rfl,rfl⟩:=xu pR;have s2:=s1.trans sc;refine ⟨_,rfl,_,rfl,_,rfl,_,rfl,z,ra i,tn,q,X,n,i,o,vf i,Tw i,U i,rfl,hw.mono s2,hq,dR,hi,ho,s2 _ _ (hT.at' i hi),s2 _ _ et,X1,fun j hj=>bd i j hi hj,fun j hj h=>(pQ i j hi hj h).mono s2,fun j hj h=>BN i j hi hj h,BO i hi,fun r lv H3 s3 nr er ew=>kc (.ref r) H3 s3 ⟨r,lv,rfl,(fun zz=>by rw [zz,BR] at nr;cases nr),none_of s2 nr,er,ew⟩⟩
 ·rintro zs H1 rfl s1 D vs Hc nD sc jA pS eD
  rw [mj] at jA;have row:∀i,i<n→∃(r:Addr) (lv:Nat→V),vs.getD i .aH=.ref r∧H r=none∧b_ Hc r n lv∧∀j,j<n→aK X Hc q (lv j) (Tw i j) (U i j):=fun i hi=>by
   have dj:i<vs.length:=by lia
   obtain ⟨r,lv,e1,e2,e3,e4,e5⟩:=pS i _ (d6 dj);exact ⟨r,lv,by rw [getD_at dj,e1],e3,e4,e5⟩
  refine kk D (fun i=>if h:i<n then (row i h).choose else 0) (fun i=>if h:i<n then (row i h).choose_spec.choose else fun _=>.aH) Hc (s1.trans sc) nD (fun i hi=>?_) ⟨?_,fun i hi=>?_⟩ fun i j hi hj=>?_
  ·rw [gr hi]
   exact (row i hi).choose_spec.choose_spec.2.1
  ·rw [eD]
   congr 2
   refine fF (by simp [jA]) fun i h1 h2=>?_
   have hi:i<n:=by lia
   rw [fR,gJ,gr hi,←(row i hi).choose_spec.choose_spec.1,getD_at h1]
  ·rw [gr hi,gr hi]
   exact (row i hi).choose_spec.choose_spec.2.2.1
  ·dsimp only
   rw [gr hi];exact (row i hi).choose_spec.choose_spec.2.2.2 j hj
theorem Rh:a9 ["world","table","turns"] ["world","table","turns"] (aJ xS):=bD
theorem Ri(T:Txt K mg t):aT P w K mg base bI 6 t.oH t.rE ["world","table","turns"] (O0 t.aP):=by
 have S:=Rh;refine T.s_.b9 S (fun _ _ _ _ H vs _ _ hr h=>?_);obtain ⟨z,a,tn,q,X,n,o,ra,vf,Tw,U,rfl,hw,hq,dR,ho,hT,et,X1,bd,BQ,pQ,kk⟩:=h;refine ⟨_,(au (aS (Ai (N:=["i","row","world","turns"]) (ρ:=(fun σ=>[σ[0]?.join,σ[2]?.join])) (wR [0,2] rfl) rfl (qF rfl T.pK (aa (pv 1) af)) (fun _ _ _=>.nil) (fun _ _ _=>(aU (Rc T) hr T.F8 T.sY.kp T.F5 aY (aa (pv 2) (aa (pv 1) (aa (pv 3) (aa (pv 0) af))))))))),?_⟩;refine gD (wU (Z:=fun zs _=>zs=(((List.range ((List.range n).map fun i=>V.ref (ra i)).length).zip ((List.range n).map fun i=>V.ref (ra i))).map fun p=>(V.int (p.1:Int),p.2))) (fun R h=>⟨_,rfl,a,rfl,⟨_,.of hT.lst⟩,h _ _ _ (ae.refl _) (xi (.of hT.lst)) (by rw [mj];exact fK (by lia)) rfl⟩) (fun D i y Hx=>∃(r:Addr) (lv:Nat→V),y=.ref r∧r≠D∧H r=none∧b_ Hx r n lv∧∀j,j<n→aK X Hx q (lv j) (Tw i j) (U i j)) (fun D j y Ha Hb ys ⟨r,lv,e1,e2,e3,e4,e5⟩ e f=>⟨r,lv,e1,e2,e3,f r _ e2 e4,fun j hj=>(e5 j hj).bG e f⟩) ?_ ?_)
 ·rintro zs H1 rfl s1 D i x y pR Hc R sc ⟨ys,BR⟩ kc
  obtain ⟨hi,rfl,rfl⟩:=xu pR;have s2:=s1.trans sc;refine ⟨_,rfl,_,rfl,_,rfl,_,rfl,z,ra i,tn,q,X,n,i,o,vf i,Tw i,U i,rfl,hw.mono s2,hq,dR,hi,ho,s2 _ _ (hT.at' i hi),s2 _ _ et,X1,fun j hj=>bd i j hi hj,fun j hj h=>(BQ i j hi hj h).mono s2,fun j hj h=>pQ i j hi hj h,fun r lv H3 s3 nr er ew=>kc (.ref r) H3 s3 ⟨r,lv,rfl,(fun zz=>by rw [zz,BR] at nr;cases nr),none_of s2 nr,er,ew⟩⟩
 ·rintro zs H1 rfl s1 D vs Hc nD sc jA pS eD
  rw [mj] at jA;have row:∀i,i<n→∃(r:Addr) (lv:Nat→V),vs.getD i .aH=.ref r∧H r=none∧b_ Hc r n lv∧∀j,j<n→aK X Hc q (lv j) (Tw i j) (U i j):=fun i hi=>by
   have dj:i<vs.length:=by lia
   obtain ⟨r,lv,e1,e2,e3,e4,e5⟩:=pS i _ (d6 dj);exact ⟨r,lv,by rw [getD_at dj,e1],e3,e4,e5⟩
  refine kk D (fun i=>if h:i<n then (row i h).choose else 0) (fun i=>if h:i<n then (row i h).choose_spec.choose else fun _=>.aH) Hc (s1.trans sc) nD (fun i hi=>?_) ⟨?_,fun i hi=>?_⟩ fun i j hi hj=>?_
  ·rw [gr hi]
   exact (row i hi).choose_spec.choose_spec.2.1
  ·rw [eD]
   congr 2
   refine fF (by simp [jA]) fun i h1 h2=>?_
   have hi:i<n:=by lia
   rw [fR,gJ,gr hi,←(row i hi).choose_spec.choose_spec.1,getD_at h1]
  ·rw [gr hi,gr hi]
   exact (row i hi).choose_spec.choose_spec.2.2.1
  ·dsimp only
   rw [gr hi];exact (row i hi).choose_spec.choose_spec.2.2.2 j hj
theorem Rj:a9 ["world","table","order","told","turns"] ["world","table","order"] (aJ xT):=bD
theorem HH(T:Txt K mg t):aT P w K mg base bI 9 t.oI t.rF ["world","table","order"] (O1 t.aP):=by
 have S:=Rj;refine T.pB.b9 S (fun _ _ _ _ H _ _ _ hr h=>?_);obtain ⟨z,a,d,q,B,X,n,ai,o,M,D,rfl,hw,hq,hT,yL,ln,n1,dR,wd,ed,ho,cm,yQ,kS,kF⟩:=h
 refine ⟨_,(ar (putL 3 S.nd (aU (Hv T) hr T.A_ T.pA.kp T.A9 aY (aa (pv 0) (aa (pv 1) (aa (pv 2) af)))))
  (ar (b5 (bM Dg (aq ba (pv 3) ak) kI) (au (aS kI)) cw)
  (ar (putL 4 S.nd (aU (G9 T) hr T.A8 T.pz.kp T.A7 aY (aa (pv 2) af)))
  (au (aS (d7 (aa (aU (Rg T) hr T.F_ T.sZ.kp T.F9 aY (aa (pv 0) (aa (aq ba (pv 3) ak) (aa (pv 4) af)))) (aa (aU (Ri T) hr T.Gb T.s_.kp T.Ga aY (aa (pv 0) (aa (aq ba (pv 3) ak) (aa (pv 4) af)))) af)))))))),?_⟩
 refine bh fun _ hR=>bV ⟨_,rfl,_,rfl,_,rfl,z,a,d,q,B,X,n,ai,o,M,D,rfl,hw,hq,hT,yL,ln,n1,dR,wd,ed,ho,cm,fun k hk gd dv tp wk ot H1 rs ls vf g s1 cT pk=>hR _ _ ?_,fun gd tp wk ot H1 rs ls vf g s1 cT pk=>hR _ _ ?_⟩
 ·refine bh fun _ hR=>⟨_,rfl,tp,_,_,_,rfl,rfl,.of cT,rfl,rfl,true,by simp,iq ?_⟩
  exact kS k hk gd dv H1 s1
 ·clear hR
  have idx:∀{k},k<n→o.idxOf k<n:=fun{k} hk=>by have:=(cS ((bW ho).mpr hk)).1;have:=eL ho;lia
  have dz:∀j,j≤n→¬q∣aA M (cO o j):=fun j hj=>ju hq (gF gd hj);refine bh fun _ hR=>⟨_,rfl,tp,_,_,_,rfl,rfl,.of cT,rfl,rfl,false,by simp,dY (hR _ _ ?_)⟩
  refine bh fun _ hR=>bV ⟨_,rfl,d,n,o,rfl,⟨s1 _ _ ed,ho⟩,by lia,fun tn H2 s2 XJ et=>hR _ _ ?_⟩
  have cI:=s1.trans s2;have HI:=s2 _ _ cT;have HJ:=pk.tab.r.mono s2;have F2:c_ X H2 q n vf (sT M D o n) (sU M D o n):=fun i j hi hj=>(pk.k9 i j hi hj).mono s2;refine gD ⟨_,rfl,_,rfl,tp,_,_,_,rfl,rfl,.of HI,rfl,_,rfl,z,wk,tn,q,X,n,o,rs,vf,i8 M D o,j_ M D o,rfl,hw.mono cI,hq,dR,ho,HJ,et,cm.X1,fun i j hi hj=>⟨(yQ i j hi hj).1,(yQ i j hi hj).2.1,ei hq (cm.dn i) (dz _ (by have:=idx hj;lia))⟩,fun i j hi hj h=>?_,fun i j hi hj h=>OV hq ho gd hi hj h,fun i hi=>OU hq ho hi,fun lo rl lf H3 s3 Rk Rl low wl=>?_⟩
  ·have:=F2 i j hi hj
   rwa [(Fs hq ho hi hj h).1,(Fs hq ho hi hj h).2] at this
  ·refine ⟨_,rfl,_,rfl,tp,_,_,_,rfl,rfl,.of (s3 _ _ HI),rfl,_,rfl,z,wk,tn,q,X,n,o,rs,vf,jw M o,mi M D o,rfl,hw.mono (cI.trans s3),hq,dR,ho,HJ.mono s3,s3 _ _ et,cm.X1,fun i j hi hj=>⟨(yQ i j hi hj).2.2.1,(yQ i j hi hj).2.2.2,ei hq (cm.dn i) (dz _ (by have:=idx hi;lia))⟩,fun i j hi hj h=>?_,fun i j hi hj h=>OW ho hj h,fun up ru uf H4 s4 Rm Rn jx wu=>?_⟩
   ·have:=(F2 i j hi hj).mono s3
    rwa [(Ft ho hi h).1,(Ft ho hi h).2] at this
   ·refine ⟨by show 2≤sizeLine;decide,fun fd vn=>?_⟩
    have s5:ae H4 (upd H4 fd (.tup [.ref lo,.ref up])):=aW vn;have iI:=cI.trans (s3.trans s4);exact kF gd fd lo up rl ru lf uf _ (iI.trans s5) ⟨ax,(low.mono s4).mono s5,jx.mono s5,fun i j hi hj=>((wl i j hi hj).mono s4).mono s5,fun i j hi hj=>(wu i j hi hj).mono s5,none_of iI vn,none_of cI Rk,none_of (cI.trans s3) Rm,fun i hi=>⟨none_of cI (Rl i hi),none_of (cI.trans s3) (Rn i hi)⟩⟩
theorem Ro:a9 ["_law_cell","_law_at","_law_x"] ["_law_cell","_law_at"] (aJ ya):=bD
theorem Rp(T:Txt K mg t):aT P w K mg base bI 1 t.oX t.rZ ["_law_cell","_law_at"] MS:=by
 have S:=Ro;refine T.tJ.b9 S (fun _ _ _ _ H _ _ _ hr h=>?_);obtain ⟨c,a,rfl,ha,k⟩:=h
 refine ⟨_,(ar (b5 (bM Df (pv 0) (aM JA ak ak)) (au (aS (pv 0))) cw)
  (ar (putL 2 S.nd (aM fW (aM fU (aM fU (aM fV (aM fW (pv 0) ak) ak) (aM fV (pv 1) ak)) ak) ak))
  (ar (putL 2 S.nd (aM fW (aM fU (aM fU (aM fV (pv 2) (pv 2)) (aM fV ak (pv 2))) (pv 1)) ak))
  (au (aS (aM fU (aM fV (pv 2) ak) (aM fW (aM fU (aM fV (pv 2) (pv 2)) (aM fV ak (pv 1))) ak))))))),?_⟩
 refine ⟨_,rfl,_,_,rfl,rfl,⟨by decide,by decide,by decide⟩,_,_,rfl,rfl,_,rfl,cG (fun h=>?_) (fun h=>?_)⟩
 ·have h:=eF h
  exact ⟨_,rfl,k _ (Int.le_trans (by decide) h)⟩
 ·refine ⟨_,rfl,_,_,rfl,rfl,(by show (0:Int)<2147483647;decide),_,_,rfl,rfl,.inr ⟨by decide,by decide⟩,_,rfl,_,_,rfl,rfl,.inr ⟨by decide,by decide⟩,_,_,rfl,rfl,_,_,rfl,rfl,_,_,rfl,rfl,(by show (0:Int)<2147483629;decide),?_⟩
  have b0:=fP (c % 2147483647*48271+a*69621+11) (show (2147483629:Int)≠0 by decide)
  have b1:=gH (c % 2147483647*48271+a*69621+11) (show (0:Int)<2147483629 by decide)
  generalize (c % 2147483647*48271+a*69621+11) % 2147483629=x at b0 b1 ⊢;refine ⟨_,rfl,_,rfl,_,_,rfl,rfl,.inl ⟨by lia,by lia⟩,_,rfl,_,_,rfl,rfl,.inl ⟨by decide,by decide⟩,_,_,rfl,rfl,_,rfl,_,_,rfl,rfl,_,_,rfl,rfl,(by show (0:Int)<2147483587;decide),?_⟩
  have c0:=fP (x*x+48271*x+a) (show (2147483587:Int)≠0 by decide)
  have c1:=gH (x*x+48271*x+a) (show (0:Int)<2147483587 by decide)
  generalize (x*x+48271*x+a) % 2147483587=y at c0 c1 ⊢;refine ⟨_,rfl,_,_,rfl,rfl,.inr ⟨by decide,by decide⟩,_,rfl,_,rfl,_,_,rfl,rfl,.inl ⟨by lia,by lia⟩,_,rfl,_,_,rfl,rfl,.inl ⟨by decide,by decide⟩,_,_,rfl,rfl,_,_,rfl,rfl,(by show (0:Int)<2147483579;decide),_,_,rfl,rfl,k _ (Int.add_nonneg (Int.mul_nonneg (fP _ (by decide)) (by decide)) (fP _ (by decide)))⟩
theorem Rq:a9 ["_law_pen","_law_many","_law_at","_law_cell","_law_found"] ["_law_pen","_law_many"] (aJ yb):=bD
theorem lG(T:Txt K mg t):aT P w K mg base bI 2 t.oY t.r6 ["_law_pen","_law_many"] (MT K):=by
 have S:=Rq;refine T.gY.b9 S (fun _ _ _ _ H _ _ _ hr h=>?_);obtain ⟨P0,a,ns,many,rfl,⟨x,y,eP,hx,hy⟩,hS,m1,mm,k⟩:=h;have mB:=hr.units
 refine ⟨_,(ar (b5 (bM qk (aq a_ (pv 0) ak) (pv 1)) (ar (putL 2 S.nd (aq a_ (pv 0) ak))
  (ar (putL 3 S.nd ak)
  (ar (b5 (bM qk (pv 2) (cC eW rfl T.eC eG (aa (aq a_ (pv 0) ak) af))) (au (putL 3 S.nd (aq a_ (aq a_ (pv 0) ak) (pv 2)))) (au (b5 (bM uD (cC eW rfl T.eC eG (aa (aq a_ (pv 0) ak) af)) ak) (au (putL 3 S.nd (aM fU (aM fW (aq a_ (aq a_ (pv 0) ak) (aM fW (aM fV (pv 2) ak) (cC eW rfl T.eC eG (aa (aq a_ (pv 0) ak) af)))) ak) (aM fV (pv 2) ak)))) cw)))
  (ar (@gs _ _ _ _ _ _ (aM fU (pv 2) ak) (hV (pv 0) ak set_list) (by rfl) (by rfl) (by rfl))
  (au (@gs _ _ _ _ _ _ (aU (Rp T) hr T.Gz T.tJ.kp T.Gy aY (aa (pv 3) (aa (pv 2) af))) (hV (pv 0) ak set_list) (by rfl) (by rfl) (by rfl))))))) cw)
  (ar (putL 4 S.nd (aM fW (aq a_ (pv 0) ak) (pv 1)))
  (ar (@gs _ _ _ _ _ _ (aM jS (aq a_ (pv 0) ak) (pv 1)) (hV (pv 0) ak set_list) (by rfl) (by rfl) (by rfl))
  (au (aS (pv 4)))))),?_⟩
 have yR:=iZ.seq hS;refine ⟨_,rfl,P0,_,_,_,rfl,rfl,.of eP,rfl,_,rfl,_,_,rfl,rfl,_,rfl,cG (fun bO=>?_) (fun bO=>?_)⟩
 ·refine ⟨_,rfl,P0,_,_,_,rfl,rfl,.of eP,rfl,?_⟩
  refine ⟨_,rfl,_,rfl,P0,_,_,_,rfl,rfl,.of eP,rfl,a,ns.map V.int,rfl,.inl yR,_,_,rfl,rfl,_,rfl,cG (fun h1=>?_) (fun h1=>?_)⟩
  ·have h1:x<((ns.map V.int).length:Int):=eF h1
   obtain ⟨v,hv,mv⟩:=D3 (xs:=ns.map V.int) hx h1;obtain ⟨c,_,rfl⟩:=jH.mp mv;refine ⟨_,rfl,P0,_,_,_,rfl,rfl,.of eP,rfl,_,rfl,a,ns.map V.int,_,_,rfl,rfl,yR,hv,?_⟩;refine ⟨_,rfl,_,_,rfl,rfl,_,rfl,P0,_,1,1,rfl,rfl,eP,rfl,?_⟩;refine ⟨_,rfl,_,rfl,c,x,rfl,hx,fun r lB=>⟨_,rfl,P0,_,2,2,rfl,rfl,ax,rfl,?_⟩⟩;have q0:=fP (r) (show many≠0 by lia)
   have q1:=gH (r) (show 0<many by lia)
   have q2:=ur (lB) (show 0≤many by lia)
   refine ⟨_,rfl,P0,_,_,_,rfl,rfl,.of ax,rfl,_,rfl,_,_,rfl,rfl,(show 0<many by lia),?_⟩
   refine ⟨_,rfl,P0,_,_,_,rfl,rfl,.of ax,rfl,_,rfl,_,_,rfl,rfl,⟨show 0<many by lia,mm⟩,_,rfl,P0,_,2,2,rfl,rfl,ax,rfl,?_⟩
   exact ⟨_,rfl,k _ _ q0 q1 (((aX.refl H).trans aX.jX).trans (aX.jX.trans aX.jX)) ⟨x+1,r / many,ax,by lia,q2⟩⟩
  ·refine ⟨_,rfl,P0,_,_,_,rfl,rfl,.of eP,rfl,a,ns.map V.int,rfl,.inl yR,_,_,rfl,rfl,_,rfl,?_⟩
   have yS:=eP;have vA:=yR;have sl:=ae.refl H;refine cG (fun h2=>?_) (fun h2=>?_)
   ·have hl:0<(ns.map V.int).length:=by have:=eF h2;lia
    have G7:=fP (x*7) (show ((ns.map V.int).length:Int)≠0 by lia)
    have Rr:=gH (x*7) (show (0:Int)<((ns.map V.int).length:Int) by lia)
    obtain ⟨v,hv,mv⟩:=D3 (xs:=ns.map V.int) G7 Rr;obtain ⟨c,_,rfl⟩:=jH.mp mv;refine ⟨_,rfl,P0,_,_,_,rfl,rfl,.of yS,rfl,_,rfl,_,_,rfl,rfl,.inr ⟨by decide,by decide⟩,_,rfl,P0,_,_,_,rfl,rfl,.of yS,rfl,a,ns.map V.int,rfl,.inl vA,_,_,rfl,rfl,(show (0:Int)<((ns.map V.int).length:Int) by lia),a,ns.map V.int,_,_,rfl,rfl,vA,hv,_,_,rfl,rfl,(show (0:Int)<1000003 by decide),_,rfl,_,_,rfl,rfl,.inr ⟨by decide,by decide⟩,_,_,rfl,rfl,?_⟩
    refine ⟨_,rfl,_,_,rfl,rfl,_,rfl,P0,_,1,1,rfl,rfl,yS,rfl,?_⟩;refine ⟨_,rfl,_,rfl,_,x,rfl,hx,fun r lB=>⟨_,rfl,P0,_,2,2,rfl,rfl,ax,rfl,?_⟩⟩;have q0:=fP (r) (show many≠0 by lia)
    have q1:=gH (r) (show 0<many by lia)
    have q2:=ur (lB) (show 0≤many by lia)
    refine ⟨_,rfl,P0,_,_,_,rfl,rfl,.of ax,rfl,_,rfl,_,_,rfl,rfl,(show 0<many by lia),?_⟩
    refine ⟨_,rfl,P0,_,_,_,rfl,rfl,.of ax,rfl,_,rfl,_,_,rfl,rfl,⟨show 0<many by lia,mm⟩,_,rfl,P0,_,2,2,rfl,rfl,ax,rfl,?_⟩
    exact ⟨_,rfl,k _ _ q0 q1 (((aX.of sl).trans aX.jX).trans (aX.jX.trans aX.jX)) ⟨x+1,r / many,ax,by lia,q2⟩⟩
   ·
    refine ⟨_,rfl,_,_,rfl,rfl,_,rfl,P0,_,1,1,rfl,rfl,yS,rfl,?_⟩;refine ⟨_,rfl,_,rfl,0,x,rfl,hx,fun r lB=>⟨_,rfl,P0,_,2,2,rfl,rfl,ax,rfl,?_⟩⟩;have q0:=fP (r) (show many≠0 by lia)
    have q1:=gH (r) (show 0<many by lia)
    have q2:=ur (lB) (show 0≤many by lia)
    refine ⟨_,rfl,P0,_,_,_,rfl,rfl,.of ax,rfl,_,rfl,_,_,rfl,rfl,(show 0<many by lia),?_⟩
    refine ⟨_,rfl,P0,_,_,_,rfl,rfl,.of ax,rfl,_,rfl,_,_,rfl,rfl,⟨show 0<many by lia,mm⟩,_,rfl,P0,_,2,2,rfl,rfl,ax,rfl,?_⟩
    exact ⟨_,rfl,k _ _ q0 q1 (((aX.of sl).trans aX.jX).trans (aX.jX.trans aX.jX)) ⟨x+1,r / many,ax,by lia,q2⟩⟩
 ·dsimp only [vW]
  have q0:=fP (y) (show many≠0 by lia)
  have q1:=gH (y) (show 0<many by lia)
  have q2:=ur (hy) (show 0≤many by lia)
  refine ⟨_,rfl,P0,_,_,_,rfl,rfl,.of eP,rfl,_,rfl,_,_,rfl,rfl,(show 0<many by lia),?_⟩
  refine ⟨_,rfl,P0,_,_,_,rfl,rfl,.of eP,rfl,_,rfl,_,_,rfl,rfl,⟨show 0<many by lia,mm⟩,_,rfl,P0,_,2,2,rfl,rfl,eP,rfl,?_⟩
  exact ⟨_,rfl,k _ _ q0 q1 (aX.jX) ⟨x,y / many,ax,hx,q2⟩⟩
theorem Rt:a9 ["_law_pen","_law_some","_law_left","_law_found"] ["_law_pen","_law_some"] (aJ yc):=bD
theorem Ru(T:Txt K mg t):aT P w K mg base bI 3 t.oZ t.r9 ["_law_pen","_law_some"] (M_ K):=by
 have S:=Rt;refine T.tK.b9 S (fun _ _ _ _ H _ _ _ hr h=>?_);obtain ⟨P0,a,l,ns,xs,rfl,pc,hS,nl,el,XM,kk⟩:=h;have mB:=hr.units
 refine ⟨_,(ar (putL 2 S.nd (ji wq rfl T.lA boot_list (aa (pv 1) af)))
  (ar (putL 3 S.nd (lW af))
  (ar (v8 dU (bM (M9 mB) (pv 2) (lW af)) (au (qf (zN zb PySem.F.slot_list_append PySem.F.type_list_append qp (pv 3) (aa (zN zb PySem.F.slot_list_pop PySem.F.type_list_pop KN (pv 2) (aa (aU (lG T) hr T.kh T.gY.kp T.kg aY (aa (pv 0) (aa (cC eW rfl T.eC eG (aa (pv 2) af)) af))) af)) af)))))
  (au (aS (pv 3)))))),?_⟩
 refine ⟨_,rfl,l,xs,rfl,.inl (.of el),fun l1 n1=>?_⟩;have s1:ae H (upd H l1 (.lst xs)):=aW n1;have e1:upd H l1 (.lst xs) l1=some (.lst xs):=ax;dsimp only [b6];generalize upd H l1 (.lst xs)=H1 at s1 e1 ⊢;refine ⟨by show 0≤sizeLine;decide,fun l2 n2=>?_⟩
 have s2:ae H1 (upd H1 l2 (.lst [])):=aW n2;have e2:upd H1 l2 (.lst []) l2=some (.lst []):=ax;dsimp only [b6];generalize upd H1 l2 (.lst [])=H2 at s2 e2 ⊢;have HK:l1≠P0:=pc.ne n1;have yT:l2≠P0:=(pc.mono s1).ne n2;have HL:H l2=none:=none_of s1 n2;have HM:l1≠l2:=fun e=>by rw [e,n2] at e1;cases e1
 refine l_ ⟨fun m σ Hc=>∃zs ys:List V,σ=[some (.ref P0),some (.ref l),some (.ref l1),some (.ref l2)]∧m=zs.length∧Hc l1=some (.lst zs)∧Hc l2=some (.lst ys)∧(zs++ys).Perm xs∧aX P0 H Hc∧cj Hc P0 a,⟨_,xs,[],rfl,rfl,s2 _ _ e1,e2,by rw [t8],aX.of (s1.trans s2),(pc.mono s1).mono s2⟩,?_⟩
 rintro m σ Hc ⟨zs,ys,rfl,rfl,ez,ey,pm,sc,p1⟩;have lz:zs.length≤100:=by have:=pm.length_eq;rw [iK] at this;lia
 have ly:ys.length≤100:=by have:=pm.length_eq;rw [iK] at this;lia
 refine ⟨_,rfl,by show 0≤sizeLine;decide,fun le Rv=>?_⟩
 have s3:ae Hc (upd Hc le (.lst [])):=aW Rv;have e3:upd Hc le (.lst []) le=some (.lst []):=ax;generalize upd Hc le (.lst [])=H3 at s3 e3 ⊢;refine ⟨l1,le,zs,rfl,rfl,.of (s3 _ _ ez),e3,_,rfl,cG (fun hz=>?_) (fun hz=>?_)⟩
 ·have z0:1≤zs.length:=by
   cases zs with
   | nil=>cases hz
   | cons=>simp
  have HN:=sc.trans (aX.of s3);refine ⟨_,fun _ _ h=>h,?_⟩;refine ⟨_,rfl,.inl ⟨rfl,_,.of (s3 _ _ ey)⟩,_,rfl,.inl ⟨rfl,_,.of (s3 _ _ ez)⟩,_,rfl,_,rfl,l1,zs,rfl,.inl (.of (s3 _ _ ez)),P0,a,ns,(zs.length:Int),rfl,p1.mono s3,ae.seq HN hS,by lia,b7.of_lt (by lia) (by lia),fun c H4 c0 c1 s4 p4=>?_⟩
  obtain ⟨k,rfl⟩:=jI c0;have hk:k<zs.length:=by lia
  have Rx:=s4.at HK (s3 _ _ ez);have Ry:=s4.at yT (s3 _ _ ey);have sx:seqIndex? (k:Int) zs.length=some k:=by unfold seqIndex?;simp;lia
  refine ⟨l1,zs,(k:Int),k,zs[k],rfl,rfl,Rx,by lia,by lia,sx,by simp [hk],?_⟩
  have nn:l2≠l1:=fun e=>HM e.symm;refine ⟨l2,ys,zs[k],rfl,rfl,by rw [aN nn];exact Ry,fK (by lia),?_⟩
  refine ⟨_,?_,zs.eraseIdx k,ys++[zs[k]],rfl,rfl,by rw [aN HM,ax],ax,?_,?_,?_⟩
  ·rw [List.length_eraseIdx_of_lt hk]
   lia
  ·refine List.Perm.trans ?_ pm
   rw [←List.append_assoc];refine (List.perm_append_comm).trans ?_;show (zs[k]::(zs.eraseIdx k++ys)).Perm (zs++ys);exact (EC zs k hk).append_right ys
  ·exact ((HN.trans s4).but n1).but HL
  ·exact ((p4.upd HK).upd yT)
 ·have z0:zs=[]:=by
   cases zs with
   | nil=>rfl
   | cons=>exact absurd rfl hz
  subst z0;refine ⟨_,rfl,kk l2 ys H3 (sc.trans (aX.of s3)) (p1.mono s3) ?_ yT (s3 _ _ ey) pm⟩;rw [jn yT];exact HL
theorem Rz:a9 ["_law_table","_law_places"] ["_law_table"] (aJ yg):=bD
theorem HP(T:Txt K mg t):aT P w K mg base bI 2 t.o8 t.si ["_law_table"] O6:=by
 have S:=Rz;refine T.pH.b9 S (fun _ _ _ _ H _ _ _ hr h=>?_);obtain ⟨a,n,ra,vf,rfl,hT,dR,kk⟩:=h
 refine ⟨_,(ar (nH 1 S.nd (ji (z8 rfl) rfl T.lA boot_list (aa (ji z7 rfl T.gZ z9 (aa (cC eW rfl T.eC eG (aa (pv 0) af)) af)) af)))
  (au (aS (MB (N:=["_law_i","_law_places","_law_table"]) (ρ:=(fun σ=>[σ[1]?.join,σ[0]?.join])) ⟨rfl,rfl,(fun _=>rfl),(fun _=>rfl),by decide +kernel,(vL.mpr ⟨rfl,(vL.mpr ⟨rfl,(List.forall_mem_nil _)⟩)⟩),Mv (by rfl),rfl,by decide +kernel,rfl,(fun σ j v h=>match j,h with | 0,h=>⟨1,_,rfl,rfl,join_some h,Or.inr (Or.inl rfl),.inl rfl,.inl rfl⟩ | 1,h=>⟨0,_,rfl,rfl,join_some h,Or.inr (Or.inl rfl),.inl rfl,.inl rfl⟩ | j+2,h=>by cases h),(fun _ _=>rfl)⟩ rfl (gu (pv 1)) (fun _ _ _=>.nil) (fun _ _ _=>(nE (N:=["_law_j","_law_table","_law_i"]) (ρ:=(fun σ=>[σ[2]?.join,σ[0]?.join])) (jj [2,0] rfl) rfl (MH (K:=K) (pv 1)) (fun _ _ _=>.nil) (fun _ _ _=>(aq (iX (K:=K)) (aq (iX (K:=K)) (pv 1) (pv 0)) (pv 2))))))))),?_⟩
 have fB:∀f:Nat→V,((List.range n).map f).length=n:=fun f=>by rw [a8,dH]
 refine bh fun _ hR=>bV ⟨_,rfl,a,_,rfl,.inl (.of hT.lst),(n:Int),by rw [fB],fun p1 mC=>⟨p1,n,rfl,ax,by lia,fun l nl=>hR _ _ ?_⟩⟩
 have s1:ae H (upd (upd H p1 (.g_ 0 (n:Int))) l (.lst (eZ n))):=(aW mC).trans (aW nl);have el:upd (upd H p1 (.g_ 0 (n:Int))) l (.lst (eZ n)) l=some (.lst (eZ n)):=ax;generalize upd (upd H p1 (.g_ 0 (n:Int))) l (.lst (eZ n))=H1 at s1 el ⊢;have eu:eZ n=(List.range n).map fun i:Nat=>V.int (i:Int):=rfl;rw [eu] at el;refine gD (wY (xs:=(List.range n).map fun i:Nat=>V.int (i:Int)) (n:=n) (fB _) (fun R h=>⟨_,rfl,l,rfl,⟨_,.of el⟩,h _ _ (ae.refl _) (nJ (.of el))⟩) (fK (by lia)) (fun _ i y Hx=>Hx y=some (.lst ((List.range n).map fun j=>vf j i))∧H1 y=none) ?_ ?_ ?_)
 ·intro D i y Ha Hb ys ⟨h1,h2⟩ hy e f
  exact ⟨f y _ hy h1,h2⟩
 ·intro D i x hx Hc R sc _ kc
  obtain ⟨hi,rfl⟩:=AY hx;refine Eh (xs:=(List.range n).map fun i:Nat=>V.int (i:Int)) (fun R h=>⟨_,rfl,l,rfl,⟨_,.of (sc _ _ el)⟩,h _ _ (ae.refl _) (nJ (.of (sc _ _ el)))⟩) (by rw [fB];exact fK (by lia)) (fun _ j y _=>y=vf j i) (fun _ _ _ _ _ _ h _ _=>h) ?_ ?_
  ·intro D1 j x hx Hd R' sd _ kd
   obtain ⟨hj,rfl⟩:=AY hx;have S2:=s1.trans (sc.trans sd);exact ⟨_,rfl,_,rfl,a,_,_,_,rfl,rfl,.of (S2 _ _ hT.lst),bH hj,_,rfl,ra j,_,_,_,rfl,rfl,.of (S2 _ _ (hT.at' j hj)),bH hi,kd _ Hd (ae.refl _) rfl⟩
  ·intro D1 ys Hd BC sd jy mz eD
   rw [fB] at jy;refine kc D1 Hd sd BC ⟨_,eD⟩ ⟨?_,none_of sc BC⟩;rw [eD]
   congr 2
   refine fF (by simp [jy]) fun j h1 h2=>?_
   rw [fR,gJ];exact mz j _ (d6 h1)
 ·intro D rr H2 nD s2 inj hA eD
  exact kk D rr H2 (s1.trans s2) (none_of s1 nD) ⟨eD,inj,fun i hi=>(hA i hi).2,fun i hi=>(hA i hi).1.1⟩ fun i hi=>none_of s1 (hA i hi).1.2
theorem RA:a9 ["_law_world","_law_table","_law_order","_law_aim","_law_one","_law_other","_law_lower","_law_upper","_law_low","_law_up","_law_i","_law_j"] ["_law_world","_law_table","_law_order","_law_aim"] (aJ yh):=bD
theorem RB(T:Txt K mg t):aT P w K mg base bI 10 t.o9 t.sj ["_law_world","_law_table","_law_order","_law_aim"] (O_ t.aP):=by
 have S:=RA;have vj:=Br (P:=P) (w:=w) (base:=base) T;have pL:=yE (P:=P) (w:=w) (base:=base) T;refine T.tN.b9 S (fun _ _ _ _ H _ _ _ hr h=>?_);obtain ⟨z,tab,od,am,q,n,o,rt,vf,av,f,rfl,hz,hq,n1,n6,pc,kk⟩:=h;have hu:=hr.wm;have mB:=hr.units
 refine ⟨_,(ar (putL 4 S.nd (aU (HF T) hr T.Bf T.pE.kp T.Be aY (aa (pv 0) (aa (pv 1) (aa (pv 2) (aa (pv 3) af))))))
  (ar (putL 5 S.nd (aU (HF T) hr T.Bf T.pE.kp T.Be aY (aa (pv 0) (aa (aU (HP T) hr T.Bl T.pH.kp T.Bk aY (aa (pv 1) af)) (aa (pv 2) (aa (pv 3) af))))))
  (ar (b5 (bM kK (aq ba (pv 4) ak) (aq ba (pv 5) ak)) (au (aS hU)) cw)
  (ar (b5 (bM hX (aq ba (pv 4) ak) eU) (au (aS (ql hX (aq ba (pv 4) ak) (aq ba (pv 5) ak)))) cw)
  (ar (b5 (bM kK (aq ba (pv 4) ak) (aq ba (pv 5) ak)) (au (aS hU)) cw)
  (ar (@gs _ _ _ _ _ _ (aU (HH T) hr T.Bb T.pB.kp T.Ba aY (aa (pv 0) (aa (pv 1) (aa (pv 2) af)))) (mZ rfl (gM (cA (i:=6) S.nd rfl (Or.inl rfl)) (gM (cA (i:=7) S.nd rfl (Or.inl rfl)) mY))) (by rfl) (by rfl) (by rfl))
  (ar (@gs _ _ _ _ _ _ (aU (HH T) hr T.Bb T.pB.kp T.Ba aY (aa (pv 0) (aa (aU (HP T) hr T.Bl T.pH.kp T.Bk aY (aa (pv 1) af)) (aa (pv 2) af)))) (mZ rfl (gM (cA (i:=8) S.nd rfl (Or.inl rfl)) (gM (cA (i:=9) S.nd rfl (Or.inl rfl)) mY))) (by rfl) (by rfl) (by rfl))
  (ar (fo dU rfl (kJ rfl T.gZ (aa (cC eW rfl T.eC eG (aa (pv 1) af)) af)) (cA (i:=10) S.nd rfl (Or.inl rfl))
   (au (fo dU rfl (kJ rfl T.gZ (aa (cC eW rfl T.eC eG (aa (pv 1) af)) af)) (cA (i:=11) S.nd rfl (Or.inl rfl))
   (ar (b5 (bM (Ae hu) (aq a_ (aq a_ (pv 8) (pv 10)) (pv 11)) (fq (pv 0) T.cH T.tQ vj (hr.mono (by decide)) T.yw .nil gA (aa (aq a_ (aq a_ (pv 7) (pv 11)) (pv 10)) (aa (aq a_ (aq a_ (pv 7) (pv 11)) (pv 11)) af)))) (au (aS hU)) cw)
  (au (b5 (bM (Ae hu) (aq a_ (aq a_ (pv 9) (pv 10)) (pv 11)) (fq (pv 0) T.cH T.pJ pL (hr.mono (by decide)) T.vg .nil aY (aa (aq a_ (aq a_ (pv 7) (pv 10)) (pv 10)) (aa (aq a_ (aq a_ (pv 6) (pv 11)) (pv 10)) af)))) (au (aS hU)) cw))))))
  (au (aS hU)))))))))),?_⟩
 have lo:=eL pc.qR;have ho:=pc.qR;refine bh fun _ hR=>bV (xr (fun x Hx=>∃(fd r:Addr) (lv:Nat→V) (at':Nat),x=.ref fd∧ae H Hx∧nY Hx fd q (ck n 997) n o (bR q n f) (cL n (bN (dw n n f)) n) r lv at') (fun R' lH=>?_) ?_);·exact ⟨_,rfl,_,rfl,_,rfl,_,rfl,z,tab,od,am,q,1000,ck n 997,n,dw n n f,o,bR q n f,eB q,av,rfl,hz,hq,pc.xq,by decide +kernel,xn,n1,by lia,xo,pc.ord,ho,pc.cm hq (by lia),pc.Fp hq,fun k hk gd dv tp r lv Hx sx nr fc cT er ew=>lH _ _ ⟨tp,r,lv,2,rfl,sx,.nZ k hk gd dv cT er ew rfl⟩,fun gd tp r lv g Hx sx nr fc dQ cT er ew=>lH _ _ ⟨tp,r,lv,1,rfl,sx,.one g gd dQ cT er ew rfl⟩⟩
 rintro x H1 ⟨fd,r,lv,at',rfl,s1,out⟩;refine hR _ _ ?_;refine bh fun _ hR=>bV (xr (fun x Hx=>∃(lI r2 a2:Addr) (yU:Nat→Addr) (AX:Nat→V) (at2:Nat),x=.ref lI∧ae H1 Hx∧nY Hx lI q (ck n 997) n o (bR q n (dy n f)) (cL n (bN (dw n n (dy n f))) n) r2 AX at2) (fun R' lH=>?_) ?_)
 ·refine ⟨_,rfl,_,rfl,tab,n,rt,vf,rfl,pc.tab.r.mono s1,by lia,fun a2 yU H2 s2 RC w2 _=>?_⟩
  have pt:=(pc.mono (s1.trans s2)).turn w2;exact ⟨_,rfl,_,rfl,z,a2,od,am,q,1000,ck n 997,n,dw n n (dy n f),o,bR q n (dy n f),eB q,av,rfl,hz.mono (s1.trans s2),hq,pt.xq,by decide +kernel,xn,n1,by lia,xo,pt.ord,ho,pt.cm hq (by lia),pt.Fp hq,fun k hk gd dv tp r lv Hx sx nr fc cT er ew=>lH _ _ ⟨tp,r,a2,yU,lv,2,rfl,s2.trans sx,.nZ k hk gd dv cT er ew rfl⟩,fun gd tp r lv g Hx sx nr fc dQ cT er ew=>lH _ _ ⟨tp,r,a2,yU,lv,1,rfl,s2.trans sx,.one g gd dQ cT er ew rfl⟩⟩
 rintro x H2 ⟨lI,r2,_,_,AX,at2,rfl,s2,HQ⟩;refine hR _ _ ?_;have cI:=s1.trans s2;have out:=out.mono s2;have tg:=fun k=>O5 (f:=f) hq ho (k:=k);cases out with
 | nZ k hk g d e er ew ea=>
  cases HQ with
  | one g2 BS=>exact (xp lo hk d ((tg n).1.mp BS)).elim
  | nZ k2 vB g2 d2 e2 HR HS HU=>
   have qN:=(tg k2).1.mp g2;have ht:o[k2]<n:=(bW ho).mp (gk vB);have RD:k=k2:=OS lo hk vB g d qN (by rw [←((tg k2).2 qN).2 _ _ ht ht];exact d2)
   subst RD;refine bh fun _ hR=>⟨_,rfl,fd,_,_,_,rfl,rfl,.of e,rfl,_,rfl,lI,_,_,_,rfl,rfl,.of e2,rfl,rfl,false,by decide +kernel,dY (hR _ _ ?_)⟩
   refine bh fun _ hR=>⟨_,rfl,fd,_,_,_,rfl,rfl,.of e,rfl,rfl,true,by decide +kernel,iq ?_⟩
   refine gD ⟨_,rfl,fd,_,_,_,rfl,rfl,.of e,rfl,_,rfl,lI,_,_,_,rfl,rfl,.of e2,rfl,rfl,?_⟩;have:=kk H2 cI;simpa using this
 | one g gd dQ e er ew ea=>
  cases HQ with
  | nZ k2 vB g2 d2 e2 HR HS HU=>have qN:=(tg k2).1.mp g2;have ht:o[k2]<n:=(bW ho).mp (gk vB);exact (xp lo vB (by rw [←((tg k2).2 qN).2 _ _ ht ht];exact d2) gd).elim
  | one g2 BS RE e2 HR HS HU=>
   have RF:k8 n g2=k8 n g:=OR O4 RE dQ;refine bh fun _ hR=>⟨_,rfl,fd,_,_,_,rfl,rfl,.of e,rfl,_,rfl,lI,_,_,_,rfl,rfl,.of e2,rfl,rfl,false,by decide +kernel,dY (hR _ _ ?_)⟩
   refine bh fun _ hR=>⟨_,rfl,fd,_,_,_,rfl,rfl,.of e,rfl,rfl,false,by decide +kernel,dY (hR _ _ ?_)⟩
   refine bh fun _ hR=>⟨_,rfl,fd,_,_,_,rfl,rfl,.of e,rfl,_,rfl,lI,_,_,_,rfl,rfl,.of e2,rfl,rfl,false,by rw [RF];simp,dY (hR _ _ ?_)⟩
   have yV:=pc.mono cI;have ki:=hz.mono cI;refine bh fun _ hR=>bV (xr (fun x Hx=>∃(ff lw up:Addr) (rl ru:Nat→Addr) (lf uf:Nat→Nat→V),x=.ref ff∧ae H2 Hx∧qS H2 Hx q (ck n 997) n o (bR q n f) (eB q) ff lw up rl ru lf uf) (fun R' lH=>?_) ?_);·exact ⟨_,rfl,_,rfl,_,rfl,z,tab,od,q,1000,ck n 997,n,dw n n f,o,bR q n f,eB q,rfl,ki,hq,yV.xq,by decide +kernel,xn,n1,by lia,xo,yV.ord,ho,yV.cm hq (by lia),lub (qQ yV.sm) lo,fun k hk g' d Hx sx=>(xp lo hk d gd).elim,fun g' ff lw up rl ru lf uf Hx sx fa=>lH _ _ ⟨ff,lw,up,rl,ru,lf,uf,rfl,sx,fa⟩⟩
   rintro x H3 ⟨ff,lw,up,rl,ru,lf,uf,rfl,s3,fa⟩;refine ⟨ff,_,rfl,.of fa.tup,rfl,_,_,rfl,_,_,rfl,rfl,hR _ _ ?_⟩;have iH:=cI.trans s3;refine bh fun _ hR=>bV (xr (fun x Hx=>∃(ff lw up:Addr) (rl ru:Nat→Addr) (lf uf:Nat→Nat→V) (H4:Hp),x=.ref ff∧ae H3 Hx∧qS H4 Hx q (ck n 997) n o (bR q n (dy n f)) (eB q) ff lw up rl ru lf uf) (fun R' lH=>?_) ?_)
   ·refine ⟨_,rfl,_,rfl,tab,n,rt,vf,rfl,pc.tab.r.mono iH,by lia,fun a2 yU H4 s4 RC w2 _=>?_⟩
    have pt:=(pc.mono (iH.trans s4)).turn w2;exact ⟨_,rfl,z,a2,od,q,1000,ck n 997,n,dw n n (dy n f),o,bR q n (dy n f),eB q,rfl,hz.mono (iH.trans s4),hq,pt.xq,by decide +kernel,xn,n1,by lia,xo,pt.ord,ho,pt.cm hq (by lia),lub (qQ pt.sm) lo,fun k hk g' d Hx sx=>(xp lo hk d BS).elim,fun g' ff lw up rl ru lf uf Hx sx fa=>lH _ _ ⟨ff,lw,up,rl,ru,lf,uf,H4,rfl,s4.trans sx,fa⟩⟩
   rintro x H4 ⟨fg,BU,BV,RG,RH,XN,XO,XQ,rfl,s4,fb⟩;refine ⟨fg,_,rfl,.of fb.tup,rfl,_,_,rfl,_,_,rfl,rfl,hR _ _ ?_⟩;have iI:=iH.trans s4;have eO:ck n 997≤10 ^ 300:=aV (AS n (by lia)).2 (by decide +kernel)
   have fB:((List.range n).map fun i=>V.ref (rt i)).length=n:=by rw [a8,dH]
   have idx:∀{k},k<n→o.idxOf k<n:=fun{k} hk=>by have:=(cS ((bW ho).mpr hk)).1;lia
   have BW:∀{k},k<n→aA (bR q n f) (cO o (o.idxOf k+1))=az (bR q n f) (cO o (o.idxOf k)) (bR q n f k) k:=fun{k} hk=>by have kl:=(cS ((bW ho).mpr hk)).1;rw [jv kl,(cS ((bW ho).mpr hk)).2];rfl
   simp only [List.set_cons_zero,List.set_cons_succ,L2.start];refine bh fun _ hR=>⟨_,rfl,tab,_,rfl,.inl (.of (iI _ _ pc.tab.lst)),_,rfl,by rw [fB];lia,by rw [fB];lia,?_⟩
   rw [fB,fj];refine qi (fun i σ Hc=>∃(v10 v11:Option V),σ=[some (.ref z),some (.ref tab),some (.ref od),some (.ref am),some (.ref fd),some (.ref lI),some (.ref lw),some (.ref up),some (.ref BU),some (.ref BV),v10,v11]∧ae H4 Hc) ⟨_,_,rfl,ae.refl _⟩ ?_ ?_
   ·rintro i σ Hc hi ⟨v10,v11,rfl,sc⟩
    dsimp only [b6];rw [uh];refine ⟨_,rfl,tab,_,rfl,.inl (.of (sc _ _ (iI _ _ pc.tab.lst))),_,rfl,by rw [fB];lia,by rw [fB];lia,?_⟩
    rw [fB,fj];refine qi (fun j σ Hd=>∃(v11:Option V),σ=[some (.ref z),some (.ref tab),some (.ref od),some (.ref am),some (.ref fd),some (.ref lI),some (.ref lw),some (.ref up),some (.ref BU),some (.ref BV),some (.int (i:Int)),v11]∧ae H4 Hd) ⟨_,rfl,sc⟩ ?_ ?_
    ·clear sc
     rintro j σ Hc hj ⟨v11,rfl,sc⟩;dsimp only [b6];rw [uh];have S5:=iI.trans sc;have pU:=(fa.mono s4).mono sc;have yW:=fb.mono sc;have gi:=gF gd (show o.idxOf i≤n by have:=idx hi;lia)
     have gj:=gF gd (show o.idxOf j≤n by have:=idx hj;lia)
     have HV:=gF gd (show o.idxOf j+1≤n by have:=idx hj;lia)
     obtain ⟨dz,ez⟩:=hz.mono S5;have D0:eB q i=eB q j:=rfl;have nj:¬q∣jw (bR q n f) o j j:=by unfold jw;rw [←BW hj];exact ju hq HV
     refine bh fun _ hR=>⟨_,rfl,_,rfl,BU,_,_,_,rfl,rfl,.of yW.low.lst,bH hi,_,rfl,RG i,_,_,_,rfl,rfl,.of (yW.low.at' i hi),bH hj,_,rfl,z,dz,_,rfl,ez,fv (by decide +kernel),_,rfl,_,rfl,up,_,_,_,rfl,rfl,.of pU.jx.lst,bH hj,_,rfl,ru j,_,_,_,rfl,rfl,.of (pU.jx.at' j hj),bH hi,_,rfl,_,rfl,up,_,_,_,rfl,rfl,.of pU.jx.lst,bH hj,_,rfl,ru j,_,_,_,rfl,rfl,.of (pU.jx.at' j hj),bH hj,?_⟩
     dsimp only [jQ];show uR t.aP t.gG [.ref z,uf j i,uf j j] _ _ _;refine AE (Y':=_+_) (hz.mono S5) hq (pU.wu j i hj hi) (pU.wu j j hj hj) eO eO nj (Nat.le_add_right _ _) (Nat.le_add_left _ _) fun v6 H6 s6 w6=>?_;obtain ⟨x1,m1,u1,u2⟩:=Fo hq ((yW.wl i j hi hj).mono s6) w6 (Cg.of_eq (by unfold i8 j_ jw mi;rw [((tg (o.idxOf j)).2 gj).2 i j hi hj,((tg (o.idxOf j+1)).2 HV).1,BW hj,D0];grind))
     refine Fq u1 u2 ⟨false,rfl,dY (hR _ _ ?_)⟩;have S6:=S5.trans s6;have tU:=pU.mono s6;have BX:=yW.mono s6;obtain ⟨lD,RI⟩:=hz.mono S6;refine ⟨_,rfl,_,rfl,BV,_,_,_,rfl,rfl,.of BX.jx.lst,bH hi,_,rfl,RH i,_,_,_,rfl,rfl,.of (BX.jx.at' i hi),bH hj,_,rfl,z,lD,_,rfl,RI,fv (by decide +kernel),_,rfl,_,rfl,up,_,_,_,rfl,rfl,.of tU.jx.lst,bH hi,_,rfl,ru i,_,_,_,rfl,rfl,.of (tU.jx.at' i hi),bH hi,_,rfl,_,rfl,lw,_,_,_,rfl,rfl,.of tU.low.lst,bH hj,_,rfl,rl j,_,_,_,rfl,rfl,.of (tU.low.at' j hj),bH hi,?_⟩
     dsimp only [jQ];show iW t.aP (fun x m y n=>x*y) (fun i j=>i*j) [.ref z,uf i i,lf j i] _ _ _;have w1:=tU.wu i i hi hi;have w2:=tU.wl j i hj hi;refine xg (Y':=_+_) (hz.mono S6) hq w1 w2 eO eO (ei hq w1.choose_spec.choose_spec.2.2 w2.choose_spec.choose_spec.2.2) (Nat.le_add_right _ _) (Nat.le_add_left _ _) fun v7 H7 s7 w7=>?_;obtain ⟨x1,m1,u1,u2⟩:=Fo hq ((BX.wu i j hi hj).mono s7) w7 (Cg.of_eq (by unfold i8 j_ jw mi;rw [((tg (o.idxOf i)).2 gi).2 i j hi hj,((tg (o.idxOf i)).2 gi).1,BW hi,D0];grind))
     exact Fq u1 u2 ⟨false,rfl,dY ⟨_,rfl,sc.trans (s6.trans s7)⟩⟩
    ·rintro σ Hd ⟨v11,rfl,sd⟩
     exact ⟨_,_,rfl,sd⟩
   ·rintro σ Hc ⟨v10,v11,rfl,sc⟩
    exact hR _ _ (kk Hc (iI.trans sc))
theorem RJ:a9 ["_law_pen","_law_told","_law_top","_law_bottom"] ["_law_pen","_law_told"] (aJ yd):=bD
theorem RK(T:Txt K mg t):aT P w K mg base bI 3 t.o4 t.r_ ["_law_pen","_law_told"] (O7 K):=by
 have S:=RJ;refine T.tL.b9 S (fun _ _ _ _ H _ _ _ hr h=>?_);obtain ⟨P0,a,td,ns,q,rfl,pc,hS,ht,hq,kk⟩:=h
 refine ⟨_,(ar (b5 (bM hX (aq ba (pv 1) ak) eU) (au (aS (aU (lG T) hr T.kh T.gY.kp T.kg aY (aa (pv 0) (aa (aq ba (pv 1) ak) af))))) cw)
  (ar (Jd (i:=2) (j:=3) rfl S.nd rfl rfl (by decide) rfl rfl (aa (aM qj (aU (lG T) hr T.kh T.gY.kp T.kg aY (aa (pv 0) (aa ak af))) ak) (aa (aM fU ak (aU (lG T) hr T.kh T.gY.kp T.kg aY (aa (pv 0) (aa ak af)))) af)) rfl)
  (ar (b5 (bM hX (aM fW (pv 2) (pv 3)) ak) (au (aS (d7 (aa (aM z6 (pv 2) (pv 3)) (aa ak af))))) cw)
  (au (aS (d7 (aa (pv 2) (aa (pv 3) af)))))))),?_⟩
 unfold jq at ht;by_cases z:q=0
 ·subst z
  rw [El] at ht;refine bh fun _ hR=>⟨_,rfl,td,_,_,_,rfl,rfl,.of (iZ _ _ ht),rfl,rfl,false,by decide +kernel,dY (hR _ _ ?_)⟩
  refine bh fun _ hR=>⟨_,rfl,P0,a,ns,7,rfl,pc,hS,by decide,b7.of_lt (by decide) (by decide),fun r1 H1 RL XR s1 p1=>⟨_,_,rfl,rfl,?_⟩⟩
  refine ⟨_,rfl,P0,a,ns,3,rfl,p1,ae.seq s1 hS,by decide,b7.of_lt (by decide) (by decide),fun r2 H2 RM XS s2 p2=>⟨_,_,rfl,rfl,_,_,rfl,hR _ _ ?_⟩⟩
  have cI:=s1.trans s2;obtain ⟨c,rfl⟩:=jI RL;obtain ⟨d,rfl⟩:=jI RM;have c7:c<7:=by lia
  have d3:d<3:=by lia
  have b0:(0:Int)<1+(d:Int):=by lia
  refine bh fun _ hR=>⟨_,rfl,_,rfl,_,_,rfl,rfl,b0,rfl,_,rfl,cG (fun hb=>?_) (fun hb=>hR _ _ ?_)⟩
  ·have kc:=(Fv c (fD.mpr c7) d (fD.mpr d3)).2
   refine gD ⟨_,rfl,_,rfl,_,_,rfl,rfl,⟨by lia,b7.of_lt (by lia) (by lia)⟩,by show 2≤sizeLine;decide,fun tq pV=>?_⟩
   refine kk _ (((c:Int)-3).fdiv (1+(d:Int))) 1 _ (cI.trans (aX.of (aW pV))) (p2.mono (aW pV)) (bE.A1 (.bK ax ⟨by decide,Int.gcd_one_right _⟩ (by lia) (by decide)) (p2.mono (aW pV))) ⟨fun _=>⟨kc,by decide,by decide⟩,fun e=>absurd rfl e⟩
  ·have Bw:((c:Int)-3) % (1+(d:Int))≠0:=fun e=>hb (by rw [jT];exact cX e)
   obtain ⟨k1,k2⟩:=(Fv c (fD.mpr c7) d (fD.mpr d3)).1 Bw;refine ⟨_,rfl,_,rfl,by show 2≤sizeLine;decide,fun tq pV=>?_⟩
   exact kk _ ((c:Int)-3) (1+(d:Int)) _ (cI.trans (aX.of (aW pV))) (p2.mono (aW pV)) (bE.A1 (.bK ax ⟨by lia,k1⟩ (by lia) (by lia)) (p2.mono (aW pV))) ⟨fun _=>⟨by lia,k2,by lia⟩,fun e=>absurd rfl e⟩
 ·rw [Em z] at ht
  have fZ:2≤q∧q≤997∧gP q=true:=by rcases hq with h | h;exact absurd h z;exact h
  refine bh fun _ hR=>⟨_,rfl,td,_,_,_,rfl,rfl,.of (iZ _ _ ht),rfl,rfl,true,by decide +kernel,iq ?_⟩
  exact ⟨_,rfl,_,rfl,td,_,_,_,rfl,rfl,.of (iZ _ _ ht),rfl,P0,a,ns,q,rfl,pc,hS,by lia,b7.of_lt (by lia) (by lia),fun r H1 r0 r1 s1 p1=>kk _ r 1 H1 s1 p1 (.rem r0 r1 fZ.2.1) ⟨fun e=>absurd e z,fun _=>⟨r0,r1,fZ.2.1,rfl⟩⟩⟩
theorem RN:a9 ["_law_pen","_law_told","_law_size"] ["_law_pen","_law_told","_law_size"] (aJ ye):=bD
theorem HW(T:Txt K mg t):aT P w K mg base bI 4 t.o6 t.se ["_law_pen","_law_told","_law_size"] (O8 K):=by
 have S:=RN;refine T.pG.b9 S (fun _ _ _ _ H _ _ _ hr h=>?_);obtain ⟨P0,a,td,ns,q,n,rfl,pc,hS,ht,hq,dR,kk⟩:=h;refine ⟨_,(au (aS (nE (N:=["_law_k","_law_pen","_law_told"]) (ρ:=(fun σ=>[σ[0]?.join,σ[1]?.join])) (jj [0,1] rfl) rfl (kJ rfl T.gZ (aa (pv 2) af)) (fun _ _ _=>.nil) (fun _ _ _=>(aU (RK T) hr T.GD T.tL.kp T.GC aY (aa (pv 1) (aa (pv 2) af))))))),?_⟩;refine gD (Pa (P:=P0) (a:=a) (n:=n) (fK (by lia)) pc (fun R h=>⟨_,rfl,(n:Int),rfl,by lia,by lia,by rw [fj];exact h⟩) (fun _ i y Hx=>∃p:Int×Int,bE 1000 (er P0 Hx) q y p.1 p.2∧gX q p.1 p.2) (fun D i y Hc H' ys ⟨p,h1,h2⟩ e np k=>⟨p,h1.En e k,h2⟩) (fun D i hi Hc R sc BY _ nD kc=>⟨_,rfl,_,rfl,P0,a,td,ns,q,rfl,BY,ae.seq sc hS,ht.mono sc,hq,fun v x m H' s' p' h1 h2=>kc v H' s' p' ⟨(x,m),h1,h2⟩⟩) fun D ys Hc nP nD sc BY jy mz eD=>?_)
 have ex:∀j,j<n→∃p:Int×Int,bE 1000 (er P0 Hc) q (ys.getD j .aH) p.1 p.2∧gX q p.1 p.2:=fun j hj=>by
  have dP:j<ys.length:=by lia
  rw [getD_at dP];exact mz j _ (d6 dP)
 refine kk D (fun j=>ys.getD j .aH) (fun j=>if h:j<n then (ex j h).choose else (0,1)) Hc sc BY (by rw [jn nP];exact nD) nP ?_ fun j hj=>?_
 ·unfold b_
  rw [nQ nP eD]
  congr 2
  refine fF (by simp [jy]) fun j h1 h2=>?_
  rw [fR,gJ,getD_at h1]
 ·rw [gr hj]
  exact (ex j hj).choose_spec
theorem RO:a9 ["_law_pen"] ["_law_pen"] (aJ yf):=bD
theorem RP(T:Txt K mg t):aT P w K mg base bI 3 t.o7 t.sg ["_law_pen"] (O9 K):=by
 have S:=RO;have RQ:=lG (P:=P) (w:=w) (base:=base) T;refine T.tM.b9 S (fun _ _ _ _ H _ _ _ hr h=>?_);obtain ⟨P0,a,ns,rfl,pc,hS,kk⟩:=h;refine ⟨_,(@au _ _ _ (@aS _ _ _ _ (@DF _ _ _ _ _ _ _ a_ (@lW _ _ _ _ (@fL _ _ _ _ _ (by rfl) (@d7 _ _ _ _ _ (@fL _ _ _ _ _ (by rfl) eU af)) (@fL _ _ _ _ _ (by rfl) (@d7 _ _ _ _ _ (@fL _ _ _ _ _ (by rfl) eU (@fL _ _ _ _ _ (by rfl) ak af))) (@fL _ _ _ _ _ (by rfl) (@d7 _ _ _ _ _ (@fL _ _ _ _ _ (by rfl) eU (@fL _ _ _ _ _ (by rfl) ak af))) (@fL _ _ _ _ _ (by rfl) (@d7 _ _ _ _ _ (@fL _ _ _ _ _ (by rfl) eU (@fL _ _ _ _ _ (by rfl) ak af))) (@fL _ _ _ _ _ (by rfl) (@d7 _ _ _ _ _ (@fL _ _ _ _ _ (by rfl) eU (@fL _ _ _ _ _ (by rfl) ak af))) af)))))) (Dt RQ (hr.mono (by decide)) rfl T.kh T.gY.kp T.kg .nil aY (@fL _ _ _ _ _ (by rfl) (pv 0) (@fL _ _ _ _ _ (by rfl) ak af))) (fun _ _=>rfl)))),?_⟩
 refine gD ?_;refine ⟨by show 1≤sizeLine;decide,fun t1 n1=>?_⟩
 have s1:ae H (upd H t1 (.tup [.str "fractions"])):=aW n1;have e1:upd H t1 (.tup [.str "fractions"]) t1=some (.tup [.str "fractions"]):=ax;generalize upd H t1 (.tup [.str "fractions"])=H1 at s1 e1 ⊢;refine ⟨by show 2≤sizeLine;decide,fun t2 n2=>?_⟩
 have s2:ae H1 (upd H1 t2 (.tup [.str "wheel",.int 2])):=aW n2;have e2:upd H1 t2 (.tup [.str "wheel",.int 2]) t2=some (.tup [.str "wheel",.int 2]):=ax;generalize upd H1 t2 (.tup [.str "wheel",.int 2])=H2 at s2 e2 ⊢;refine ⟨by show 2≤sizeLine;decide,fun t3 n3=>?_⟩
 have s3:ae H2 (upd H2 t3 (.tup [.str "wheel",.int 3])):=aW n3;have e3:upd H2 t3 (.tup [.str "wheel",.int 3]) t3=some (.tup [.str "wheel",.int 3]):=ax;generalize upd H2 t3 (.tup [.str "wheel",.int 3])=H3 at s3 e3 ⊢;refine ⟨by show 2≤sizeLine;decide,fun t4 n4=>?_⟩
 have s4:ae H3 (upd H3 t4 (.tup [.str "wheel",.int 5])):=aW n4;have e4:upd H3 t4 (.tup [.str "wheel",.int 5]) t4=some (.tup [.str "wheel",.int 5]):=ax;generalize upd H3 t4 (.tup [.str "wheel",.int 5])=H4 at s4 e4 ⊢;refine ⟨by show 2≤sizeLine;decide,fun t5 n5=>?_⟩
 have s5:ae H4 (upd H4 t5 (.tup [.str "wheel",.int 97])):=aW n5;have e5:upd H4 t5 (.tup [.str "wheel",.int 97]) t5=some (.tup [.str "wheel",.int 97]):=ax;generalize upd H4 t5 (.tup [.str "wheel",.int 97])=H5 at s5 e5 ⊢;refine ⟨by show 5≤sizeLine;decide,fun l nl=>?_⟩
 have s6:ae H5 (upd H5 l (.lst [.ref t1,.ref t2,.ref t3,.ref t4,.ref t5])):=aW nl;have e6:upd H5 l (.lst [.ref t1,.ref t2,.ref t3,.ref t4,.ref t5]) l=some (.lst [.ref t1,.ref t2,.ref t3,.ref t4,.ref t5]):=ax;generalize upd H5 l (.lst [.ref t1,.ref t2,.ref t3,.ref t4,.ref t5])=H6 at s6 e6 ⊢;have HX:=s2.trans (s3.trans (s4.trans (s5.trans s6)));have BZ:=s1.trans HX;have p6:=pc.mono BZ;have RR:l≠P0:=fun z=>by obtain ⟨x,y,eP,_⟩:=p6;rw [z] at e6;rw [e6] at eP;cases eP
 refine ⟨_,rfl,P0,a,ns,5,rfl,p6,ae.seq (aX.of BZ) hS,by decide,b7.of_lt (by decide) (by decide),fun c H7 c0 c1 s7 p7=>?_⟩
 have e7:=s7.at RR e6;have sT:aX P0 H H7:=(aX.of BZ).trans s7;have yX:∀{tt:Addr} {q:Int},H6 tt=some (.tup [.str "wheel",.int q])→q≠0→jq (er P0 H7) tt q:=fun{tt q} e z=>by unfold jq;rw [Em z];exact s7 _ _ (ED p6 e)
 obtain ⟨c,rfl⟩:=jI c0
 match c,c1 with
 | 0,_=>exact ⟨l,_,_,.ref t1,rfl,rfl,.of e7,rfl,kk t1 0 H7 sT p7 (by unfold jq;rw [El];exact s7 _ _ (ED p6 (HX _ _ e1))) (.inl rfl)⟩
 | 1,_=>exact ⟨l,_,_,.ref t2,rfl,rfl,.of e7,rfl,kk t2 2 H7 sT p7 (yX ((s3.trans (s4.trans (s5.trans s6))) _ _ e2) (by decide)) (by unfold a7;decide +kernel)⟩
 | 2,_=>exact ⟨l,_,_,.ref t3,rfl,rfl,.of e7,rfl,kk t3 3 H7 sT p7 (yX ((s4.trans (s5.trans s6)) _ _ e3) (by decide)) (by unfold a7;decide +kernel)⟩
 | 3,_=>exact ⟨l,_,_,.ref t4,rfl,rfl,.of e7,rfl,kk t4 5 H7 sT p7 (yX ((s5.trans s6) _ _ e4) (by decide)) (by unfold a7;decide +kernel)⟩
 | 4,_=>exact ⟨l,_,_,.ref t5,rfl,rfl,.of e7,rfl,kk t5 97 H7 sT p7 (yX (s6 _ _ e5) (by decide)) (by unfold a7;decide +kernel)⟩
 | c+5,c1=>lia
theorem RS:a9 ["script","_law_pen","_law_k","_law_told","_law_world","_law_size","_law_table","_law_turn","_law_aim"] ["script"] (aJ yi):=bD
theorem RT(T:Txt K mg t):aT P w K mg base bI 12 t.mr t.o_ ["script"] (wJ K):=by
 have S:=RS;have RU:=PF (P:=P) (w:=w) (base:=base) T;have iE:=tS (P:=P) (w:=w) (base:=base) T;obtain ⟨dv,iF,iG⟩:=T.pI;refine T.tO.b9 S (fun _ _ _ s H _ _ _ hr h=>?_);obtain ⟨a,ns,rfl,hS,hlen,kQ⟩:=h;have mB:=hr.units;have hu:=hr.wm
 refine ⟨_,(ar (nH 1 S.nd (lW (aa (pv 0) (aa ak (aa ak af)))))
  (ar (fo dU rfl (kJ rfl T.gZ (aa ak af)) (cA (i:=2) S.nd rfl (Or.inl rfl))
   (ar (nH 3 S.nd (aU (RP T) hr T.GG T.tM.kp T.GF aY (aa (pv 1) af)))
  (ar (putL 4 S.nd (J6 T.yt RU (hr.mono (by decide)) rfl T.GN T.GK .nil gA (aa (pv 3) af)))
  (ar (nH 5 S.nd (aM fU ak (aU (lG T) hr T.kh T.gY.kp T.kg aY (aa (pv 1) (aa ak af)))))
  (ar (wO (i0:=6) (N:=["_law_i","_law_pen","_law_told","_law_size"]) (ρ:=(fun σ=>[σ[1]?.join,σ[3]?.join,σ[5]?.join])) (jj [1,3,5] rfl) rfl S.nd rfl (Or.inl rfl) (kJ rfl T.gZ (aa (pv 5) af)) (fun _ _ _=>.nil) (fun _ _ _=>(aU (HW T) hr T.Bj T.pG.kp T.Bi aY (aa (pv 1) (aa (pv 2) (aa (pv 3) af))))))
  (ar (fo dU rfl (kJ rfl T.gZ (aa (aU (lG T) hr T.kh T.gY.kp T.kg aY (aa (pv 1) (aa ak af))) af)) (cA (i:=7) S.nd rfl (Or.inl rfl))
   (au (@gs _ _ _ _ _ _ (fq (pv 4) T.cH T.lx iE (hr.mono (by decide)) iG iF gA (aa ak af)) (hV (aq a_ (pv 6) (aU (lG T) hr T.kh T.gY.kp T.kg aY (aa (pv 1) (aa (pv 5) af)))) (aU (lG T) hr T.kh T.gY.kp T.kg aY (aa (pv 1) (aa (pv 5) af))) set_list) (by rfl) (by rfl) (by rfl))))
  (ar (putL 8 S.nd (aU (HW T) hr T.Bj T.pG.kp T.Bi aY (aa (pv 1) (aa (pv 3) (aa (pv 5) af)))))
  (au (fo dU rfl (kJ rfl T.gZ (aa ak af)) (cA (i:=7) S.nd rfl (Or.inl rfl))
   (au (b5 (uy (lQ (aU (RB T) hr T.GI T.tN.kp T.GH aY (aa (pv 4) (aa (pv 6) (aa (aU (Ru T) hr T.GB T.tK.kp T.GA aY (aa (pv 1) (aa (ji (z8 rfl) rfl T.lA boot_list (aa (ji z7 rfl T.gZ z9 (aa (pv 5) af)) af)) af))) (aa (pv 8) af))))))) (au (aS hU)) cw)))))))))))
  (au (aS hU)))),?_⟩
 refine bh fun _ hR=>bV ⟨_,rfl,by show 3≤sizeLine;decide,fun P0 nP=>hR _ _ ?_⟩
 have p0:cj (upd H P0 (.lst [.ref a,.int 0,.int 0])) P0 a:=⟨0,0,ax,by decide,by decide⟩
 have HY:bC K (er P0 (upd H P0 (.lst [.ref a,.int 0,.int 0]))) a (ns.map V.int):=by rw [Ek];exact ae.seq (fun b o e=>nQ (fT e nP) e) hS
 generalize upd H P0 (.lst [.ref a,.int 0,.int 0])=H0 at p0 HY ⊢;refine bh fun _ hR=>⟨3,rfl,by decide,by decide,?_⟩
 refine qi (fun i σ Hc=>∃(v:Nat→Option V),σ=[some (.ref a),some (.ref P0),v 2,v 3,v 4,v 5,v 6,v 7,v 8]∧aX P0 H0 Hc∧cj Hc P0 a) ⟨fun _=>none,rfl,aX.refl _,p0⟩ ?_ ?_
 ·rintro i σ Hc hi ⟨v,rfl,sT,pc⟩
  have HZ:bC K (er P0 Hc) a (ns.map V.int):=ae.seq sT HY;dsimp only [b6];refine bh fun _ hR=>bV ⟨_,rfl,P0,a,ns,rfl,pc,HZ,fun td q H1 s1 p1 tw hq=>hR _ _ ?_⟩;refine bh fun _ hR=>bV ⟨_,rfl,fun z dz nz H_ ne=>⟨z,dz,td,jo q,rfl,ax,?_,fun _=>⟨rfl,hR _ _ ?_⟩,fun hg=>absurd ((MR hq).symm.trans hg) (by decide)⟩⟩
  ·have e:=iZ _ _ tw
   rw [aN (fT e nz),aN (fT e H_)];exact e
  have s2:ae H1 (upd (upd (upd H1 dz (.own z)) z (.ins t.aP dz [])) z (.ins t.aP dz [("prime",(jo q).prime)])):=fun b o e=>by rw [aN (fT e nz),aN (fT e nz),aN (fT e H_)];exact e
  have hz:cZ t.aP (upd (upd (upd H1 dz (.own z)) z (.ins t.aP dz [])) z (.ins t.aP dz [("prime",(jo q).prime)])) z q:=⟨dz,by rw [ax,Nf]⟩
  generalize (upd (upd (upd H1 dz (.own z)) z (.ins t.aP dz [])) z (.ins t.aP dz [("prime",(jo q).prime)]))=H2 at s2 hz ⊢;have p2:=p1.mono s2;have B0:=aX.of (P:=P0) s2;have RV:z≠P0:=fun e=>by obtain ⟨x,y,eP,_⟩:=p2;obtain ⟨d',ez⟩:=hz;rw [e,eP] at ez;cases ez
  have zE:∀{Hx:Hp},aX P0 H2 Hx→cZ t.aP Hx z q:=fun{Hx} s=>let ⟨d',ez⟩:=hz;⟨d',s.at RV ez⟩
  have vA:=ae.seq (s1.trans B0) HZ;refine bh fun _ hR=>bV ⟨_,rfl,P0,a,ns,5,rfl,p2,vA,by decide,b7.of_lt (by decide) (by decide),fun r H3 r0 r5 s3 p3=>⟨_,_,rfl,rfl,hR _ _ ?_⟩⟩
  obtain ⟨d,rfl⟩:=jI r0;obtain ⟨n,en⟩:∃n,n=1+d:=⟨_,rfl⟩;have eI:(1:Int)+(d:Int)=(n:Int):=by lia
  simp only [List.set_cons_zero,List.set_cons_succ];rw [eI];have tw2:jq (er P0 H2) td q:=tw.mono B0;have tw3:=tw2.mono s3;have dh:=ae.seq s3 vA;refine bh fun _ hR=>bV (Pb (P:=P0) (a:=a) (n:=n) (fK (by lia)) p3 (fun R h=>⟨_,rfl,(n:Int),rfl,by lia,by lia,by rw [fj];exact h⟩) (fun _ i y Hx=>(∃(lv:Nat→V) (f:Nat→Int×Int),b_ (er P0 Hx) y n lv∧∀j,j<n→bE 1000 (er P0 Hx) q (lv j) (f j).1 (f j).2∧gX q (f j).1 (f j).2)∧H3 y=none) (fun D i y Ha Hb ys ⟨⟨lv,f,h1,h2⟩,h3⟩ yD yP e DP k=>⟨⟨lv,f,?_,fun j hj=>⟨(h2 j hj).1.En e k,(h2 j hj).2⟩⟩,h3⟩) (fun D i hi Hx R sx px _ DP kc=>⟨_,rfl,_,rfl,_,rfl,P0,a,td,ns,q,n,rfl,px,ae.seq sx dh,tw3.mono sx,hq,by lia,fun r lv f H' s' p' nr rP h1 h2=>kc r H' s' p' nr rP ⟨_,iZ _ _ h1⟩ ⟨⟨lv,f,h1,h2⟩,by have:=none_of sx nr;rwa [jn rP] at this⟩⟩) ?_)
  ·unfold b_ at h1 ⊢
   rw [jn yP] at h1 ⊢;exact k _ _ yD yP h1
  intro tab rs H4 RW XT s4 p4 inj hA Ia;refine hR _ _ ?_;have row:∃(vf:Nat→Nat→V) (f:Nat→Nat→Int×Int),∀i,i<n→b_ (er P0 H4) (rs i) n (vf i)∧∀j,j<n→bE 1000 (er P0 H4) q (vf i j) (f i j).1 (f i j).2∧gX q (f i j).1 (f i j).2:=⟨fun i=>if h:i<n then (hA i h).1.1.choose else fun _=>.aH,fun i=>if h:i<n then (hA i h).1.1.choose_spec.choose else fun _=>(0,1),fun i hi=>by dsimp only;rw [gr hi,gr hi];exact (hA i hi).1.1.choose_spec.choose_spec⟩
  obtain ⟨vf,f,hv⟩:=row;have W4:mq (er P0 H4) q tab n rs vf f:=⟨⟨nQ RW Ia,inj,fun i hi=>(hA i hi).2.1,fun i hi=>(hv i hi).1⟩,fun i j hi hj=>(hv i hi).2 j hj⟩;have Ib:∀i,i<n→rs i≠P0:=fun i hi=>(hA i hi).2.2;have RX:∀i,i<n→H3 (rs i)=none:=fun i hi=>(hA i hi).1.2;clear hv hA inj Ia;have XU:=s3.trans s4;have RY:=ae.seq s4 dh;have nv:=qB hq;refine bh fun _ hR=>⟨_,rfl,P0,a,ns,5,rfl,p4,RY,by decide,b7.of_lt (by decide) (by decide),fun r5 H5 RZ XW s5 p5=>⟨r5,rfl,by lia,by lia,?_⟩⟩
  obtain ⟨m5,rfl⟩:=jI RZ;rw [fj];refine qi (fun k σ Hd=>∃(v7:Option V) (vf:Nat→Nat→V) (f:Nat→Nat→Int×Int),σ=[some (.ref a),some (.ref P0),some (.int (0+(i:Int))),some (.ref td),some (.ref z),some (.int (n:Int)),some (.ref tab),v7,v 8]∧aX P0 H3 Hd∧cj Hd P0 a∧mq (er P0 Hd) q tab n rs vf f) ⟨_,vf,f,rfl,s4.trans s5,p5,W4.mono s5⟩ ?_ ?_
  ·rintro k σ Hd hk ⟨v7,vf,f,rfl,sd,pd,Wd⟩
   dsimp only [b6];obtain ⟨lD,ez⟩:=zE (s3.trans sd);have ez:=ez;refine bV ⟨_,rfl,z,lD,_,rfl,ez,fv (by decide +kernel),z,q,0,1,rfl,⟨lD,ez⟩,hq,b7.of_lt (by decide) (by decide),fun h=>absurd h nv,fun _ v0 H6 s6 lE=>?_⟩
   have h0:=ma (B:=1000) (by decide) lE hq (.inl rfl)
   have p6:=pd.mono s6;have yY:=aX.of (P:=P0) s6;refine ⟨_,rfl,_,rfl,_,rfl,P0,a,ns,n,rfl,p6,ae.seq (sd.trans yY) dh,by lia,b7.of_lt (by lia) (by lia),fun ri H7 R0 XY s7 p7=>?_⟩
   obtain ⟨i7,rfl⟩:=jI R0;have tV:i7<n:=by lia
   have W7:=(Wd.mono yY).mono s7;refine ⟨tab,_,_,_,rfl,rfl,.of (iZ _ _ W7.tab.lst),bH tV,_,rfl,_,rfl,P0,a,ns,n,rfl,p7,ae.seq (sd.trans (yY.trans s7)) dh,by lia,b7.of_lt (by lia) (by lia),fun rj H8 R1 XZ s8 p8=>?_⟩
   obtain ⟨j8,rfl⟩:=jI R1;have R3:j8<n:=by lia
   have W8:=W7.mono s8;have h8:=((h0.A1 p6).mono s7).mono s8;refine ⟨rs i7,_,_,j8,rfl,rfl,iZ _ _ (W8.tab.at' i7 tV),by rw [a8,dH];exact j6 R3,?_⟩
   have W9:=W8.put (j:=j8) tV h8 (Pd hq);rw [←Pc (Ib i7 tV)] at W9;exact ⟨_,_,_,rfl,(sd.trans (yY.trans (s7.trans s8))).but (RX i7 tV),p8.upd (Ib i7 tV),W9⟩
  ·rintro σ H6 ⟨v7,vf,f,rfl,s6,p6,W6⟩
   refine hR _ _ ?_;have Ic:=ae.seq s6 dh;refine bh fun _ hR=>bV ⟨_,rfl,_,rfl,_,rfl,P0,a,td,ns,q,n,rfl,p6,Ic,tw3.mono s6,hq,by lia,fun am av fa H7 s7 p7 X0 X2 ea na=>hR _ _ ?_⟩
   have W7:=W6.mono s7;refine ⟨2,rfl,by decide,by decide,?_⟩
   refine qi (fun k σ Hd=>∃(v7:Option V),σ=[some (.ref a),some (.ref P0),some (.int (0+(i:Int))),some (.ref td),some (.ref z),some (.int (n:Int)),some (.ref tab),v7,some (.ref am)]∧aX P0 H7 Hd∧cj Hd P0 a) ⟨_,rfl,aX.refl _,p7⟩ ?_ ?_
   ·rintro k σ Hd hk ⟨v7,rfl,sd,pd⟩
    dsimp only [b6];refine ⟨_,rfl,_,rfl,_,rfl,_,rfl,(n:Int),rfl,fun p1 mC=>⟨p1,n,rfl,ax,by lia,fun l nl=>?_⟩⟩
    have s8:ae Hd (upd (upd Hd p1 (.g_ 0 (n:Int))) l (.lst (eZ n))):=(aW mC).trans (aW nl);have el:upd (upd Hd p1 (.g_ 0 (n:Int))) l (.lst (eZ n)) l=some (.lst (eZ n)):=ax;have lP:l≠P0:=(pd.mono (aW mC)).ne nl;generalize upd (upd Hd p1 (.g_ 0 (n:Int))) l (.lst (eZ n))=H8 at s8 el ⊢;have Ie:=aX.of (P:=P0) s8;have p8:=pd.mono s8;refine ⟨P0,a,l,ns,eZ n,rfl,p8,ae.seq (s7.trans (sd.trans Ie)) Ic,lP,el,by unfold eZ;simp;lia,fun od ys H9 s9 p9 X3 X4 R4 pm=>?_⟩
    obtain ⟨o,rfl,ho⟩:=N9 pm;have vC:=sd.trans (Ie.trans s9);have W9:=W7.mono vC;have R5:fA H9 q tab od am n o rs vf av (fun i j=>if j<n then f i j else fa i):=⟨W9.tab.mono iZ,R4,ho,iZ _ _ (vC _ _ ea),fun i j hi hj=>by rw [ao hj];exact ((W9.num i j hi hj).1).mono iZ,fun i hi=>by rw [ah (by lia)];exact ((na i hi).1.mono vC).mono iZ,fun i j hi hj=>by
     split
     ·rename_i h
      exact (W9.num i j hi h).2
     ·exact (na i hi).2⟩
    refine ⟨_,rfl,z,tab,od,am,q,n,o,rs,vf,av,_,rfl,zE (s3.trans (s6.trans (s7.trans vC))),hq,by lia,by lia,R5,fun X5 Ig=>⟨true,rfl,dY ⟨_,rfl,vC.trans (aX.of Ig),p9.mono Ig⟩⟩⟩
   ·rintro σ Hd ⟨v7,rfl,sd,pd⟩
    exact ⟨fun k=>List.getD [none,none,_,_,_,_,_,_,_] k none,rfl,sT.trans (s1.trans (B0.trans (s3.trans (s6.trans (s7.trans sd))))),pd⟩
 ·rintro σ Hc ⟨v,rfl,sT,pc⟩
  exact hR _ _ (kQ _)
theorem R6{l:PySem.W.OpenLaw}(T:Txt K mg t):∃fd:FuncData,(∀(s:Shared) (v:Value),BindsTo s fd ⟨[v],[]⟩ [("script",v)])∧∀base:Heap,K.In base→base.Ns mainGlobals mg→aT l.prog w K mg base bI 12 t.mr fd ["script"] (wJ K):=by obtain ⟨oc,od,kV,doc,pm,an,aR,ct,eV,e,lk,eS⟩:=T.tO.ex;refine ⟨t.o_,fun s v=>?_,fun base _ _=>RT T⟩;rw [e];exact .of_eq rfl
end
theorem walk{l:PySem.W.OpenLaw}{q:Program}{loose:List Str}{XP:(Str→Option Value)→Heap→Prop}{YP:World→Heap→Prop}{d:DefRec}{K:Params→PySem.W.Frag}(hn:l.most=some 63)(uI:d.params.defaults=[])
  (hY:∀(w:World) (h:Heap),YP w h→(K w.params).In h)
  (F:∀(w:World) (mg:cJ) (fa:Addr) (h:Heap),(K w.params).In h→h.Ns mainGlobals mg→mg d.name=some (.ref fa)→
   ∃fd:FuncData,(∀(s:Shared) (u:Value),BindsTo s fd ⟨[u],[]⟩ [("script",u)])∧∀base:Heap,(K w.params).In base→base.Ns mainGlobals mg→aT l.prog w (K w.params) mg base bI 12 fa fd ["script"] (wJ (K w.params))) :
  PySem.W.WalkO q loose XP YP l.row.toRowW d [] (fun f vs=>PySem.call f vs):=
 L2.Lc (n:=63) (k:=12) (x:="script") (CX:=fun _=>bI) (sp:=fun w=>wJ (K w.params)) hn (by decide) uI ⟨rfl,by decide,by decide⟩ hY F (fun _ _ a ns hl _ hS=>⟨a,ns,rfl,hS,hl,fun _=>rfl⟩) fun _ _ _ _ _ z=>z
theorem R7{K:ay}{h:Heap}{mg:cJ}(X:K.In h)(G:h.Ns mainGlobals mg)
  {aP:Addr}
  {pj:Addr}
  {gG:Addr}
  {ke:Addr}
  {lq:Addr}
  {lh:Addr} {R8 Ih:Option Addr} {R9:Array (Option Value)} {R_ Ii Ij Ik B1 Il:Value}
  {B2:Addr} {Sa:Tok} {Sb:Value} {Sd:Option Addr} {Se:Nat} {Sf:Array (Option Value)}
  {Sg:Tok}
  {Sh:Tok}
  {n8 n_ oa og qY oh oi oj om oo oq ou ox oy oz oA oB oC oE oF oG oH oI oJ oK oM oN oO oP oQ oR oS oT oU oV oW oX oY oZ o4 o6 o7 o8 o9 mr pb sq pe pf ph:Addr} {qU qV qW qX u_ qZ q5 q8 q_ rb rd rf rg rh rn rq rz rA rB rC rD rE rF rH rJ rK rM rN rO rQ rR rT rV rW rX rY rZ r6 r9 r_ se sg si sj o_ sk vb su sv sA:FuncData}
  (B3:PySem.W.nsIn K mainGlobals "World"=some (some (.ref aP)))
  (B4:PySem.W.nsIn K mainGlobals "NoWorld"=some (some (.ref pj)))
  (B5:PySem.W.nsIn K mainGlobals "NoOver"=some (some (.ref gG)))
  (B6:PySem.W.nsIn K mainGlobals "NoFit"=some (some (.ref ke)))
  (B7:PySem.W.nsIn K mainGlobals "NoOrder"=some (some (.ref lq)))
  (Si:mg "width"=some (.ref n8))
  (sC:aC K "width" xw n8 qU)
  (Sj:mg "square_size"=some (.ref n_))
  (sD:aC K "square_size" xx n_ qV)
  (Sk:mg "check_aim"=some (.ref oa))
  (sE:aC K "check_aim" xy oa qW)
  (Sl:mg "is_whole"=some (.ref og))
  (pq:aC K "is_whole" xA og qX)
  (Sm:mg "shortened"=some (.ref qY))
  (yp:aC K "shortened" A2 qY u_)
  (Sn:mg "common_divisor"=some (.ref oh))
  (kf:aC K "common_divisor" xB oh qZ)
  (So:mg "is_prime"=some (.ref oi))
  (sI:aC K "is_prime" xC oi q5)
  (Sq:mg "links_of_place"=some (.ref oj))
  (sJ:aC K "links_of_place" xD oj q8)
  (Sr:mg "shape_of"=some (.ref om))
  (sM:aC K "shape_of" xE om q_)
  (Ss:mg "neighbours"=some (.ref oo))
  (sN:aC K "neighbours" xF oo rb)
  (Su:mg "is_order"=some (.ref oq))
  (sO:aC K "is_order" xG oq rd)
  (Sv:mg "check_order"=some (.ref ou))
  (sP:aC K "check_order" xH ou rf)
  (Sx:mg "turns_of"=some (.ref ox))
  (pz:aC K "turns_of" xI ox rg)
  (Sy:mg "link_all"=some (.ref oy))
  (sQ:aC K "link_all" xJ oy rh)
  (Sz:mg "later"=some (.ref oz))
  (sR:aC K "later" xK oz rn)
  (SA:mg "place_deeds"=some (.ref oA))
  (sS:aC K "place_deeds" xM oA rq)
  (SD:mg "undo_place"=some (.ref oB))
  (sV:aC K "undo_place" xN oB rz)
  (SE:mg "packed"=some (.ref oC))
  (pA:aC K "packed" xO oC rA)
  (SF:mg "lower_row"=some (.ref oE))
  (sX:aC K "lower_row" xP oE rB)
  (SG:mg "upper_row"=some (.ref oF))
  (sY:aC K "upper_row" xQ oF rC)
  (SH:mg "lower_of"=some (.ref oG))
  (sZ:aC K "lower_of" xR oG rD)
  (SI:mg "upper_of"=some (.ref oH))
  (s_:aC K "upper_of" xS oH rE)
  (SJ:mg "factors"=some (.ref oI))
  (pB:aC K "factors" xT oI rF)
  (SK:mg "lowered"=some (.ref oJ))
  (tf:aC K "lowered" xU oJ rH)
  (SM:mg "raised"=some (.ref oK))
  (pD:aC K "raised" xV oK rJ)
  (SN:mg "tied_move"=some (.ref oM))
  (tj:aC K "tied_move" xW oM rK)
  (SO:mg "along"=some (.ref oN))
  (pE:aC K "along" xX oN rM)
  (SQ:mg "ratio"=some (.ref oO))
  (tu:aC K "ratio" xY oO rN)
  (SR:mg "ratio_plus"=some (.ref oP))
  (tD:aC K "ratio_plus" xZ oP rO)
  (SS:mg "ratio_minus"=some (.ref oQ))
  (tE:aC K "ratio_minus" x3 oQ rQ)
  (SU:mg "ratio_times"=some (.ref oR))
  (mw:aC K "ratio_times" x4 oR rR)
  (SV:mg "ratio_over"=some (.ref oS))
  (tF:aC K "ratio_over" x5 oS rT)
  (SW:mg "remainder_back"=some (.ref oT))
  (tG:aC K "remainder_back" x6 oT rV)
  (SX:mg "remainder_over"=some (.ref oU))
  (pF:aC K "remainder_over" x8 oU rW)
  (SY:mg "is_fractions"=some (.ref oV))
  (tH:aC K "is_fractions" x9 oV rX)
  (S0:mg "is_wheel"=some (.ref oW))
  (tI:aC K "is_wheel" x_ oW rY)
  (S1:mg "_law_fill"=some (.ref oX))
  (tJ:aC K "_law_fill" ya oX rZ)
  (S3:mg "_law_next"=some (.ref oY))
  (gY:aC K "_law_next" yb oY r6)
  (S4:mg "_law_turned"=some (.ref oZ))
  (tK:aC K "_law_turned" yc oZ r9)
  (S7:mg "_law_number"=some (.ref o4))
  (tL:aC K "_law_number" yd o4 r_)
  (S8:mg "_law_row"=some (.ref o6))
  (pG:aC K "_law_row" ye o6 se)
  (S9:mg "_law_told_world"=some (.ref o7))
  (tM:aC K "_law_told_world" yf o7 sg)
  (S_:mg "_law_about"=some (.ref o8))
  (pH:aC K "_law_about" yg o8 si)
  (Ta:mg "_law_right"=some (.ref o9))
  (tN:aC K "_law_right" yh o9 sj)
  (Tb:mg "law"=some (.ref mr))
  (tO:aC K "law" yi mr o_)
  (yt:Mk K aP pb)
  (vc:dC K "__init__" "World.__init__" yj pb sk)
  (B8:PySem.W.findIn K (.ref aP) "of"=some (some (.ref lh)))
  (B9:PySem.W.isFn K (.ref lh)=true)
  (tW:K.lookup lh=some ⟨R_,R8,.func (PySem.W.fnOf "of" "World.of" (ig i9) (ft i9) (aJ i9) (.ref B2) Ii Ij Ik Ih B1 Il),R9⟩)
  (tX:PySem.W.codeIn K B1 "World.of"=true)
  (pW:PySem.W.keepIn K (.ref lh)=true)
  (tY:K.lookup B2=some ⟨Sb,Sd,.seq #[.int 1 Sa] Se,Sf⟩)
  (Bm:Meth K aP "plus" sq)
  (yu:dC K "plus" "World.plus" A3 sq vb)
  (tP:Meth K aP "minus" pe)
  (vd:dC K "minus" "World.minus" yk pe su)
  (pJ:Meth K aP "times" pf)
  (ve:dC K "times" "World.times" yl pf sv)
  (tQ:Meth K aP "over" ph)
  (vh:dC K "over" "World.over" ym ph sA)
  (B_:PySem.W.plainGet K aP Str.empty=true)
  (Ca:PySem.W.hasDictIn K aP=true)
  (Cb:PySem.W.plainOver K aP=true)
  (Cc:PySem.W.findIn K (.ref aP) "__setattr__"=some (some (.builtin "object.__setattr__")))
  (Cd:PySem.W.findIn K (.ref aP) "prime"=some none)
  (Ce:PySem.W.nsIn K mainGlobals "ValueError"=some none)
  (Cf:PySem.W.nsIn K mainGlobals "abs"=some none)
  (Ci:PySem.W.nsIn K mainGlobals "all"=some none)
  (Cj:PySem.W.nsIn K mainGlobals "any"=some none)
  (Ck:PySem.W.nsIn K mainGlobals "bool"=some none)
  (Cm:PySem.W.nsIn K mainGlobals "enumerate"=some none)
  (Cn:PySem.W.nsIn K mainGlobals "int"=some none)
  (Co:PySem.W.nsIn K mainGlobals "isinstance"=some none)
  (Cp:PySem.W.nsIn K mainGlobals "len"=some none)
  (Cq:PySem.W.nsIn K mainGlobals "list"=some none)
  (Cr:PySem.W.nsIn K mainGlobals "max"=some none)
  (Cs:PySem.W.nsIn K mainGlobals "min"=some none)
  (Ct:PySem.W.nsIn K mainGlobals "range"=some none)
  (Cu:PySem.W.nsIn K mainGlobals "reversed"=some none)
  (Cv:PySem.W.nsIn K mainGlobals "sorted"=some none)
  (Cw:PySem.W.nsIn K mainGlobals "sum"=some none)
  (Cy:PySem.W.nsIn K mainGlobals "tuple"=some none)
  (Cz:PySem.W.nsIn K mainGlobals "zip"=some none)
  (CA:PySem.W.nsIn K mainGlobals "GREATEST_PRIME"=some (some (.int 997 Sg)))
  (CB:PySem.W.nsIn K mainGlobals "LONG"=some (some (.int 2048 Sh)))
  (CD:PySem.W.excIn K pj [.type "ValueError",.type "Exception",.type "BaseException",.type "object"] "ValueError.__new__"=true)
  (CF:PySem.W.excIn K gG [.type "ValueError",.type "Exception",.type "BaseException",.type "object"] "ValueError.__new__"=true)
  (CG:PySem.W.excIn K ke [.type "ValueError",.type "Exception",.type "BaseException",.type "object"] "ValueError.__new__"=true)
  (CH:PySem.W.excIn K lq [.type "ValueError",.type "Exception",.type "BaseException",.type "object"] "ValueError.__new__"=true)
  : ∃t:A4,Txt K mg t:=by
 refine ⟨⟨n8,qU,n_,qV,oa,qW,og,qX,qY,u_,oh,qZ,oi,q5,oj,q8,om,q_,oo,rb,oq,rd,ou,rf,ox,rg,oy,rh,oz,rn,oA,rq,oB,rz,oC,rA,oE,rB,oF,rC,oG,rD,oH,rE,oI,rF,oJ,rH,oK,rJ,oM,rK,oN,rM,oO,rN,oP,rO,oQ,rQ,oR,rR,oS,rT,oT,rV,oU,rW,oV,rX,oW,rY,oX,rZ,oY,r6,oZ,r9,o4,r_,o6,se,o7,sg,o8,si,o9,sj,mr,o_,pb,sk,lh,PySem.W.fnOf "of" "World.of" (ig i9) (ft i9) (aJ i9) (.ref B2) Ii Ij Ik Ih B1 Il,sq,vb,pe,su,pf,sv,ph,sA,aP,pj,gG,ke,lq⟩,?_⟩
 exact {
  sC:=sC
  Fw:=sC.bq
  Fx:=Si
  sD:=sD
  Fy:=sD.bq
  Fz:=Sj
  sE:=sE
  FA:=sE.bq
  FC:=Sk
  pq:=pq
  A5:=pq.bq
  A6:=Sl
  yp:=yp
  Pe:=yp.bq
  Pf:=Sm
  kf:=kf
  sF:=kf.bq
  sG:=Sn
  sI:=sI
  FD:=sI.bq
  FE:=So
  sJ:=sJ
  FF:=sJ.bq
  FG:=Sq
  sM:=sM
  FH:=sM.bq
  FI:=Sr
  sN:=sN
  FJ:=sN.bq
  FK:=Ss
  sO:=sO
  FL:=sO.bq
  FN:=Su
  sP:=sP
  FO:=sP.bq
  FP:=Sv
  pz:=pz
  A7:=pz.bq
  A8:=Sx
  sQ:=sQ
  FQ:=sQ.bq
  FR:=Sy
  sR:=sR
  FT:=sR.bq
  FU:=Sz
  sS:=sS
  FV:=sS.bq
  FW:=SA
  sV:=sV
  FX:=sV.bq
  FY:=SD
  pA:=pA
  A9:=pA.bq
  A_:=SE
  sX:=sX
  FZ:=sX.bq
  F0:=SF
  sY:=sY
  F5:=sY.bq
  F8:=SG
  sZ:=sZ
  F9:=sZ.bq
  F_:=SH
  s_:=s_
  Ga:=s_.bq
  Gb:=SI
  pB:=pB
  Ba:=pB.bq
  Bb:=SJ
  tf:=tf
  Gd:=tf.bq
  Ge:=SK
  pD:=pD
  Bc:=pD.bq
  Bd:=SM
  tj:=tj
  Gf:=tj.bq
  Gg:=SN
  pE:=pE
  Be:=pE.bq
  Bf:=SO
  tu:=tu
  Gh:=tu.bq
  Gi:=SQ
  tD:=tD
  Gj:=tD.bq
  Gk:=SR
  tE:=tE
  Gm:=tE.bq
  Gn:=SS
  mw:=mw
  yq:=mw.bq
  yr:=SU
  tF:=tF
  Gp:=tF.bq
  Gq:=SV
  tG:=tG
  Gr:=tG.bq
  Gs:=SW
  pF:=pF
  Bg:=pF.bq
  Bh:=SX
  tH:=tH
  Gu:=tH.bq
  Gv:=SY
  tI:=tI
  Gw:=tI.bq
  Gx:=S0
  tJ:=tJ
  Gy:=tJ.bq
  Gz:=S1
  gY:=gY
  kg:=gY.bq
  kh:=S3
  tK:=tK
  GA:=tK.bq
  GB:=S4
  tL:=tL
  GC:=tL.bq
  GD:=S7
  pG:=pG
  Bi:=pG.bq
  Bj:=S8
  tM:=tM
  GF:=tM.bq
  GG:=S9
  pH:=pH
  Bk:=pH.bq
  Bl:=S_
  tN:=tN
  GH:=tN.bq
  GI:=Ta
  tO:=tO
  Pg:=tO.bq
  GJ:=Tb
  vc:=vc
  GK:=vc.bq
  yt:=yt
  GL:=(wM (st:=i9) (i:=1) tW tX pW tY)
  Ph:=iw.binds (ps:=["self","top","bottom"]) (wM (st:=i9) (i:=1) tW tX pW tY) fun s dT kV doc pm an aR ct tk o n us ho hd hl=>match us,hl with | [_,_,_],_=>.of_defaults rfl ho hd rfl rfl
  pI:=iw.Mb (ps:=["self","top","bottom"]) (wM (st:=i9) (i:=1) tW tX pW tY) fun s dT kV doc pm an aR ct tk o n us ho hd hl=>match us,hl with | [_,_],_=>.of_defaults rfl ho hd rfl rfl
  Pj:=iw.Mc (ps:=["self","top","bottom"]) (y:="bottom") (wM (st:=i9) (i:=1) tW tX pW tY) fun s dT kV doc pm an aR ct tk o n us ws ho hd hw hl=>match ws,us,hw,hl with | [_],[_,_],_,_=>.of_defaults rfl ho hd rfl rfl
  lx:=⟨B8,B9,pW⟩
  yu:=yu
  Pk:=yu.bq
  Bm:=Bm
  vd:=vd
  yv:=vd.bq
  tP:=tP
  ve:=ve
  vg:=ve.bq
  pJ:=pJ
  vh:=vh
  yw:=vh.bq
  tQ:=tQ
  cH:=⟨B_,Ca,Cb,Cc⟩
  GN:=bj X G B3
  iD:=Cd
  GO:=bj X G B4
  yy:=bj X G B5
  yz:=bj X G B6
  GP:=bj X G B7
  Pl:=fk X G Ce
  Bn:=fk X G Cf
  GQ:=fk X G Ci
  GR:=fk X G Cj
  GS:=fk X G Ck
  pK:=fk X G Cm
  GU:=fk X G Cn
  tR:=fk X G Co
  eC:=fk X G Cp
  lA:=fk X G Cq
  Pm:=fk X G Cr
  Pn:=fk X G Cs
  gZ:=fk X G Ct
  GV:=fk X G Cu
  Bo:=fk X G Cv
  GW:=fk X G Cw
  yA:=fk X G Cy
  Po:=fk X G Cz
  GX:=⟨_,bj X G CA,_,rfl⟩
  GY:=⟨_,bj X G CB,_,rfl⟩
  GZ:=CD
  yB:=CF
  yC:=CG
  G0:=CH
 }
end My
namespace PySem.W.Fast
def tw9563684467205308207:Unit:=()
def tw10071208856221881758:Unit:=()
def tw3725551774027336364:Unit:=()
def tw4404431749417905345:Unit:=()
def tw15937772091074150479:Unit:=()
def tw2940937388740247635:Unit:=()
def tw10330545114710501809:Unit:=()
def tw310701969184605597:Unit:=()
def tw13232588119832604661:Unit:=()
def tw8573869694248070957:Unit:=()
def tw15831109418485655418:Unit:=()
def tw3954218059753763052:Unit:=()
def tw7872785305010311642:Unit:=()
def tw17744246269731448465:Unit:=()
def tw13597951611706170935:Unit:=()
def tw7741091529210999693:Unit:=()
def tw16827808049369041230:Unit:=()
def tw2003364024969397407:Unit:=()
def tw8937581789490441213:Unit:=()
def tw18266165432118946438:Unit:=()
def tw13557981430002682042:Unit:=()
def tw12019446436125941744:Unit:=()
def tw6790546239688074649:Unit:=()
def tw6842195104206947317:Unit:=()
def tw3376240867372799586:Unit:=()
def tw1620226850959074468:Unit:=()
def tw13067045827323563790:Unit:=()
def tw13815137662698891976:Unit:=()
def tw7727541008195129591:Unit:=()
def tw8124344924307537399:Unit:=()
def tw12841297338648329122:Unit:=()
def tw16397505400521551849:Unit:=()
def tw16964691446844448770:Unit:=()
def tw4156440578519018283:Unit:=()
def tw12548805119541431411:Unit:=()
def tw4271453202979895765:Unit:=()
def tw18044785862462234449:Unit:=()
def tw6033436221346916919:Unit:=()
def tw5366604241205440759:Unit:=()
def tw14379062208164508279:Unit:=()
def tw16029770378253273629:Unit:=()
def tw2869146239731747806:Unit:=()
def tw13724307797271710785:Unit:=()
def tw9955643489084199671:Unit:=()
def tw13728434630858931904:Unit:=()
def tw8928477031112346066:Unit:=()
def tw6362658662257069959:Unit:=()
def tw12260975256353835586:Unit:=()
def tw1738756555240384277:Unit:=()
def tw9838037490002826390:Unit:=()
def tw4893656234729531632:Unit:=()
def tw15554416202679078286:Unit:=()
def tw13074036256428752168:Unit:=()
def tw18154244493807940981:Unit:=()
def tw3653343424166767037:Unit:=()
def tw3210384749633231849:Unit:=()
def tw5506763474965604290:Unit:=()
def tw4074313175325394662:Unit:=()
def tw17500257221984569474:Unit:=()
def tw4703167645230908260:Unit:=()
def tw477725403416610396:Unit:=()
def tw1320361180424465622:Unit:=()
def tw5573362616649097033:Unit:=()
def tw5855107255653250327:Unit:=()
def tw16723759700180199861:Unit:=()
def tw16266216526874913780:Unit:=()
def tw9464710535916012170:Unit:=()
def tw7400622876724726994:Unit:=()
def tw789820304461243622:Unit:=()
def tw4376964514290196566:Unit:=()
def tw8829102558796060327:Unit:=()
def tw5039228745696636365:Unit:=()
def tw6983900431096329433:Unit:=()
def tw4184993778047436136:Unit:=()
def tw15525497108294266699:Unit:=()
def tw9432985791890655649:Unit:=()
def tw2656457133602272309:Unit:=()
def tw18062106157351809045:Unit:=()
def tw15957418717654385206:Unit:=()
def tw3429542132606769834:Unit:=()
def tw15098286118091408277:Unit:=()
def tw12528036546961347678:Unit:=()
def tw4233637898366667971:Unit:=()
def tw7876660199407206903:Unit:=()
def tw7386458205326334740:Unit:=()
def tw1023286202378557354:Unit:=()
def tw1833310858431263098:Unit:=()
def tw12577868706917847734:Unit:=()
def tw6189613879061937440:Unit:=()
def tw1084176636463777577:Unit:=()
def tw2986316731954726825:Unit:=()
def tw12446953522937739784:Unit:=()
def tw17238286221723344969:Unit:=()
def tw10323019265818882300:Unit:=()
def tw6346583401133006757:Unit:=()
def tw16507855010108152169:Unit:=()
def tw5966728228114726161:Unit:=()
def tw11757507194140871172:Unit:=()
def tw14011183059119500991:Unit:=()
def tw4514179306050680398:Unit:=()
def tw3530515658428215291:Unit:=()
def tw851879869289177785:Unit:=()
def tw13722853330322062419:Unit:=()
def tw15272024501515410512:Unit:=()
def tw14397931861512423107:Unit:=()
def tw2594904642516372783:Unit:=()
def tw16274885416086817875:Unit:=()
def tw8502608245462039671:Unit:=()
def tw10863617805468961938:Unit:=()
def tw2666528949808059872:Unit:=()
def tw11694368711865634070:Unit:=()
def tw1841422163632403799:Unit:=()
def tw6125828424193378955:Unit:=()
def tw6852792122000181994:Unit:=()
def tw14084277438324130287:Unit:=()
def tw1252107417699095730:Unit:=()
def tw16344633722434475731:Unit:=()
def tw18093669660490012384:Unit:=()
def tw2128623226122501930:Unit:=()
def tw13980423524443599126:Unit:=()
def tw16021049249837182153:Unit:=()
def tw18174052288222394774:Unit:=()
def tw15085864013548089314:Unit:=()
def tw12241627327146925380:Unit:=()
def tw2349786554498952063:Unit:=()
def tw7656316434000796512:Unit:=()
def tw2494854971952178692:Unit:=()
def tw9114194296467720994:Unit:=()
def tw2400610190192832545:Unit:=()
def tw6295190512478229630:Unit:=()
def tw6052793485149184680:Unit:=()
def tw11424542344974841390:Unit:=()
def tw12474283829833145953:Unit:=()
def tw11624716727802164495:Unit:=()
def tw4067321072104032490:Unit:=()
def tw15189371975496324942:Unit:=()
def tw14565198677032468662:Unit:=()
def tw16740312731663572925:Unit:=()
def tw7775971217048881189:Unit:=()
def tw16042522235869192497:Unit:=()
def tw5523252590495792145:Unit:=()
def tw656007423225757708:Unit:=()
def tw2537905693344320523:Unit:=()
def tw15804985762996669564:Unit:=()
def tw14254093422678901771:Unit:=()
def tw8866245731891187281:Unit:=()
def tw4959016730989467420:Unit:=()
def tw9023581026636979404:Unit:=()
def tw8365488114477760658:Unit:=()
def tw11769091271968374675:Unit:=()
def tw17187380667227503403:Unit:=()
def tw16076397469976930730:Unit:=()
def tw466182149192214507:Unit:=()
def tw16219048595489289343:Unit:=()
def tw2702698363991338328:Unit:=()
def tw226416812006867169:Unit:=()
def tw7969310091904967090:Unit:=()
def tw16395942830238486948:Unit:=()
def tw15106704510951758859:Unit:=()
def tw11849894708463359308:Unit:=()
def tw17979144973326830681:Unit:=()
def tw5119008499667829455:Unit:=()
def tw2944571978726197768:Unit:=()
def tw10413357719206543712:Unit:=()
def tw15232073301181125837:Unit:=()
def tw3235150911290932620:Unit:=()
def tw3987978220014608706:Unit:=()
def tw9535638760279706157:Unit:=()
def tw6885983915873876478:Unit:=()
def tw4780950281345349120:Unit:=()
def tw4484207148205189863:Unit:=()
def tw5025644148578647090:Unit:=()
def tw9880944364073022541:Unit:=()
def tw13920952742715536464:Unit:=()
def tw4469798420436369840:Unit:=()
def tw10761645065978380796:Unit:=()
def tw17009061426185313896:Unit:=()
def tw10057184678264729415:Unit:=()
def tw10833559882245565528:Unit:=()
def tw8366778983372157818:Unit:=()
def tw5499460831468308550:Unit:=()
def tw8910825988749803215:Unit:=()
def tw14702825996897273663:Unit:=()
def tw13633423908006971831:Unit:=()
def tw2582835828254320711:Unit:=()
def tw5208308981969135537:Unit:=()
def tw4860753531032275842:Unit:=()
def tw14238447112469521295:Unit:=()
def tw12197982177857075172:Unit:=()
def tw9894402502355939596:Unit:=()
def tw2936506553127574478:Unit:=()
def tw11269880537019906286:Unit:=()
def tw128248618098797460:Unit:=()
def tw18147588323909594333:Unit:=()
def tw17646694798666370306:Unit:=()
def tw7296792411608319456:Unit:=()
def tw16201100327936470481:Unit:=()
def tw4021173746610093307:Unit:=()
def tw13244701386298755631:Unit:=()
def tw6694003567003492890:Unit:=()
def tw5801990141628343127:Unit:=()
def tw4730363822344267658:Unit:=()
def tw7431377545326901479:Unit:=()
def tw2611141419677638415:Unit:=()
def tw7175221326607918923:Unit:=()
def tw4309025632664742849:Unit:=()
def tw14165825430005875479:Unit:=()
def tw13179340228718447109:Unit:=()
def tw13875686122605349986:Unit:=()
def tw10459469899706879047:Unit:=()
def tw14051738673170209886:Unit:=()
def tw6270851040062772080:Unit:=()
def tw2054334270337918310:Unit:=()
def tw16975643209478451334:Unit:=()
def tw3524341208403853127:Unit:=()
def tw102922423016975775:Unit:=()
def tw16429713801430213645:Unit:=()
def tw12772150439019247714:Unit:=()
def tw12122394299905431329:Unit:=()
def tw18027633113333273241:Unit:=()
def tw2901148496473501662:Unit:=()
def tw14035281417698186877:Unit:=()
def tw17088030567586858472:Unit:=()
def tw4441390118204919954:Unit:=()
def tw12076688754817317778:Unit:=()
def tw9416032739235773924:Unit:=()
def tw2483079419146684593:Unit:=()
def tw8130411529168542304:Unit:=()
def tw12623143976965521176:Unit:=()
def tw17807107148394167551:Unit:=()
def tw4652446589938535664:Unit:=()
def tw16134127955382693265:Unit:=()
def tw15782148077338657768:Unit:=()
def tw2987506391356531138:Unit:=()
def tw15182089686193037610:Unit:=()
def tw14915550810637875187:Unit:=()
def tw14789253864392480910:Unit:=()
def tw494996426132055761:Unit:=()
def tw5053143988192258295:Unit:=()
def tw17959430311654429441:Unit:=()
def tw4022166080558469747:Unit:=()
def tw2119936307759625891:Unit:=()
def tw3146887827967129590:Unit:=()
def tw9055209027305105390:Unit:=()
def tw12817916858988859034:Unit:=()
def tw4386448506785602905:Unit:=()
def tw4473256180227290339:Unit:=()
def tw17227587493485797938:Unit:=()
def tw1763894660962249526:Unit:=()
def tw15781292909542511980:Unit:=()
def tw60006873768572555:Unit:=()
def tw6384890600977093900:Unit:=()
def tw8571572841272882431:Unit:=()
def tw6229606622033521105:Unit:=()
def tw13536385872312680009:Unit:=()
def tw7470667790640244906:Unit:=()
def tw3437419768657316927:Unit:=()
def tw15418132774047379431:Unit:=()
def tw18389541344300539031:Unit:=()
def tw4554538055052894036:Unit:=()
def tw14312334517018049474:Unit:=()
def tw7873887866192047732:Unit:=()
def tw8397982293137994595:Unit:=()
def tw2647743653304625305:Unit:=()
def tw2334455768470354356:Unit:=()
def tw9281532613178595339:Unit:=()
def tw5316744564334343460:Unit:=()
def tw4203394323129116126:Unit:=()
def tw18151016793822800363:Unit:=()
def tw11164738239200115686:Unit:=()
def tw3451191796098620978:Unit:=()
def tw304530909631750792:Unit:=()
def tw6102214024899906197:Unit:=()
def tw6837275046927355220:Unit:=()
def tw16222699562936218751:Unit:=()
def tw2521147948762901957:Unit:=()
def tw10814568732224555042:Unit:=()
def tw17589683516183366237:Unit:=()
def tw14332433837140402366:Unit:=()
def tw15901228642301126119:Unit:=()
def tw452190682531491460:Unit:=()
def tw8728702423755486719:Unit:=()
def tw13233729502918005838:Unit:=()
def tw1470132387364116113:Unit:=()
def tw1315261127968126786:Unit:=()
def tw13712257895141731584:Unit:=()
def tw9921700071776671740:Unit:=()
def tw14097068244658058651:Unit:=()
def tw10695418937256955521:Unit:=()
def tw5239270721412521552:Unit:=()
def tw14791182479840109259:Unit:=()
def tw12890575174741558598:Unit:=()
def tw6072468144250993580:Unit:=()
def tw11733113417206012329:Unit:=()
end PySem.W.Fast
open PySem PySem.W PyProof.Rows
set_option maxRecDepth 100000 in
set_option maxHeartbeats 0 in
theorem PySem.Challenge.cw_bandwright_k98_whole_turned_about_holds : PySem.Challenge.rw_bandwright_k98_whole_turned_about.Holds := by
 w_on;o_law;k_head;(case hw=>w_witness2)
 k_fill
 refine My.walk (l:=PySem.Challenge.rw_bandwright_k98_whole_turned_about) rfl rfl (fun w h Y=>PySem.W.kIn_of Y) ?F
 case F=>
  intro w mg fa h KX G uJ
  have T:∃t,My.Txt (L2.DR KX) mg t:=by
   dsimp only [L2.DR]
   refine' My.R7 KX G ?B3 ?B4 ?B5 ?B6 ?B7 (bj KX G ?Tc) (L2.bw (st:=My.xw) ?Te ?Tf ?Tg) (bj KX G ?Th) (L2.bw (st:=My.xx) ?Ti ?Tj ?Tn) (bj KX G ?To) (L2.bw (st:=My.xy) ?Tp ?Tq ?Tr) (bj KX G ?Tu) (L2.bw (st:=My.xA) ?Tv ?Tz ?TF) (bj KX G ?TH) (L2.bw (st:=My.A2) ?TJ ?TL ?TM) (bj KX G ?TN) (L2.bw (st:=My.xB) ?TQ ?TR ?TU) (bj KX G ?TV) (L2.bw (st:=My.xC) ?TY ?TZ ?T3) (bj KX G ?T4) (L2.bw (st:=My.xD) ?T5 ?T6 ?T7) (bj KX G ?T8) (L2.bw (st:=My.xE) ?T9 ?T_ ?Ua) (bj KX G ?Ub) (L2.bw (st:=My.xF) ?Uc ?Ud ?Ue) (bj KX G ?Ug) (L2.bw (st:=My.xG) ?Uh ?Ui ?Uj) (bj KX G ?Uk) (L2.bw (st:=My.xH) ?Ul ?Um ?Uo) (bj KX G ?Up) (L2.bw (st:=My.xI) ?Uq ?Ur ?Us) (bj KX G ?Ut) (L2.bw (st:=My.xJ) ?Uu ?Uv ?Uw) (bj KX G ?Ux) (L2.bw (st:=My.xK) ?Uy ?Uz ?UA) (bj KX G ?UB) (L2.bw (st:=My.xM) ?UC ?UD ?UE) (bj KX G ?UG) (L2.bw (st:=My.xN) ?UH ?UI ?UJ) (bj KX G ?UK) (L2.bw (st:=My.xO) ?UL ?UM ?UN) (bj KX G ?UO) (L2.bw (st:=My.xP) ?UP ?UQ ?UR) (bj KX G ?US) (L2.bw (st:=My.xQ) ?UT ?UU ?UW) (bj KX G ?UX) (L2.bw (st:=My.xR) ?UY ?UZ ?U1) (bj KX G ?U3) (L2.bw (st:=My.xS) ?U4 ?U5 ?U6) (bj KX G ?U7) (L2.bw (st:=My.xT) ?U8 ?U9 ?U_) (bj KX G ?Va) (L2.bw (st:=My.xU) ?Vb ?Vc ?Vd) (bj KX G ?Ve) (L2.bw (st:=My.xV) ?Vf ?Vg ?Vh) (bj KX G ?Vi) (L2.bw (st:=My.xW) ?Vj ?Vk ?Vl) (bj KX G ?Vm) (L2.bw (st:=My.xX) ?Vn ?Vo ?Vp) (bj KX G ?Vq) (L2.bw (st:=My.xY) ?Vr ?Vs ?Vt) (bj KX G ?Vu) (L2.bw (st:=My.xZ) ?Vv ?Vw ?Vx) (bj KX G ?Vy) (L2.bw (st:=My.x3) ?Vz ?VA ?VB) (bj KX G ?VC) (L2.bw (st:=My.x4) ?VD ?VE ?VF) (bj KX G ?VG) (L2.bw (st:=My.x5) ?VH ?VI ?VJ) (bj KX G ?VL) (L2.bw (st:=My.x6) ?VM ?VN ?VO) (bj KX G ?VP) (L2.bw (st:=My.x8) ?VQ ?VR ?VS) (bj KX G ?VT) (L2.bw (st:=My.x9) ?VU ?VV ?VW) (bj KX G ?VX) (L2.bw (st:=My.x_) ?VY ?VZ ?V0) (bj KX G ?V1) (L2.bw (st:=My.ya) ?V2 ?V3 ?V4) (bj KX G ?V5) (L2.bw (st:=My.yb) ?V6 ?V7 ?V8) (bj KX G ?V9) (L2.bw (st:=My.yc) ?V_ ?Wa ?Wb) (bj KX G ?We) (L2.bw (st:=My.yd) ?Wf ?Wg ?Wh) (bj KX G ?Wi) (L2.bw (st:=My.ye) ?Wj ?Wl ?Wm) (bj KX G ?Wn) (L2.bw (st:=My.yf) ?Wo ?Wq ?Wr) (bj KX G ?Ws) (L2.bw (st:=My.yg) ?Wt ?Wu ?Wv) (bj KX G ?Ww) (L2.bw (st:=My.yh) ?Wx ?Wy ?Wz) (bj KX G ?WA) (L2.bw (st:=My.yi) ?WB ?WC ?WD) ⟨?WE,?WG,?WH,?WI⟩ (L2.bw (st:=My.yj) ?WJ ?WK ?WL) ?B8 ?B9 ?tW ?tX ?pW ?tY ⟨?WM,?WN,?WO⟩ (L2.bw (st:=My.A3) ?WQ ?WR ?WS) ⟨?WT,?WU,?WV⟩ (L2.bw (st:=My.yk) ?WW ?WX ?WY) ⟨?WZ,?W0,?W5⟩ (L2.bw (st:=My.yl) ?W_ ?Xa ?Xb) ⟨?Xc,?Xd,?Xe⟩ (L2.bw (st:=My.ym) ?Xf ?Xg ?Xh) ?B_ ?Ca ?Cb ?Cc ?Cd ?Ce ?Cf ?Ci ?Cj ?Ck ?Cm ?Cn ?Co ?Cp ?Cq ?Cr ?Cs ?Ct ?Cu ?Cv ?Cw ?Cy ?Cz ?CA ?CB ?CD ?CF ?CG ?CH
   (case B3|B4|B5|B6|B7|Tc|Te|Tf|Tg|Th|Ti|Tj|Tn|To|Tp|Tq|Tr|Tu|Tv|Tz|TF|TH|TJ|TL|TM|TN|TQ|TR|TU|TV|TY|TZ|T3|T4|T5|T6|T7|T8|T9|T_|Ua|Ub|Uc|Ud|Ue|Ug|Uh|Ui|Uj|Uk|Ul|Um|Uo|Up|Uq|Ur|Us|Ut|Uu|Uv|Uw|Ux|Uy|Uz|UA|UB|UC|UD|UE|UG|UH|UI|UJ|UK|UL|UM|UN|UO|UP|UQ|UR|US|UT|UU|UW|UX|UY|UZ|U1|U3|U4|U5|U6|U7|U8|U9|U_|Va|Vb|Vc|Vd|Ve|Vf|Vg|Vh|Vi|Vj|Vk|Vl|Vm|Vn|Vo|Vp|Vq|Vr|Vs|Vt|Vu|Vv|Vw|Vx|Vy|Vz|VA|VB|VC|VD|VE|VF|VG|VH|VI|VJ|VL|VM|VN|VO|VP|VQ|VR|VS|VT|VU|VV|VW|VX|VY|VZ|V0|V1|V2|V3|V4|V5|V6|V7|V8|V9|V_|Wa|Wb|We|Wf|Wg|Wh|Wi|Wj|Wl|Wm|Wn|Wo|Wq|Wr|Ws|Wt|Wu|Wv|Ww|Wx|Wy|Wz|WA|WB|WC|WD|WE|WG|WH|WI|WJ|WK|WL|B8|B9|tW|tX|pW|tY|WM|WN|WO|WQ|WR|WS|WT|WU|WV|WW|WX|WY|WZ|W0|W5|W_|Xa|Xb|Xc|Xd|Xe|Xf|Xg|Xh|B_|Ca|Cb|Cc|Cd|Ce|Cf|Ci|Cj|Ck|Cm|Cn|Co|Cp|Cq|Cr|Cs|Ct|Cu|Cv|Cw|Cy|Cz|CA|CB=>k_is)
   (case CD|CF|CG|CH=>k_exc)
  obtain ⟨t,T⟩:=T
  have e0:=uJ.symm.trans T.GJ
  cases e0
  exact My.R6 T
#print axioms PySem.Challenge.cw_bandwright_k98_whole_turned_about_holds
