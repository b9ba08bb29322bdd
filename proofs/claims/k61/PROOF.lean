import PyProof.Rows.All
import Wide.All
import OpenK.AllK
import Wide.FinOn
import Lean
import PyProof.EqAt
import PyProof.EqKinds
import PyProof.TupleCall
import PySem.Challenge.RW_bandwright_k61_whole_shifted_rows_as_alo
set_option Elab.async false
set_option linter.all false
set_option maxRecDepth 100000
abbrev eC:=@decide_eq_false
abbrev tL:=@beq_eq_false_iff_ne
abbrev Dc:=@List.getElem?_eq_none_iff
abbrev ai:=@if_pos
abbrev ao:=@if_neg
abbrev cg:=@PySem.Heap.lt_size
abbrev fh:=@Nat.lt_of_lt_of_le
abbrev iF:=@Nat.lt_irrefl
abbrev dR:=@Nat.ne_of_lt
abbrev zK:=@PySem.W.hideAll_get
abbrev tM:=@List.mem_filter
abbrev fB:=@List.mem_range
abbrev aj:=@Nat.le_trans
abbrev zL:=@List.filterMap_cons
abbrev jy:=@List.mem_cons_self
abbrev fY:=@List.mem_cons_of_mem
abbrev cH:=@List.mem_cons
abbrev i7:=@List.mem_append
abbrev xn:=@List.mem_append_left
abbrev b6:=@List.getElem?_eq_some_iff
abbrev Dd:=@List.getElem?_set_self
abbrev dw:=@PySem.wpAny_mono
abbrev mO:=@PySem.wpAny_truthy_bool
abbrev zM:=@Array.length_toList
abbrev eY:=@congrArg
abbrev zN:=@PySem.wpAny_execs_nil
abbrev bI:=@PySem.wpAny_bind
abbrev xp:=@PySem.wpAny_holding
abbrev cM:=@PySem.wpAny_pure
abbrev oq:=@PySem.wpAny_newObj_type
abbrev dy:=@PySem.Heap.get?_push_of_some
abbrev pI:=@PySem.wpAny_passesOwn
abbrev dZ:=@Bool.false_ne_true
abbrev d7:=@Int.mul_one
abbrev zO:=@PySem.wpAny_pyIter_list
abbrev fZ:=@PySem.Heap.get?_push_size
abbrev aE:=@Nat.le_refl
abbrev tN:=@PyProof.Rows.callWith_type1
abbrev fC:=@List.mem_append_right
abbrev cN:=@Nat.zero_le
abbrev zP:=@Int.fdiv_eq_ediv_of_nonneg
abbrev pJ:=@Bool.eq_iff_iff
abbrev tO:=@PySem.sizeLine_eq
abbrev df:=@List.size_toArray
abbrev lT:=@beq_iff_eq
abbrev d8:=@List.length_cons
abbrev zQ:=@PySem.W.looks_findIn
abbrev cX:=@List.map_cons
abbrev aG:=@List.length_map
abbrev mP:=@Nat.le_of_eq
abbrev zR:=@Nat.lt_succ_self
abbrev jz:=@PySem.W.kia_one
abbrev zS:=@List.append_nil
abbrev zT:=@PySem.wpAny_Call_Name_kw
abbrev j4:=@List.nodup_cons
abbrev kX:=@List.of_mem_zip
abbrev kY:=@List.length_take
abbrev mQ:=@PySem.mem_of_lookup
abbrev gS:=@List.getElem?_append_right
abbrev De:=@List.getElem?_replicate
abbrev ic:=@List.getElem?_append_left
abbrev cB:=@List.getElem?_map
abbrev xt:=@List.take_sublist
abbrev gT:=@List.mem_of_getElem?
abbrev eL:=@List.length_append
abbrev xu:=@List.length_replicate
abbrev e9:=@Int.toNat_natCast
abbrev tP:=@PyProof.Rows.slot_tuple_getitem
abbrev xv:=@Bool.and_eq_true
abbrev pK:=@List.replicate_succ
abbrev xw:=@List.flatten_cons
abbrev mR:=@List.length_singleton
abbrev iG:=@Nat.mul_comm
abbrev dC:=@decide_eq_true
abbrev bO:=@PySem.W.mg_of
abbrev fE:=@Nat.lt_of_le_of_lt
abbrev Df:=@PySem.F.typeOf_object_class
abbrev xx:=@PySem.wpAny_loadPart_at
abbrev ou:=@Nat.not_lt_zero
abbrev zU:=@List.range_succ_eq_map
abbrev xy:=@List.all_eq_true
abbrev Dg:=@PySem.wpAny_comprehension_free
abbrev ox:=@PySem.lookup_relabel_local
abbrev Dh:=@PySem.codeAny_compStart_list
abbrev d9:=@List.getD_eq_getElem?_getD
abbrev gA:=@List.mem_singleton
abbrev cK:=@List.length_range
abbrev pL:=@List.getElem?_range
abbrev dD:=@List.getElem_mem
abbrev pM:=@Nat.gcd_pos_of_pos_right
abbrev j6:=@Int.natAbs_pos
abbrev tQ:=@Nat.pow_le_pow_right
abbrev oz:=@Int.mul_le_mul_of_nonneg_left
abbrev dE:=@Int.mul_zero
abbrev mT:=@Int.gcd_dvd_left
abbrev lU:=@Int.gcd_dvd_right
abbrev b_:=@Int.natAbs_mul
abbrev jA:=@Int.dvd_trans
abbrev f9:=@Int.mul_ediv_cancel_left
abbrev dS:=@Int.mul_comm
abbrev oA:=@Int.mul_pos
abbrev iH:=@Int.mul_assoc
abbrev xA:=@Int.mul_left_comm
abbrev pN:=@Int.dvd_mul_left
abbrev mU:=@Int.natAbs_ediv_le_natAbs
abbrev pO:=@Int.natAbs_neg
abbrev j7:=@Int.dvd_refl
abbrev xB:=@Int.le_of_dvd
abbrev kZ:=@Nat.mul_le_mul_left
abbrev Di:=@Int.emod_add_mul_ediv
abbrev gU:=@Int.emod_lt_of_pos
abbrev f_:=@Int.emod_nonneg
abbrev tR:=@Int.dvd_add
abbrev tS:=@Int.mul_add
abbrev tT:=@Int.neg_mul
abbrev xC:=@Int.mul_emod
abbrev pP:=@Int.emod_eq_of_lt
abbrev oB:=@Int.zero_sub
abbrev zV:=@Int.fdiv_eq_ediv_of_dvd
abbrev lV:=@Int.mul_neg
abbrev zW:=@Int.gcd_one_right
abbrev zX:=@Int.eq_of_mul_eq_mul_right
abbrev gB:=@Int.dvd_zero
abbrev mV:=@Nat.sub_self
abbrev j8:=@List.not_mem_nil
abbrev j9:=@or_false
abbrev xD:=@Nat.le_add_right
abbrev xE:=@List.any_cons
abbrev zY:=@List.sum_append
abbrev k4:=@List.take_length
abbrev zZ:=@List.getElem?_zip_eq_some
abbrev xF:=@List.getElem?_eq_none
abbrev pQ:=@Nat.mul_le_mul_right
abbrev j_:=@Int.zero_dvd
abbrev mW:=@Int.mul_eq_zero
abbrev cq:=@Nat.mul_le_mul
abbrev k6:=@List.getElem_of_mem
abbrev z8:=@Int.sub_eq_add_neg
abbrev mX:=@Int.one_mul
abbrev fj:=@Int.zero_mul
abbrev oC:=@Int.zero_add
abbrev tU:=@Nat.one_mul
abbrev k7:=@Nat.pow_succ
abbrev mY:=@Nat.mul_assoc
abbrev pR:=@Nat.mul_left_comm
abbrev i8:=@Nat.add_sub_cancel
abbrev gc:=@List.mem_map
abbrev mZ:=@Int.add_zero
abbrev pS:=@Int.mul_sub
abbrev z9:=@List.length_zip
abbrev m4:=@List.map_append
abbrev jB:=@Nat.le_mul_of_pos_left
abbrev k8:=@Int.sub_zero
abbrev z_:=@Classical.byContradiction
abbrev ke:=@List.ext_getElem
abbrev m5:=@List.map_congr_left
abbrev Dj:=@List.length_filter_le
abbrev Aa:=@List.find?_cons
abbrev xG:=@decide_eq_true_iff
abbrev fN:=@of_decide_eq_true
abbrev kf:=@List.map_map
abbrev Ab:=@List.nodup_range
abbrev gC:=@List.getElem_map
abbrev jC:=@List.getElem_range
abbrev tV:=@List.take_of_length_le
abbrev gW:=@List.getElem?_eq_getElem
abbrev k9:=@Int.sub_self
abbrev dF:=@List.sum_cons
abbrev xH:=@List.reverse_perm
abbrev Dk:=@Nat.le_of_mul_le_mul_left
abbrev xI:=@Int.dvd_mul_of_dvd_right
abbrev e_:=@PySem.PassesOwn.never
abbrev c_:=@PySem.boot_len
abbrev m6:=@PySem.F.excBase_ValueError
abbrev xJ:=@Int.ediv_nonneg
abbrev xK:=@Int.eq_ofNat_of_zero_le
abbrev kg:=@List.set_cons_zero
abbrev ki:=@List.set_cons_succ
abbrev gD:=@PySem.W.mg_none_of
abbrev iI:=List (List (Int×Int))
abbrev aR:=List (Int×Int)
abbrev aX:=Nat→Nat→Int
abbrev dG:=PySem.Str→Option PySem.Value
abbrev aV:=PySem.Value→PySem.Shared→Prop
abbrev aB:=PySem.W.Frag
abbrev bg:=List (PySem.Addr×PySem.Obj)
namespace L2
open PySem PySem.Spec PyProof.Rows
abbrev Key:=Sum Int Str
def pU:Key→Value→Bool
 | .inl k,v=>Value.isInt k v
 | .inr x,v=>Value.isStrOf x v
def Pt(w:World):Key→Int
 | .inl k=>hashInt k
 | .inr x=>hashStr w x
theorem lW:∀{k:Key} {v:Value},pU k v=true→(∃i t,k=Sum.inl i∧v=Value.int i t)∨(∃x t,k=Sum.inr x∧v=Value.str x t)
 | .inl i,v,h=>by obtain ⟨t,e⟩:=Value.isInt_shape (k:=i) (v:=v) h;exact .inl ⟨i,t,rfl,e⟩
 | .inr x,v,h=>by obtain ⟨t,e⟩:=Value.isStrOf_shape (x:=x) (v:=v) h;exact .inr ⟨x,t,rfl,e⟩
theorem Pu(i:Int)(t:Tok):pU (.inl i) (.int i t)=true:=by simp [pU,Value.isInt]
theorem Pw(x:Str)(t:Tok):pU (.inr x) (.str x t)=true:=by simp [pU,Value.isStrOf]
theorem Px(a b:Int):decide ((Sum.inl a:Key)=Sum.inl b)=(a == b):=by
 by_cases e:a=b;·subst e;simp
 ·have h:¬(Sum.inl a:Key)=Sum.inl b:=fun q=>e (Sum.inl.inj q)
  rw [eC h];exact (tL.mpr e).symm
theorem Py(a b:Str):decide ((Sum.inr a:Key)=Sum.inr b)=decide (a=b):=by
 by_cases e:a=b;·subst e;simp
 ·have h:¬(Sum.inr a:Key)=Sum.inr b:=fun q=>e (Sum.inr.inj q)
  rw [eC h,eC e]
theorem Pz(a:Int)(b:Str):decide ((Sum.inl a:Key)=Sum.inr b)=false:=eC (fun q=>nomatch q)
theorem PB(a:Str)(b:Int):decide ((Sum.inr a:Key)=Sum.inl b)=false:=eC (fun q=>nomatch q)
def iJ(prog:Program)(w:World):PySem.KeyKind prog w Key where
 is:=pU
 hash:=Pt w
 inj:=fun v a b ha hb=>by
  rcases lW ha with ⟨i,t,rfl,rfl⟩ | ⟨x,t,rfl,rfl⟩
  ·rcases lW hb with ⟨j,u,rfl,e⟩ | ⟨y,u,rfl,e⟩
   ·injection e with e1 _;rw [e1]
   ·exact nomatch e
  ·rcases lW hb with ⟨j,u,rfl,e⟩ | ⟨y,u,rfl,e⟩
   ·exact nomatch e
   ·injection e with e1 _;rw [e1]
 byValue:=fun k v h=>by
  rcases lW h with ⟨i,t,rfl,rfl⟩ | ⟨x,t,rfl,rfl⟩ <;> rfl
 pyHash:=fun hv h=>by
  rcases lW hv with ⟨i,t,rfl,rfl⟩ | ⟨x,t,rfl,rfl⟩
  ·exact wpAny_pyHash_int h
  ·exact wpAny_pyHash_str h
 eqBool:=fun hu hv h=>by
  rcases lW hu with ⟨i,t,rfl,rfl⟩ | ⟨x,t,rfl,rfl⟩
  ·rcases lW hv with ⟨j,u,rfl,rfl⟩ | ⟨y,u,rfl,rfl⟩
   ·rw [Px] at h;exact wpAny_eqBool_int h
   ·rw [Pz] at h;exact SeqAt.EqAt.int_str i t y u _ _ _ _ h
  ·rcases lW hv with ⟨j,u,rfl,rfl⟩ | ⟨y,u,rfl,rfl⟩
   ·rw [PB] at h;exact SeqAt.EqAt.str_int x t j u _ _ _ _ h
   ·rw [Py] at h;exact wpAny_eqBool_str h
 «strs»:=fun k x t v h=>by
  rcases lW h with ⟨i,u,rfl,e⟩ | ⟨y,u,rfl,e⟩
  ·exact nomatch e
  ·injection e with e1 _
   subst e1
   cases v <;> rfl
theorem PD(prog:Program)(w:World)(i:Int)(t:Tok):(iJ prog w).is (.inl i) (.int i t)=true:=Pu i t
theorem PF(prog:Program)(w:World)(x:Str)(t:Tok):(iJ prog w).is (.inr x) (.str x t)=true:=Pw x t
inductive V where
 | bh | bl (b:Bool) | int (i:Int) | str (x:Str) | i9 (b:Array UInt8) | pV (b:UInt64) | ref (a:Addr) | ty (n:String)
 deriving DecidableEq
def RelV:V→Value→Prop
 | .bh,u=>u=Value.none
 | .bl b,u=>u=Value.bool b
 | .int i,u=>∃t,u=Value.int i t
 | .str x,u=>∃t,u=Value.str x t
 | .i9 b,u=>∃t,u=Value.bytes b t
 | .pV b,u=>∃t,u=Value.float b t
 | .ref a,u=>u=Value.ref a
 | .ty n,u=>u=Value.type n
abbrev Vals:List V→List Value→Prop:=Paired RelV
variable {xs:List V} {us:List Value}
theorem Vals.length(r:Vals xs us):xs.length=us.length:=Paired.length r
theorem Vals.get:∀{xs:List V} {us:List Value} {i:Nat} {x:V},Vals xs us→xs[i]?=some x→∃u,us[i]?=some u∧RelV x u
 | _,_,_,_,.nil,e=>by simp at e
 | _,_,0,_,.cons r _,e=>by simp at e;subst e;exact ⟨_,rfl,r⟩
 | _,_,i+1,x,.cons _ t,e=>by
  obtain ⟨u,h1,h2⟩:=Vals.get (i:=i) (x:=x) t (by simpa using e)
  exact ⟨u,by simpa using h1,h2⟩
theorem Vals.set{x:V}{u:Value}(r:RelV x u):∀{xs:List V} {us:List Value} (i:Nat),Vals xs us→Vals (xs.set i x) (us.set i u)
 | _,_,_,.nil=>.nil
 | _,_,0,.cons _ t=>.cons r t
 | _,_,i+1,.cons q t=>.cons q (Vals.set r i t)
theorem Vals.append:∀{xs ys:List V} {us ws:List Value},Vals xs us→Vals ys ws→Vals (xs++ys) (us++ws)
 | _,_,_,_,.nil,s=>s
 | _,_,_,_,.cons r t,s=>.cons r (Vals.append t s)
theorem Vals.take:∀{xs:List V} {us:List Value} (n:Nat),Vals xs us→Vals (xs.take n) (us.take n)
 | _,_,0,_=>.nil
 | _,_,_+1,.nil=>.nil
 | _,_,n+1,.cons r t=>.cons r (Vals.take n t)
theorem Vals.drop:∀{xs:List V} {us:List Value} (n:Nat),Vals xs us→Vals (xs.drop n) (us.drop n)
 | _,_,0,r=>r
 | _,_,_+1,.nil=>.nil
 | _,_,n+1,.cons _ t=>Vals.drop n t
theorem Vals.none_of:∀{xs:List V} {us:List Value} {i:Nat},Vals xs us→xs[i]?=none→us[i]?=none:=fun{xs us i} r e=>by have h1:=r.length;have h2:xs.length≤i:=Dc.mp e;exact Dc.mpr (by lia)
def jD:Option V→Option Value→Prop
 | some v,some u=>RelV v u
 | none,none=>True
 | _,_=>False
def KV{κ:Type}:List (κ×V)→List (κ×Value)→Prop:=Paired fun(p:κ×V) (q:κ×Value)=>p.1=q.1∧RelV p.2 q.2
def kV:Key→V
 | .inl i=>.int i
 | .inr x=>.str x
inductive HO where
 | lst (xs:List V)
 | tup (xs:List V)
 | dK (ar:List (Key×V)) | dT (ar:List (List Key×V))
 | set (S:Int→Bool) (n:Nat)
 | ins (C dx:Addr) (fs:List (Str×V))
 | own (x:Addr)
 | xd (fs:List (Str×V))
 | met (f x:Addr)
 | k_ (lo hi:Int)
 | cW (o:Obj) (u:HO)
 | m7 (ps:Array Value)
 | ext (φ:Heap→Prop)
abbrev Hp:=Addr→Option HO
def upd(H:Hp)(a:Addr)(o:HO):Hp:=fun b=>if b=a then some o else H b
variable {H:Hp} {a:Addr} {o:HO}
theorem az:upd H a o a=some o:=by unfold upd;rw [ai rfl]
variable {b:Addr}
theorem a9(h:b≠a):upd H a o b=H b:=by unfold upd;rw [ao h]
theorem PH{u:HO}(h:H a=some o)(h':H b=some u)(d:o≠u):a≠b:=by intro e;subst e;rw [h] at h';exact d (Option.some.inj h')
theorem gX(h:H a=some o)(h':H b=none):a≠b:=by intro e;subst e;rw [h] at h';cases h'
section
variable (P:Program) (w:World)
def da(H:Hp)(h:Heap)(a:Addr):HO→Prop
 | .lst xs=>xs.length≤sizeLine∧∃(ak:List Value) (n:Nat),Vals xs ak∧h.get? a=some {cls:=.type "list",data:=.seq ak.toArray n}
 | .tup xs=>xs.length≤sizeLine∧∃ak:List Value,Vals xs ak∧IsTup h a ak.toArray
 | .dK ar=>ar.length≤sizeLine∧(a == sysModules)=false∧∃vs,KV ar vs∧h.DictOf (iJ P w) a vs
 | .dT ar=>ar.length≤sizeLine∧(a == sysModules)=false∧∃xs:List (List Key×Addr×Value),
   Paired (fun(p:List Key×V) (q:List Key×Addr×Value)=>p.1=q.1∧H q.2.1=some (.tup (p.1.map kV))∧RelV p.2 q.2.2) ar xs ∧
   ∃o es ep,h.get? a=some o∧o.ExactDict∧o.data=.dict es ep∧es.toList=xs.map (entryOfKey (tupleKind (iJ P w)))∧(xs.map (·.1)).Nodup
 | .set S n=>h.SetOf (intKind P w) a S n
 | .ins C dx fs=>H dx=some (.own a)∧fs.length≤1000∧dx≠a∧h.get? a=some (PySem.W.instObj C dx) ∧
   ∃mA,h.Ns1 dx mA∧(∀f,jD (fs.lookup f) (mA f))∧PySem.Within mA (fs.map (·.1))
 | .own _=>∃o,h.get? a=some o
 | .xd fs=>∃mA,h.Ns1 a mA∧∀f,jD (fs.lookup f) (mA f)
 | .k_ lo hi=>∃t u v,h.get? a=some {cls:=.type "range",data:=.fields #[.int lo t,.int hi u,.int 1 v]}
 | .cW o u=>h.get? a=some o∧da H h a u
 | .m7 ps=>h.get? a=some {cls:=.none,data:=.fields ps}
 | .met f x=>h.get? a=some (PySem.W.methodObj (.ref f) (.ref x))
 | .ext φ=>φ h∧(∃o,h.get? a=some o)∧∀h1 h2:Heap,φ h1→(∀o,h1.get? a=some o→h2.get? a=some o)→φ h2
def cL(H:Hp)(h:Heap):Prop:=∀a o,H a=some o→da P w H h a o
end
section
variable {P:Program} {w:World} {H H':Hp} {h h':Heap} {a:Addr} {o:HO}
theorem da.lt(x:da P w H h a o):a<h.objs.size:=by
 cases o with
 | lst xs=>obtain ⟨_,_,_,_,e⟩:=x;exact cg e
 | tup xs=>obtain ⟨_,_,_,p⟩:=x;exact p.lt
 | dK ar=>obtain ⟨_,_,_,_,o,_,_,e,_⟩:=x;exact cg e
 | dT ar=>obtain ⟨_,_,_,_,o,_,_,e,_⟩:=x;exact cg e
 | set S n=>obtain ⟨o,_,_,_,e,_⟩:=x;exact cg e
 | ins C dx fs=>obtain ⟨_,_,_,e,_⟩:=x;exact cg e
 | own y=>obtain ⟨_,e⟩:=x;exact cg e
 | xd fs=>obtain ⟨_,⟨_,_,_,e,_⟩,_⟩:=x;exact cg e
 | k_ lo hi=>obtain ⟨_,_,_,e⟩:=x;exact cg e
 | cW ob u=>obtain ⟨e,_⟩:=x;exact cg e
 | m7 ps=>exact cg (show h.get? a=some _ from x)
 | met f y=>exact cg (show h.get? a=some _ from x)
 | ext φ=>obtain ⟨_,⟨_,e⟩,_⟩:=x;exact cg e
theorem Paired.Dl{α β:Type}{F G:α→β→Prop}:∀{l₁:List α} {l₂:List β},Paired F l₁ l₂→(∀a b,F a b→G a b)→Paired G l₁ l₂
 | _,_,.nil,_=>.nil
 | _,_,.cons r t,f=>.cons (f _ _ r) (Paired.Dl t f)
theorem da.gf(x:da P w H h a o)(k:∀b u,(b=a∨H b=some (.own a))→h.get? b=some u→h'.get? b=some u)
  (ho:∀b,H b=some (.own a)→H' b=some (.own a)) (ht:∀b xs,H b=some (.tup xs)→H' b=some (.tup xs)):da P w H' h' a o:=by
 induction o with
 | lst xs=>obtain ⟨z,ak,n,r,e⟩:=x;exact ⟨z,ak,n,r,k _ _ (.inl rfl) e⟩
 | tup xs=>obtain ⟨z,ak,r,ob,e,c⟩:=x;exact ⟨z,ak,r,ob,k _ _ (.inl rfl) e,c⟩
 | dK ar=>obtain ⟨z,y,vs,r,ob,es,ep,e,c⟩:=x;exact ⟨z,y,vs,r,ob,es,ep,k _ _ (.inl rfl) e,c⟩
 | dT ar=>obtain ⟨z,y,xs,r,ob,es,ep,e,c⟩:=x;exact ⟨z,y,xs,Paired.Dl r fun p q z=>⟨z.1,ht _ _ z.2.1,z.2.2⟩,ob,es,ep,k _ _ (.inl rfl) e,c⟩
 | set S n=>obtain ⟨ob,es,ep,t,e,c⟩:=x;exact ⟨ob,es,ep,t,k _ _ (.inl rfl) e,c⟩
 | ins C dx fs=>obtain ⟨d,z,ne,e,mA,⟨od,es,ep,e2,c⟩,r⟩:=x;exact ⟨ho _ d,z,ne,k _ _ (.inl rfl) e,mA,⟨od,es,ep,k _ _ (.inr d) e2,c⟩,r⟩
 | own y=>obtain ⟨ob,e⟩:=x;exact ⟨ob,k _ _ (.inl rfl) e⟩
 | xd fs=>obtain ⟨mA,⟨od,es,ep,e,c⟩,r⟩:=x;exact ⟨mA,⟨od,es,ep,k _ _ (.inl rfl) e,c⟩,r⟩
 | k_ lo hi=>obtain ⟨t,u,v,e⟩:=x;exact ⟨t,u,v,k _ _ (.inl rfl) e⟩
 | cW ob u ih=>obtain ⟨e,q⟩:=x;exact ⟨k _ _ (.inl rfl) e,ih q⟩
 | m7 ps=>have e:h.get? a=some {cls:=.none,data:=.fields ps}:=x;show h'.get? a=some {cls:=.none,data:=.fields ps};exact k a _ (.inl rfl) e
 | met f y=>have e:h.get? a=some (PySem.W.methodObj (.ref f) (.ref y)):=x;show h'.get? a=some (PySem.W.methodObj (.ref f) (.ref y));exact k a _ (.inl rfl) e
 | ext φ=>obtain ⟨p,⟨o,e⟩,st⟩:=x;exact ⟨st _ _ p fun o q=>k _ _ (.inl rfl) q,⟨o,k _ _ (.inl rfl) e⟩,st⟩
theorem cL.lt(x:cL P w H h)(e:H a=some o):a<h.objs.size:=(x a o e).lt
theorem cL.fresh(x:cL P w H h)(e:h.objs.size≤a):H a=none:=by
 cases q:H a with
 | none=>rfl
 | some u=>exact absurd (fh (x.lt q) e) (iF _)
theorem cL.kept(x:cL P w H h)(k:∀b u,h.get? b=some u→h'.get? b=some u):cL P w H h':=fun a o e=>(x a o e).gf (fun b u _ q=>k b u q) (fun _ q=>q) fun _ _ q=>q
theorem cL.laid(x:cL P w H h)(k:∀b u,h.get? b=some u→h'.get? b=some u)(hp:h.objs.size≤a)(new:da P w (upd H a o) h' a o):cL P w (upd H a o) h':=fun b u e=>by
 have hn:=x.fresh hp;by_cases hb:b=a;·subst hb;rw [az] at e;cases e;exact new
 ·rw [a9 hb] at e
  exact (x b u e).gf (fun c v _ q=>k c v q) (fun c q=>by rw [a9 (gX q hn)];exact q) fun c xs q=>by rw [a9 (gX q hn)];exact q
end
def Rd(H:Hp)(a:Addr)(u:HO):Prop:=H a=some u∨∃o,H a=some (.cW o u)
variable {P:Program} {w:World} {h:Heap}
theorem Rd.ok{u:HO}(r:Rd H a u)(x:cL P w H h):da P w H h a u:=by
 rcases r with r | ⟨o,r⟩;·exact x a u r
 ·obtain ⟨_,q⟩:=x a _ r
  exact q
def xM:Option HO→Prop
 | some (.lst _)=>True
 | some (.dK _)=>True
 | some (.dT _)=>True
 | some (.set _ _)=>True
 | some (.ins _ _ _)=>True
 | some (.ext _)=>True
 | _=>False
section
variable {P:Program} {w:World} {H:Hp} {h h':Heap} {x e:Addr} {o':HO}
theorem cL.write(ok:cL P w H h)(mu:xM (H x))(he:e=x∨H e=some (.own x))(k:∀b u,b≠e→h.get? b=some u→h'.get? b=some u)(tW:∃u,h'.get? e=some u)
  (new:da P w (upd H x o') h' x o'):cL P w (upd H x o') h':=fun b u q=>by
 have Hk:∀c y,H c=some (.own y)→c≠x:=fun c y r z=>by subst z;rw [r] at mu;exact mu
 have PJ:∀c xs,H c=some (.tup xs)→c≠x:=fun c xs r z=>by subst z;rw [r] at mu;exact mu
 by_cases hb:b=x;·subst hb;rw [az] at q;cases q;exact new
 ·rw [a9 hb] at q
  by_cases pW:b=e
  ·have q':H b=some (.own x):=by
    rcases he with z | z;·exact absurd (pW.trans z) hb
    ·rw [pW];exact z
   rw [q] at q';cases q';obtain ⟨v,hv⟩:=tW;exact ⟨v,by rw [pW];exact hv⟩
  ·refine (ok b u q).gf (fun c v hc r=>k c v ?_ r) (fun c r=>by rw [a9 (Hk c b r)];exact r) fun c xs r=>by rw [a9 (PJ c xs r)];exact r
   rcases hc with rfl | hc;·exact pW
   ·rintro rfl
    rcases he with z | z;·exact Hk c b hc z
    ·rw [hc] at z;cases z;exact hb rfl
end
structure Un (fs ex:List Addr) (H H':Hp) (h h':Heap):Prop where
 keep:∀b o,h.get? b=some o→H b=none→b∉fs→b∉ex→h'.get? b=some o
 slot:∀b o,h.get? b=some o→H b=none→b∈fs→b∉ex→∃sl,h'.get? b=some {o with slots:=sl}
 free:∀b o,h.get? b=some o→H b=none→b∉ex→H' b=none
 there:∀b o,h.get? b=some o→b∉ex→∃o',h'.get? b=some o'
 iK:∀b xs,H b=some (.tup xs)→H' b=some (.tup xs)
 ie:∀b o u,H b=some (.cW o u)→H' b=some (.cW o u)
 iL:∀b ps,H b=some (.m7 ps)→∃more,H' b=some (.m7 (ps++more))
section
variable {fs Dm ex m8:List Addr} {H H1 H2:Hp} {h h1 h2 h':Heap} {a x e:Addr} {o:HO}
theorem Un.any(u:Un fs ex H H1 h h1){ob:Obj}(q:h.get? b=some ob)(n:H b=none)(hx:b∉ex):∃sl,h1.get? b=some {ob with slots:=sl}:=by
 by_cases hb:b∈fs;·exact u.slot b ob q n hb hx
 ·exact ⟨ob.slots,u.keep b ob q n hb hx⟩
theorem Un.kept(k:∀b u,h.get? b=some u→h'.get? b=some u):Un fs ex H H h h':=
 ⟨fun b ob q _ _ _=>k b ob q,fun b ob q _ _ _=>⟨ob.slots,k b ob q⟩,fun _ _ _ n _=>n,fun b ob q _=>⟨ob,k b ob q⟩,fun _ _ q=>q,fun _ _ _ q=>q,fun _ ps q=>⟨#[],by rw [q];simp⟩⟩
theorem Un.refl:Un fs ex H H h h:=Un.kept fun _ _ q=>q
theorem Un.laid(k:∀b u,h.get? b=some u→h'.get? b=some u)(hp:h.objs.size≤a)(hn:H a=none):Un fs ex H (upd H a o) h h' where
 keep:=fun b u q _ _ _=>k b u q
 slot:=fun b u q _ _ _=>⟨u.slots,k b u q⟩
 free:=fun b u q n _=>by rw [a9 (dR (fh (cg q) hp))];exact n
 there:=fun b u q _=>⟨u,k b u q⟩
 iK:=fun b xs q=>by rw [a9 (gX q hn)];exact q
 ie:=fun b u xs q=>by rw [a9 (gX q hn)];exact q
 iL:=fun b ps q=>⟨#[],by rw [a9 (gX q hn),q];simp⟩
theorem Un.write(mu:xM (H x))(he:e=x∨H e=some (.own x))(k:∀b u,b≠e→h.get? b=some u→h'.get? b=some u)(tW:∃u,h'.get? e=some u):Un fs ex H (upd H x o) h h':=by
 have hx:∀b,H b=none→b≠x:=fun b n z=>by subst z;rw [n] at mu;exact mu
 have hb:∀b,H b=none→b≠e:=fun b n z=>by
  subst z;rcases he with r | r;·exact hx b n r
  ·rw [n] at r;cases r
 have hm:∀b u,H b=some u→¬xM (some u)→b≠x:=fun b u q nm z=>by subst z;rw [q] at mu;exact nm mu
 refine ⟨fun b u q n _ _=>k b u (hb b n) q,fun b u q n _ _=>⟨u.slots,k b u (hb b n) q⟩,fun b u q n _=>by rw [a9 (hx b n)];exact n,fun b u q _=>?_,
  fun b xs q=>by rw [a9 (hm b _ q fun z=>z)];exact q,fun b u xs q=>by rw [a9 (hm b _ q fun z=>z)];exact q,fun b ps q=>⟨#[],by rw [a9 (hm b _ q fun z=>z),q];simp⟩⟩
 by_cases pW:b=e;·subst pW;exact tW
 ·exact ⟨u,k b u pW q⟩
end
def Ac(h:Heap)(H:Hp):List Addr:=(List.range h.objs.size).filter fun a=>(H a).isSome
def m9(h:Heap)(H:Hp):Heap:=PySem.W.hideAll h (Ac h H)
theorem PK(h:Heap)(H:Hp):(m9 h H).objs.size=h.objs.size:=PySem.W.hideAll_size _ _
theorem PM{o:Obj}(e:h.get? b=some o)(n:H b=none):(m9 h H).get? b=some o:=
 zK _ e fun hm=>by have q:(H b).isSome=true:=(tM.mp hm).2;rw [n] at q;simp at q
theorem PN{o:Obj}(e:(m9 h H).get? b=some o):h.get? b=some o∧H b=none:=by
 have e':h.get? b=some o:=PySem.W.of_hideAll (Ac h H) e;refine ⟨e',?_⟩;cases q:H b with
 | none=>rfl
 | some x=>
  have hm:b∈Ac h H:=tM.mpr ⟨fB.mpr (cg e'),by simp [q]⟩
  have z:(m9 h H).get? b=none:=PySem.W.hideAll_none (Ac h H) hm;rw [z] at e;cases e
structure Mod (K:aB) (mg:dG) (base:Heap):Prop where
 dA:K.In base
 glob:base.Ns mainGlobals mg
 blt:∃mb,base.Ns builtinsNs mb∧∀x:Str,x ≠ "__name__"→mb x=bootBuiltins x
 nolimit:base.NoLimit
structure Cx where
 prog:Program
 w:World
 K:PySem.W.Frag
 mg:Str→Option Value
 base:Heap
 A:Around
 N:List Str
 s₀:Shared
 H₀:Hp
 env:Env
 outer:List Env
 stack:List Env
 ex:List Addr
 fn:Str→Bool
 calm:Bool
 pn:List (Addr×Obj)
 xe:Value→Shared→Prop
def cY(l:List Env):List Addr:=l.filterMap (·.frame)
abbrev Cx.fs (X:Cx):List Addr:=cY X.outer
def oE(sc:Scope)(x:Str):Prop:=sc.names.lookup x=some .local∨sc.names.lookup x=some .cell∨sc.names.lookup x=some .free
def Loc(sc:Scope)(x:Str):Prop:=sc.names.lookup x=some .local∨sc.names.lookup x=some .cell
def Look(env:Env)(h:Heap)(m:dG)(x:Str)(u:Value):Prop:=
 (env.kindOf x=some .local∧m x=some u)∨((env.kindOf x=some .cell∨env.kindOf x=some .free)∧∃c,env.cells.lookup x=some c∧h.IsCell c (some u))
structure Cx.Ok (X:Cx):Prop where
 mod:Mod X.K X.mg X.base
 kind:X.env.scope.kind=.function
 glob:X.env.globals=mainGlobals
 blt:X.env.builtins=builtinsNs
 above:X.s₀.heap.objs.size≤X.env.locals
 inj:∀x y c,X.env.cells.lookup x=some c→X.env.cells.lookup y=some c→x=y
 has:∀x,(X.env.kindOf x=some .cell∨X.env.kindOf x=some .free)→∃c,X.env.cells.lookup x=some c
 xN:∀x c,X.fn x=true→X.env.cells.lookup x=some c→X.s₀.heap.objs.size≤c
 hd:X.calm=true→X.A.handled=none
 frames:X.A.frames=some X.stack
 jE:X.stack=X.outer∨(X.stack=X.env::X.outer∧X.env.frame=some X.env.locals)
 Hm:∀b∈X.ex,b≠X.env.locals∧∀x c,X.env.cells.lookup x=some c→c≠b
 bs:∀b o,X.base.get? b=some o→X.s₀.heap.get? b=some o∧X.H₀ b=none
 jF:X.base.objs.size≤X.s₀.heap.objs.size
 pX:∀b o,X.base.get? b=some o→b∉X.ex
 pY:∀b∈X.ex,b∉X.fs
 kj:X.s₀.heap.FunFrames X.base X.outer
 m_:∀b∈X.fs,X.H₀ b=none
structure Inv (X:Cx) (pins:bg) (σ:List (Option V)) (H:Hp) (s:Shared):Prop where
 ok:X.Ok
 os:s.os=X.s₀.os
 bare:AllBare s.gens
 base:Un X.fs X.ex X.H₀ H X.s₀.heap s.heap
 loc:∃m,s.heap.Ns X.env.locals m∧∀(i:Nat) (x:Str) (v:V),X.N[i]?=some x→σ[i]?=some (some v)→oE X.env.scope x→∃u,RelV v u∧Look X.env s.heap m x u
 cell:∀x c,X.env.cells.lookup x=some c→∃v,s.heap.IsCell c v
 free:H X.env.locals=none
 ko:∀x c,X.env.cells.lookup x=some c→H c=none
 pin:∀p∈X.pn++pins,s.heap.get? p.1=some p.2∧H p.1=none∧p.1≠X.env.locals∧p.1∉X.fs∧∀v,p.2.data≠.cell v
 aC:cL X.prog X.w H s.heap
 len:σ.length=X.N.length
section
variable {X:Cx} {pins:bg} {σ:List (Option V)} {H H':Hp} {s:Shared} {h':Heap}
theorem Cx.Ok.PQ(ok:X.Ok){o:Obj}(e:X.base.get? b=some o):b∉X.fs:=fun hb=>by have:=(ok.kj.mem hb).1;rw [e] at this;cases this
theorem Inv.bs(I:Inv X pins σ H s):∀b o,X.base.get? b=some o→s.heap.get? b=some o∧H b=none:=fun b o e=>⟨I.base.keep b o (I.ok.bs b o e).1 (I.ok.bs b o e).2 (I.ok.PQ e) (I.ok.pX b o e),I.base.free b o (I.ok.bs b o e).1 (I.ok.bs b o e).2 (I.ok.pX b o e)⟩
theorem Inv.bk(I:Inv X pins σ H s):∀b o,X.base.get? b=some o→s.heap.get? b=some o:=fun b o e=>(I.bs b o e).1
theorem Inv.mod(I:Inv X pins σ H s):Mod X.K X.mg X.base:=I.ok.mod
theorem Inv.d_(I:Inv X pins σ H s):X.K.In s.heap:=I.ok.mod.dA.keeps I.bk
theorem Inv.lt(I:Inv X pins σ H s):X.env.locals<s.heap.objs.size:=let ⟨_,hn,_⟩:=I.loc;hn.lt
theorem Inv.sz(I:Inv X pins σ H s):X.s₀.heap.objs.size≤s.heap.objs.size:=aj I.ok.above (Nat.le_of_lt I.lt)
theorem Inv.PR(I:Inv X pins σ H s)(h:s.heap.objs.size≤a):a∉X.fs:=fun hb=>by obtain ⟨_,o,ho,_⟩:=I.ok.kj.mem hb;exact absurd (fh (cg ho) (aj I.sz h)) (iF _)
theorem Inv.pZ(I:Inv X pins σ H s):∀x c,X.env.cells.lookup x=some c→c≠X.env.locals:=fun x c e z=>by obtain ⟨v,o,ho,hd⟩:=I.cell x c e;obtain ⟨m,⟨o',es,ep,lY,Dn,_⟩,_⟩:=I.loc;rw [z,lY] at ho;cases ho;rw [Dn] at hd;cases hd
theorem Inv.kj(I:Inv X pins σ H s):s.heap.FunFrames X.base X.outer:=by
 have all:∀(l:List Env),(∀b∈cY l,b∈X.fs)→X.s₀.heap.FunFrames X.base l→s.heap.FunFrames X.base l:=by
  intro l
  induction l with
  | nil=>intro _ _;trivial
  | cons env r ih=>
   intro hs hl;obtain ⟨hk,⟨L,o,hf,hn,ho,hd⟩,hr⟩:=hl;have hL:L∈X.fs:=hs L (by unfold cY;rw [zL,hf];exact jy)
   obtain ⟨sl,e⟩:=I.base.slot L o ho (I.ok.m_ L hL) hL fun z=>I.ok.pY L z hL;exact ⟨hk,⟨L,_,hf,hn,e,hd⟩,ih (fun b hb=>hs b (by unfold cY;rw [zL,hf];exact fY _ hb)) hr⟩
 exact all X.outer (fun _ hb=>hb) I.ok.kj
theorem Inv.stack(I:Inv X pins σ H s):s.heap.FunFrames X.base X.stack:=by
 rcases I.ok.jE with e | ⟨e,hf⟩;·rw [e];exact I.kj
 ·rw [e]
  obtain ⟨m,hn,_⟩:=I.loc;refine .cons (by rw [I.ok.kind];decide) hf hn ?_ I.kj
  exact Heap.get?_none_of_le (aj I.ok.jF I.ok.above)
theorem Inv.xO(I:Inv X pins σ H s):∀b∈cY X.stack,b∈X.env.locals::X.fs:=fun b hb=>by
 rcases I.ok.jE with e | ⟨e,hf⟩;·rw [e] at hb;exact fY _ hb
 ·rw [e] at hb
  unfold cY at hb;rw [zL,hf] at hb;exact hb
theorem Inv.xP(I:Inv X pins σ H s):∀b∈cY X.stack,H b=none:=fun b hb=>by
 rcases cH.mp (I.xO b hb) with e | hb;·rw [e];exact I.free
 ·obtain ⟨_,o,ho,_⟩:=I.ok.kj.mem hb
  exact I.base.free b o ho (I.ok.m_ b hb) fun z=>I.ok.pY b z hb
variable {g':Array GenState} {t':Nat} {d':Drawn} {ch:List Addr}
theorem Inv.step(I:Inv X pins σ H s)
  (l0:∀b∈ch,(b∈X.ex∨X.s₀.heap.objs.size≤b)∧b≠X.env.locals∧(∀x c,X.env.cells.lookup x=some c→c≠b)∧∀p∈X.pn++pins,p.1≠b)
  (keep:∀b o,b≠X.env.locals→b∉X.fs→b∉ch→s.heap.get? b=some o→H b=none→h'.get? b=some o)
  (slot:∀b o,b≠X.env.locals→b∈X.fs→b∉ch→s.heap.get? b=some o→H b=none→∃sl,h'.get? b=some {o with slots:=sl}) (free:∀b o,b∉ch→s.heap.get? b=some o→H b=none→H' b=none)
  (there:∀b o,b∉ch→s.heap.get? b=some o→∃o',h'.get? b=some o')
  (iK:∀b xs,H b=some (.tup xs)→H' b=some (.tup xs)) (ie:∀b o u,H b=some (.cW o u)→H' b=some (.cW o u)) (iL:∀b ps,H b=some (.m7 ps)→∃more,H' b=some (.m7 (ps++more)))
  (ns:∀m,s.heap.Ns X.env.locals m→h'.Ns X.env.locals m) (aC:cL X.prog X.w H' h') (hg:AllBare g') :
  Inv X pins σ H' {s with heap:=h',gens:=g',drawn:=d',toks:=t'}:=by
 have Hn:∀b o,X.s₀.heap.get? b=some o→b≠X.env.locals:=fun b o e=>dR (fh (cg e) I.ok.above);have Ad:∀b o,X.s₀.heap.get? b=some o→b∉X.ex→b∉ch:=fun b o e hx hb=>by
  rcases (l0 b hb).1 with z | z;·exact hx z
  ·exact absurd (fh (cg e) z) (iF _)
 have cellK:∀x c,X.env.cells.lookup x=some c→∀v,s.heap.IsCell c v→h'.IsCell c v:=fun x c e v ⟨o,ho,hd⟩=>by
  have xQ:c∉ch:=fun z=>(l0 c z).2.2.1 x c e rfl;by_cases hc:c∈X.fs
  ·obtain ⟨sl,q⟩:=slot c o (I.pZ x c e) hc xQ ho (I.ko x c e)
   exact ⟨_,q,hd⟩
  ·exact ⟨o,keep c o (I.pZ x c e) hc xQ ho (I.ko x c e),hd⟩
 refine ⟨I.ok,I.os,hg,⟨fun b o e n hb hx=>?_,fun b o e n hb hx=>?_,fun b o e n hx=>?_,fun b o e hx=>?_,fun b xs e=>iK b xs (I.base.iK b xs e),fun b o xs e=>ie b o xs (I.base.ie b o xs e),fun b ps e=>?_⟩,?_,fun x c e=>?_,?_,fun x c e=>?_,fun p hp=>?_,aC,I.len⟩;·exact keep b o (Hn b o e) hb (Ad b o e hx) (I.base.keep b o e n hb hx) (I.base.free b o e n hx)
 ·obtain ⟨sl,e1⟩:=I.base.slot b o e n hb hx
  obtain ⟨PU,e2⟩:=slot b _ (Hn b o e) hb (Ad b o e hx) e1 (I.base.free b o e n hx);exact ⟨PU,e2⟩
 ·obtain ⟨o',e1⟩:=I.base.there b o e hx
  exact free b o' (Ad b o e hx) e1 (I.base.free b o e n hx)
 ·obtain ⟨o',e1⟩:=I.base.there b o e hx
  exact there b o' (Ad b o e hx) e1
 ·obtain ⟨m1,e1⟩:=I.base.iL b ps e
  obtain ⟨m2,e2⟩:=iL b _ e1;exact ⟨m1++m2,by rw [e2,Array.append_assoc]⟩
 ·obtain ⟨m,hn,hl⟩:=I.loc
  refine ⟨m,ns m hn,fun i x v e1 e2 e3=>?_⟩;obtain ⟨u,r,l⟩:=hl i x v e1 e2 e3;refine ⟨u,r,?_⟩;rcases l with l | ⟨k,c,e,z⟩;·exact .inl l
  ·exact .inr ⟨k,c,e,cellK x c e _ z⟩
 ·obtain ⟨v,z⟩:=I.cell x c e
  exact ⟨v,cellK x c e v z⟩
 ·obtain ⟨m,⟨o,_,_,ho,_⟩,_⟩:=I.loc
  exact free _ o (fun z=>(l0 _ z).2.1 rfl) ho I.free
 ·obtain ⟨v,o,ho,hd⟩:=I.cell x c e
  exact free c o (fun z=>(l0 c z).2.2.1 x c e rfl) ho (I.ko x c e)
 ·obtain ⟨e,n,ne,nf,d⟩:=I.pin p hp
  have xQ:p.1∉ch:=fun z=>(l0 p.1 z).2.2.2 p hp rfl;exact ⟨keep p.1 p.2 ne nf xQ e n,free p.1 p.2 xQ e n,ne,nf,d⟩
theorem Inv.un(I:Inv X pins σ H s)(u:Un X.fs [] H H' s.heap h')(aC:cL X.prog X.w H' h'):Inv X pins σ H' {s with heap:=h',toks:=t'}:=by
 obtain ⟨m,⟨o,es,ep,ho,r⟩,_⟩:=id I.loc;obtain ⟨sl,hL⟩:=u.any ho I.free (by simp)
 exact I.step (g':=s.gens) (d':=s.drawn) (ch:=[]) (fun _ z=>nomatch z) (fun b o _ hb _ e n=>u.keep b o e n hb (by simp)) (fun b o _ hb _ e n=>u.slot b o e n hb (by simp)) (fun b o _ e n=>u.free b o e n (by simp)) (fun b o _ e=>u.there b o e (by simp)) u.iK u.ie u.iL (fun m' hm=>by obtain ⟨o',Dp,Dq,lY,r'⟩:=hm;rw [ho] at lY;cases lY;exact ⟨_,Dp,Dq,hL,r'⟩) aC I.bare
theorem Inv.call(I:Inv X pins σ H s)(u:Un (cY X.stack) ch H H' s.heap h')(aC:cL X.prog X.w H' h')(hg:AllBare g')
  (l0:∀b∈ch,(b∈X.ex∨X.s₀.heap.objs.size≤b)∧b≠X.env.locals∧(∀x c,X.env.cells.lookup x=some c→c≠b)∧∀p∈X.pn++pins,p.1≠b) :
  Inv X pins σ H' {s with heap:=h',gens:=g',drawn:=d',toks:=t'}:=by
 obtain ⟨m,⟨o,es,ep,ho,r⟩,_⟩:=id I.loc;obtain ⟨sl,hL⟩:=u.any ho I.free fun z=>(l0 _ z).2.1 rfl;exact I.step (ch:=ch) l0 (fun b o hL hb hc e n=>u.keep b o e n (fun z=>(cH.mp (I.xO b z)).elim hL hb) hc) (fun b o _ _ hc e n=>u.any e n hc) (fun b o hc e n=>u.free b o e n hc) (fun b o hc e=>u.there b o e hc) u.iK u.ie u.iL (fun m' hm=>by obtain ⟨o',Dp,Dq,lY,r'⟩:=hm;rw [ho] at lY;cases lY;exact ⟨_,Dp,Dq,hL,r'⟩) aC hg
theorem Inv.turned{it:Addr}(I:Inv X pins σ H s)(k:∀b o,b≠it→s.heap.get? b=some o→h'.get? b=some o)(hn:H it=none)(hL:it≠X.env.locals)
  (h1:it∈X.ex∨X.s₀.heap.objs.size≤it) (h2:∀x c,X.env.cells.lookup x=some c→c≠it) (h3:∀p∈X.pn++pins,p.1≠it):Inv X pins σ H {s with heap:=h',toks:=t'}:=by
 have HI:∀b u,H b=some u→b≠it:=fun b u e z=>by rw [z,hn] at e;cases e
 refine I.step (g':=s.gens) (d':=s.drawn) (ch:=[it]) (fun b hb=>?_) (fun b o _ _ hc e _=>k b o (fun z=>hc (by simp [z])) e) (fun b o _ _ hc e _=>⟨o.slots,k b o (fun z=>hc (by simp [z])) e⟩) (fun _ _ _ _ n=>n)
  (fun b o hc e=>⟨o,k b o (fun z=>hc (by simp [z])) e⟩) (fun _ _ e=>e) (fun _ _ _ e=>e) (fun b ps e=>⟨#[],by rw [e];simp⟩) (fun m hm=>?_) (fun b u e=>?_) I.bare
 ·have e:b=it:=by simpa using hb
  subst e;exact ⟨h1,hL,h2,h3⟩
 ·obtain ⟨o,es,ep,ho,r⟩:=hm
  exact ⟨o,es,ep,k _ o (Ne.symm hL) ho,r⟩
 ·refine (I.aC b u e).gf (fun c v hc q=>k c v ?_ q) (fun _ q=>q) fun _ _ q=>q
  rcases hc with z | z;·rw [z];exact HI b u e
  ·exact HI c _ z
theorem Inv.tok(I:Inv X pins σ H s)(t:Nat):Inv X pins σ H {s with toks:=t}:=I.un (h':=s.heap) (t':=t) Un.refl I.aC
theorem Inv.kept(I:Inv X pins σ H s)(k:∀b u,s.heap.get? b=some u→h'.get? b=some u):Inv X pins σ H {s with heap:=h',toks:=t'}:=I.un (Un.kept k) (I.aC.kept k)
theorem Inv.laid(I:Inv X pins σ H s)(k:∀b u,s.heap.get? b=some u→h'.get? b=some u)(hp:s.heap.objs.size≤a)(new:da X.prog X.w (upd H a o) h' a o) :
  Inv X pins σ (upd H a o) {s with heap:=h',toks:=t'}:=I.un (Un.laid k hp (I.aC.fresh hp)) (I.aC.laid k hp new)
theorem Inv.write{x e:Addr}(I:Inv X pins σ H s)(mu:xM (H x))(he:e=x∨H e=some (.own x))(k:∀b u,b≠e→s.heap.get? b=some u→h'.get? b=some u)(tW:∃u,h'.get? e=some u)
  (new:da X.prog X.w (upd H x o) h' x o):Inv X pins σ (upd H x o) {s with heap:=h',toks:=t'}:=I.un (Un.write mu he k tW) (I.aC.write mu he k tW new)
theorem Inv.Ib{Ic:bg}(I:Inv X pins σ H s)(h:∀p∈Ic,s.heap.get? p.1=some p.2∧H p.1=none∧p.1≠X.env.locals∧p.1∉X.fs∧∀v,p.2.data≠.cell v):Inv X Ic σ H s:=
 ⟨I.ok,I.os,I.bare,I.base,I.loc,I.cell,I.free,I.ko,fun p hp=>(i7.mp hp).elim (fun z=>I.pin p (xn _ z)) (h p),I.aC,I.len⟩
variable {i:Nat} {x:Str}
theorem Ie{N:List Str}(hN:N.Nodup){j:Nat}(a:N[i]?=some x)(b:N[j]?=some x):i=j:=by obtain ⟨h1,e1⟩:=b6.mp a;obtain ⟨h2,e2⟩:=b6.mp b;exact (List.getElem_inj hN).mp (e1.trans e2.symm)
variable {M:Model} {A:Around} {E:aV} {v:V} {u:Value} {Q:Unit→Shared→Prop}
theorem Ig(I:Inv X pins σ H s)(hN:X.N.Nodup)(hi:X.N[i]?=some x)(hx:Loc X.env.scope x)(r:RelV v u)
  (h:∀s',Inv X pins (σ.set i (some v)) H s'→(∃a,Heap.SameBut a s.heap s'.heap∧(a=X.env.locals∨X.env.cells.lookup x=some a))→Q () s') (hf:X.fn x=true∨X.env.scope.names.lookup x=some .local:=by first | exact .inl rfl | exact .inr rfl | assumption):wpAny M A (storeName X.env x u) Q E s:=by
 obtain ⟨m,hn,hl⟩:=id I.loc;have PV:(X.env.scope.kind == .class || (X.env.scope.kind == .module && X.env.locals != X.env.globals))=false:=by rw [I.ok.kind];rfl
 have Ih:i<σ.length:=by rw [I.len];exact (b6.mp hi).1
 have pZ:=I.pZ;have tracked:∀{a:Addr} {h':Heap},(∃o,s.heap.get? a=some o∧H a=none)→Heap.SameBut a s.heap h'→cL X.prog X.w H h':=fun{a h'} ha hs b ob e=>by
  obtain ⟨_,_,Ii⟩:=ha;refine (I.aC b ob e).gf (fun c w' hc q=>(hs.2 c ?_).trans q) (fun _ q=>q) fun _ _ q=>q;rintro rfl;rcases hc with rfl | hc;·rw [Ii] at e;cases e
  ·rw [Ii] at hc;cases hc
 rcases hx with hk | hk
 ·refine wpAny_storeName_local hk hn (fun h' PX hs=>?_) PV
  obtain ⟨oL,_,_,PY,_⟩:=id hn;refine h _ ⟨I.ok,I.os,I.bare,⟨fun b o e n hb hx=>?_,fun b o e n hb hx=>?_,I.base.free,fun b o e hx=>?_,I.base.iK,I.base.ie,I.base.iL⟩,⟨_,PX,fun j y v' e1 e2 e3=>?_⟩,fun y c e=>?_,I.free,I.ko,fun p hp=>?_,tracked ⟨oL,PY,I.free⟩ hs,by simpa using I.len⟩ ⟨_,hs,.inl rfl⟩
  ·exact (hs.2 b (dR (fh (cg e) I.ok.above))).trans (I.base.keep b o e n hb hx)
  ·obtain ⟨sl,e1⟩:=I.base.slot b o e n hb hx
   exact ⟨sl,(hs.2 b (dR (fh (cg e) I.ok.above))).trans e1⟩
  ·obtain ⟨o',e1⟩:=I.base.there b o e hx
   exact ⟨o',(hs.2 b (dR (fh (cg e) I.ok.above))).trans e1⟩
  ·by_cases hj:j=i
   ·subst hj
    rw [hi] at e1;cases e1;rw [Dd Ih] at e2;cases e2;exact ⟨u,r,.inl ⟨hk,by simp⟩⟩
   ·rw [List.getElem?_set_ne (Ne.symm hj)] at e2
    obtain ⟨u',r',q⟩:=hl j y v' e1 e2 e3;refine ⟨u',r',?_⟩;rcases q with ⟨k,e⟩ | ⟨k,c,e,z⟩
    ·refine .inl ⟨k,?_⟩
     have:y≠x:=fun e=>hj (Ie hN e1 (e▸hi));simp [this,e]
    ·exact .inr ⟨k,c,e,z.sameBut hs (pZ y c e)⟩
  ·obtain ⟨w',z⟩:=I.cell y c e
   exact ⟨w',z.sameBut hs (pZ y c e)⟩
  ·obtain ⟨e,n,ne,nf,d⟩:=I.pin p hp
   exact ⟨(hs.2 p.1 ne).trans e,n,ne,nf,d⟩
 ·have Dr:X.fn x=true:=by
   rcases hf with z | z;·exact z
   ·rw [z] at hk;cases hk
  obtain ⟨c,hc⟩:=I.ok.has x (.inl hk);obtain ⟨w',z⟩:=I.cell x c hc;refine wpAny_storeName_cell I.ok.kind hk hc z (fun h' dN hs=>?_);obtain ⟨oc,Ij,PZ⟩:=id z;refine h {s with heap:=h'} ⟨I.ok,I.os,I.bare,⟨fun b o e n hb hx=>?_,fun b o e n hb hx=>?_,I.base.free,fun b o e hx=>?_,I.base.iK,I.base.ie,I.base.iL⟩,⟨m,hn.sameBut hs (Ne.symm (pZ x c hc)),fun j y v' e1 e2 e3=>?_⟩,fun y c' e=>?_,I.free,I.ko,fun p hp=>?_,tracked ⟨oc,Ij,I.ko x c hc⟩ hs,by simpa using I.len⟩ ⟨c,hs,.inr hc⟩
  ·exact (hs.2 b (dR (fh (cg e) (I.ok.xN x c Dr hc)))).trans (I.base.keep b o e n hb hx)
  ·obtain ⟨sl,e1⟩:=I.base.slot b o e n hb hx
   exact ⟨sl,(hs.2 b (dR (fh (cg e) (I.ok.xN x c Dr hc)))).trans e1⟩
  ·obtain ⟨o',e1⟩:=I.base.there b o e hx
   exact ⟨o',(hs.2 b (dR (fh (cg e) (I.ok.xN x c Dr hc)))).trans e1⟩
  ·by_cases hj:j=i
   ·subst hj
    rw [hi] at e1;cases e1;rw [Dd Ih] at e2;cases e2;exact ⟨u,r,.inr ⟨.inl hk,c,hc,dN⟩⟩
   ·rw [List.getElem?_set_ne (Ne.symm hj)] at e2
    obtain ⟨u',r',q⟩:=hl j y v' e1 e2 e3;refine ⟨u',r',?_⟩;rcases q with q | ⟨k,c',e,z'⟩;·exact .inl q
    ·refine .inr ⟨k,c',e,z'.sameBut hs ?_⟩
     rintro rfl;exact hj (Ie hN e1 (I.ok.inj _ _ _ e hc▸hi))
  ·by_cases Ik:c'=c
   ·subst Ik;exact ⟨_,dN⟩
   ·obtain ⟨w2,z2⟩:=I.cell y c' e
    exact ⟨w2,z2.sameBut hs Ik⟩
  ·obtain ⟨e,n,ne,nf,d⟩:=I.pin p hp
   refine ⟨(hs.2 p.1 ?_).trans e,n,ne,nf,d⟩;intro q;rw [q,Ij] at e;have q':oc=p.2:=Option.some.inj e;exact d w' (by rw [←q'];exact PZ)
theorem xR(I:Inv X pins σ H s)(hN:X.N.Nodup)(hi:X.N[i]?=some x)(hx:Loc X.env.scope x)(r:RelV v u)
  (h:∀s',Inv X pins (σ.set i (some v)) H s'→Q () s') (hf:X.fn x=true∨X.env.scope.names.lookup x=some .local:=by first | exact .inl rfl | exact .inr rfl | assumption):wpAny M A (storeName X.env x u) Q E s:=
 Ig I hN hi hx r (fun s' I' _=>h s' I') hf
theorem Inv.oF{s':Shared}(I:Inv X pins σ H s)(ho:s'.os=s.os)(u:Un (cY X.stack) ch H H' s.heap s'.heap)(aC:cL X.prog X.w H' s'.heap)(hg:AllBare s'.gens)
  (l0:∀b∈ch,(b∈X.ex∨X.s₀.heap.objs.size≤b)∧b≠X.env.locals∧(∀x c,X.env.cells.lookup x=some c→c≠b)∧∀p∈X.pn++pins,p.1≠b):Inv X pins σ H' s':=by
 obtain ⟨h',g',d',t',o'⟩:=s';have e:o'=s.os:=ho;subst e;exact I.call (g':=g') (t':=t') (d':=d') u aC hg l0
end
abbrev XK:=Value→Option Addr→Hp→Prop
abbrev St:=List (Option V)
abbrev VK:=V→Hp→Prop
abbrev TE:=St→Hp→VK→Prop
abbrev TT:=St→Hp→(Bool→Hp→Prop)→Prop
abbrev TA:=St→Hp→(List V→Hp→Prop)→Prop
structure Ends where
 nx:St→Hp→Prop
 rt:VK
 bk:St→Hp→Prop:=fun _ _=>False
 ct:St→Hp→Prop:=fun _ _=>False
abbrev TS:=Ends→St→Hp→Prop
def EP(X:Cx)(pins:bg)(σ:St)(Q:VK)(u:Value)(s':Shared):Prop:=∃v H',Inv X pins σ H' s'∧RelV v u∧Q v H'
def TP(X:Cx)(pins:bg)(σ:St)(Q:Bool→Hp→Prop)(b:Bool)(s':Shared):Prop:=∃H',Inv X pins σ H' s'∧Q b H'
def AP(X:Cx)(pins:bg)(σ:St)(Q:List V→Hp→Prop)(us:List Value)(s':Shared):Prop:=∃vs H',Inv X pins σ H' s'∧Vals vs us∧Q vs H'
def SP(X:Cx)(pins:bg)(D:Ends)(f:Flow)(s':Shared):Prop:=
 match f with
 | .next=>∃σ' H',Inv X pins σ' H' s'∧D.nx σ' H'
 | .brk=>∃σ' H',Inv X pins σ' H' s'∧D.bk σ' H'
 | .cont=>∃σ' H',Inv X pins σ' H' s'∧D.ct σ' H'
 | .ret u=>∃v σ' H',Inv X pins σ' H' s'∧RelV v u∧D.rt v H'
def PE(X:Cx)(e:Expr)(t:TE):Prop:=
 ∀(pins:bg) (s:Shared) (σ:St) (H:Hp) (Q:VK),Inv X pins σ H s→t σ H Q→wpAny (model X.prog X.w) X.A (eval e X.env) (EP X pins σ Q) X.xe s
def PT(X:Cx)(e:Expr)(t:TT):Prop:=
 ∀(pins:bg) (s:Shared) (σ:St) (H:Hp) (Q:Bool→Hp→Prop),Inv X pins σ H s→t σ H Q→wpAny (model X.prog X.w) X.A (isTrue e X.env (eval e X.env)) (TP X pins σ Q) X.xe s
def PW(X:Cx)(e:Expr)(t:TT):Prop:=
 ∀(whole:Sem Value) (pins:bg) (s:Shared) (σ:St) (H:Hp) (Q:Bool→Hp→Prop),Inv X pins σ H s→t σ H Q→wpAny (model X.prog X.w) X.A (isTrue e X.env whole) (TP X pins σ Q) X.xe s
variable {X:Cx}
theorem PW.pt{e:Expr}{t:TT}(h:PW X e t):PT X e t:=h _
def PA(X:Cx)(es:List Expr)(t:TA):Prop:=
 ∀(pos:Pos) (pins:bg) (s:Shared) (σ:St) (H:Hp) (Q:List V→Hp→Prop),Inv X pins σ H s→t σ H Q→wpAny (model X.prog X.w) X.A (spliced (backTo pos (starEach es X.env))) (AP X pins σ Q) X.xe s
def PS(X:Cx)(st:Stmt)(t:TS):Prop:=
 ∀(pins:bg) (s:Shared) (σ:St) (H:Hp) (D:Ends),Inv X pins σ H s→t D σ H→wpAny (model X.prog X.w) X.A (exec st X.env) (SP X pins D) X.xe s
def fb(X:Cx)(st:List Stmt)(t:TS):Prop:=
 ∀(pins:bg) (s:Shared) (σ:St) (H:Hp) (D:Ends),Inv X pins σ H s→t D σ H→wpAny (model X.prog X.w) X.A (execs st X.env) (SP X pins D) X.xe s
variable {M:Model} {A:Around} {E:aV} {s:Shared}
theorem aS{α:Type}{t:Sem α}{Q Q':α→Shared→Prop}(h:wpAny M A t Q E s)(hQ:∀a s,Q a s→Q' a s):wpAny M A t Q' E s:=dw h hQ fun _ _ x=>x
section
variable {X:Cx}
variable {pins:bg} {σ:St}
theorem bin{a b:Expr}{ta tb:TE}(ha:PE X a ta)(hb:PE X b tb){R:V→V→Hp→Prop}(I:Inv X pins σ H s)(h:ta σ H fun x H1=>tb σ H1 fun y H2=>R x y H2)
  {α:Type} {Q:α→Shared→Prop} {f:Value→Value→Sem α}
  (hf:∀v u s2 x y H2,Inv X pins σ H2 s2→RelV x v→RelV y u→R x y H2→wpAny (model X.prog X.w) X.A (f v u) Q X.xe s2) :
  wpAny (model X.prog X.w) X.A (eval a X.env) (fun v s₁=>wpAny (model X.prog X.w) X.A (eval b X.env) (fun u s₂=>wpAny (model X.prog X.w) X.A (f v u) Q X.xe s₂) X.xe s₁) X.xe s:=by
 refine aS (ha pins s σ H _ I h) fun v s1 ⟨x,H1,I1,r1,q1⟩=>?_;refine aS (hb pins s1 σ H1 _ I1 q1) fun u s2 ⟨y,H2,I2,r2,q2⟩=>?_;exact hf v u s2 x y H2 I2 r1 r2 q2
def Il(i:Nat):TE:=fun σ H Q=>∃v,σ[i]?=some (some v)∧Q v H
def tC(v:V):TE:=fun _ H Q=>Q v H
variable {x:Str} {pos:Pos}
theorem P1{i:Nat}(hN:X.N[i]?=some x)(hv:oE X.env.scope x)(hd:(x == ("__debug__":Str))=false:=by decide)(gg:(x == ("__classdict__":Str))=false:=by decide):PE X (.Name x pos) (Il i):=by
 intro pins s σ H Q I h;obtain ⟨v,e,h⟩:=h;obtain ⟨m,hn,hl⟩:=I.loc;obtain ⟨u,r,l⟩:=hl i x v hN e hv;have fin:EP X pins σ Q u s:=⟨v,H,I,r,h⟩;rcases l with ⟨hk,hm⟩ | ⟨hk,c,hc,Ae⟩;·exact wpAny_Name (wpAny_loadName_local I.ok.kind hk hn hm fin) hd
 ·rcases hk with hk | hk
  ·exact wpAny_Name (wpAny_loadName_cell I.ok.kind hk hc Ae fin) hd
  ·exact wpAny_Name (wpAny_loadName_free I.ok.kind hk hc Ae fin gg) hd
theorem af{i j pos}:PE X (.Constant (.int i) j pos) (tC (.int i)):=fun _ _ _ H _ I h=>wpAny_Constant_int ⟨.int i,H,I.tok _,⟨_,rfl⟩,h⟩
theorem i_{b j pos}:PE X (.Constant (.bool b) j pos) (tC (.bl b)):=fun _ _ _ H _ I h=>Constant_bool ⟨.bl b,H,I,rfl,h⟩
theorem ng{j pos}:PE X (.Constant .none j pos) (tC .bh):=fun _ _ _ H _ I h=>Constant_none ⟨.bh,H,I,rfl,h⟩
theorem fc{x j pos}:PE X (.Constant (.str x) j pos) (tC (.str x)):=fun _ _ _ H _ I h=>Calls.Constant_str ⟨.str x,H,I.tok _,⟨_,rfl⟩,h⟩
def Gl(X:Cx)(x:Str):Prop:=X.env.kindOf x=some .globalImplicit
variable {u:Value} {Q:aV}
theorem Af(I:Inv X pins σ H s)(hg:Gl X x)(hm:X.mg x=some u)(h:Q u s)
  (hd:(x == ("__debug__":Str))=false:=by decide):wpAny (model X.prog X.w) X.A (eval (.Name x pos) X.env) Q E s:=
 Calls.Name_function_global I.ok.kind hg (Calls.loadGlobal_global (by rw [I.ok.glob];exact I.mod.glob.keeps I.bk) hm h) hd
theorem oG(I:Inv X pins σ H s)(hg:Gl X x)(hm:X.mg x=none)(hv:bootBuiltins x=some u)(h:Q u s)
  (hn:x ≠ "__name__":=by decide) (hd:(x == ("__debug__":Str))=false:=by decide):wpAny (model X.prog X.w) X.A (eval (.Name x pos) X.env) Q E s:=by
 obtain ⟨mb,h1,h2⟩:=I.mod.blt;exact Calls.Name_function_global I.ok.kind hg (Calls.loadGlobal_builtin (by rw [I.ok.glob];exact I.mod.glob.keeps I.bk) hm (by rw [I.ok.blt];exact h1.keeps I.bk) ((h2 x hn).trans hv) h) hd
variable {v:V}
theorem Dt(hg:Gl X x)(hm:X.mg x=some u)(r:RelV v u)(hd:(x == ("__debug__":Str))=false:=by decide):PE X (.Name x pos) (tC v):=
 fun _ _ _ H _ I h=>Af I hg hm ⟨v,H,I,r,h⟩ hd
theorem iM(hg:Gl X x)(hm:X.mg x=none)(hv:bootBuiltins x=some u)(r:RelV v u)(hn:x ≠ "__name__":=by decide)(hd:(x == ("__debug__":Str))=false:=by decide):PE X (.Name x pos) (tC v):=
 fun _ _ _ H _ I h=>oG I hg hm hv ⟨v,H,I,r,h⟩ hn hd
variable {a b:Expr} {ta tb:TE} {pos:Pos}
def PC(X:Cx)(op:CmpOp)(a b:Expr)(t:TE):Prop:=
 ∀(pins:bg) (s:Shared) (σ:St) (H:Hp) (Q:VK),Inv X pins σ H s→t σ H Q→
  wpAny (model X.prog X.w) X.A (eval a X.env) (fun v s₁=>wpAny (model X.prog X.w) X.A (eval b X.env) (fun u s₂=>wpAny (model X.prog X.w) X.A (compareOp op v u) (EP X pins σ Q) X.xe s₂) X.xe s₁) X.xe s
def tB(t:TE):TT:=fun σ H Q=>t σ H fun x H1=>∃c,x=.bl c∧Q c H1
variable {t:TE}
theorem aca{op:CmpOp}(h:PC X op a b t)(h1:behindInMarks op b=false:=by first | exact acb _ (by decide) (by decide) | rfl):PT X (.Compare a [op] [b] pos) (tB t):=by intro pins s σ H Q I hw;refine wpAny_isTrue_Compare1 (aS (h pins s σ H _ I hw) fun v s1 h1=>aS h1 fun u s2 h2=>aS h2 fun c s3 ⟨x,H1,I1,r1,q1⟩=>?_) h1;obtain ⟨d,rfl,q⟩:=q1;cases r1;exact mO ⟨H1,I1,q⟩
theorem iO{e:Expr}(h:PE X e t)(he:∀whole,isTrue e X.env whole=(do let v ←whole;standAt e.pos;holding [v] (truthy v)):=by intro _;rfl):PT X e (tB t):=by
 intro pins s σ H Q I hw
 refine isTrue_plain (aS (h pins s σ H _ I hw) fun v s1 ⟨x,H1,I1,r1,q1⟩=>?_) (he _)
 obtain ⟨d,rfl,q⟩:=q1
 cases r1
 exact mO ⟨H1,I1,q⟩
variable {tA xS:TT} {rest:List Expr}
def P2(t u:TT):TT:=fun σ H Q=>t σ H fun c H1=>if c=true then u σ H1 Q else Q false H1
def P4(t u:TT):TT:=fun σ H Q=>t σ H fun c H1=>if c=true then Q true H1 else u σ H1 Q
def Im(t:TT):TT:=fun σ H Q=>t σ H fun c H1=>Q (!c) H1
theorem pw_and1(ha:PT X a tA):PW X (.BoolOp .And [a] pos) tA:=by
 intro wh pins s σ H Q I h;refine isTrue_and (aS (ha pins s σ H Q I h) fun c s1 e=>?_);cases c with
 | true=>exact isTrue_and_nil e
 | false=>exact e
theorem pw_or1(ha:PT X a tA):PW X (.BoolOp .Or [a] pos) tA:=by
 intro wh pins s σ H Q I h;refine isTrue_or (aS (ha pins s σ H Q I h) fun c s1 e=>?_);cases c with
 | false=>exact isTrue_or_nil e
 | true=>exact e
theorem pw_and(ha:PT X a tA)(hb:PW X (.BoolOp .And (b::rest) pos) xS):PW X (.BoolOp .And (a::b::rest) pos) (P2 tA xS):=by
 intro wh pins s σ H Q I h;refine isTrue_and (aS (ha pins s σ H _ I h) fun c s1 ⟨H1,I1,q1⟩=>?_);cases c with
 | true=>exact hb wh pins s1 σ H1 Q I1 q1
 | false=>exact ⟨H1,I1,q1⟩
theorem pw_or(ha:PT X a tA)(hb:PW X (.BoolOp .Or (b::rest) pos) xS):PW X (.BoolOp .Or (a::b::rest) pos) (P4 tA xS):=by
 intro wh pins s σ H Q I h;refine isTrue_or (aS (ha pins s σ H _ I h) fun c s1 ⟨H1,I1,q1⟩=>?_);cases c with
 | true=>exact ⟨H1,I1,q1⟩
 | false=>exact hb wh pins s1 σ H1 Q I1 q1
theorem l5(ha:PT X a tA):PT X (.UnaryOp .Not a pos) (Im tA):=by intro pins s σ H Q I h;exact isTrue_not (ha pins s σ H (fun c H1=>Q (!c) H1) I h)
def P5(ta tb:TE):TE:=fun σ H Q=>ta σ H fun x H1=>∃c,x=.bl c∧if c=true then tb σ H1 Q else Q (.bl false) H1
def P6(ta:TE):TE:=fun σ H Q=>ta σ H fun x H1=>∃c,x=.bl c∧Q (.bl (!c)) H1
theorem tX{op}(h:PE X a t):PE X (.BoolOp op [a] pos) t:=fun pins s σ H Q I hw=>BoolOp_one (h pins s σ H Q I hw)
theorem nh(ha:PE X a ta)(hb:PE X (.BoolOp .And (b::rest) pos) tb):PE X (.BoolOp .And (a::b::rest) pos) (P5 ta tb):=by
 intro pins s σ H Q I h;refine BoolOp_and (aS (ha pins s σ H _ I h) fun v s1 ⟨x,H1,I1,r1,q1⟩=>?_);obtain ⟨c,rfl,q1⟩:=q1;cases r1;refine mO ?_;cases c with
 | true=>exact hb pins s1 σ H1 Q I1 q1
 | false=>exact ⟨.bl false,H1,I1,rfl,q1⟩
theorem Io(ha:PE X a ta):PE X (.UnaryOp .Not a pos) (P6 ta):=by intro pins s σ H Q I h;refine UnaryOp_ (aS (ha pins s σ H _ I h) fun v s1 ⟨x,H1,I1,r1,q1⟩=>?_);obtain ⟨c,rfl,q1⟩:=q1;cases r1;exact not_of (mO ⟨.bl (!c),H1,I1,rfl,q1⟩)
end
def aZ(K:aB)(H:Hp)(a:Addr)(xs:List V):Prop:=
 Rd H a (.lst xs) ∨
  ∃(o:Obj) (ak:Array Value) (n:Nat),K.lookup a=some o∧o.cls=.type "list"∧o.dict=none∧o.data=.seq ak n∧ak.size≤sizeLine∧Vals xs ak.toList
def dH(K:aB)(H:Hp)(a:Addr)(xs:List V):Prop:=
 Rd H a (.tup xs) ∨
  ∃(o:Obj) (ak:Array Value) (n:Nat),K.lookup a=some o∧o.cls=.type "tuple"∧o.data=.seq ak n∧ak.size≤sizeLine∧Vals xs ak.toList
def P7:Value→Option V
 | .none=>some .bh
 | .bool b=>some (.bl b)
 | .int i _=>some (.int i)
 | .str x _=>some (.str x)
 | .bytes b _=>some (.i9 b)
 | .float b _=>some (.pV b)
 | .ref a=>some (.ref a)
 | .type n=>some (.ty n)
 | _=>none
variable {x:V} {u:Value}
theorem RelV.abs(r:RelV x u):P7 u=some x:=by
 cases x with
 | bh=>cases r;rfl
 | bl _=>cases r;rfl
 | int _=>obtain ⟨t,rfl⟩:=r;rfl
 | str _=>obtain ⟨t,rfl⟩:=r;rfl
 | i9 _=>obtain ⟨t,rfl⟩:=r;rfl
 | pV _=>obtain ⟨t,rfl⟩:=r;rfl
 | ref _=>cases r;rfl
 | ty _=>cases r;rfl
theorem RelV.inj{y:V}(r:RelV x u)(q:RelV y u):x=y:=Option.some.inj (r.abs.symm.trans q.abs)
theorem Vals.inj:∀{xs ys:List V} {us:List Value},Vals xs us→Vals ys us→xs=ys
 | _,_,_,.nil,.nil=>rfl
 | _,_,_,.cons r t,.cons r' t'=>by rw [r.inj r',Vals.inj t t']
section
variable {X:Cx} {pins:bg} {σ:St} {H:Hp} {s:Shared} {a:Addr} {xs ys:List V}
variable {K:aB}
theorem aZ.of(h:H a=some (.lst xs)):aZ K H a xs:=.inl (.inl h)
theorem dH.of(h:H a=some (.tup xs)):dH K H a xs:=.inl (.inl h)
theorem Inv.list(I:Inv X pins σ H s)(h:aZ X.K H a xs):∃ak:List Value,Vals xs ak∧PlainL s.heap a ak.toArray∧xs.length≤sizeLine:=by
 rcases h with h | ⟨o,ak,n,hk,hc,hd,hs,hz,r⟩
 ·obtain ⟨z,ak,n,r,e⟩:=h.ok I.aC
  exact ⟨ak,r,⟨_,n,e,rfl,rfl,rfl⟩,z⟩
 ·refine ⟨ak.toList,r,⟨o,n,I.d_ a o hk,hc,hd,by simpa using hs⟩,?_⟩
  have e:=r.length;simp only [zM] at e;lia
theorem Inv.tuple(I:Inv X pins σ H s)(h:dH X.K H a xs):∃ak:List Value,Vals xs ak∧IsTup s.heap a ak.toArray∧xs.length≤sizeLine:=by
 rcases h with h | ⟨o,ak,n,hk,hc,hs,hz,r⟩
 ·obtain ⟨z,ak,r,p⟩:=h.ok I.aC
  exact ⟨ak,r,p,z⟩
 ·refine ⟨ak.toList,r,⟨o,I.d_ a o hk,hc,n,by simpa using hs⟩,?_⟩
  have e:=r.length;simp only [zM] at e;lia
theorem Inv.xT(I:Inv X pins σ H s)(h:aZ X.K H a xs)(h':aZ X.K H a ys):xs=ys:=by
 obtain ⟨ak,r,⟨o,n,e,_,_,d⟩,_⟩:=I.list h;obtain ⟨its',r',⟨o',n',e',_,_,d'⟩,_⟩:=I.list h';rw [e] at e';cases e';rw [d] at d';injection d' with d1 _;have:ak=its':=by simpa using eY Array.toList d1
 subst this;exact r.inj r'
theorem Inv.P8(I:Inv X pins σ H s)(h:dH X.K H a xs)(h':dH X.K H a ys):xs=ys:=by
 obtain ⟨ak,r,⟨o,e,_,n,d⟩,_⟩:=I.tuple h;obtain ⟨its',r',⟨o',e',_,n',d'⟩,_⟩:=I.tuple h';rw [e] at e';cases e';rw [d] at d';injection d' with d1 _;have:ak=its':=by simpa using eY Array.toList d1
 subst this;exact r.inj r'
end
abbrev Cx.l6 (X:Cx) (E:aV):Cx:={X with xe:=E}
abbrev Cx.l7 (X:Cx):Cx:=X.l6 fun _ _=>False
theorem Cx.Ok.l6(ok:X.Ok)(E:aV):(X.l6 E).Ok:=
 ⟨ok.mod,ok.kind,ok.glob,ok.blt,ok.above,ok.inj,ok.has,ok.xN,ok.hd,ok.frames,ok.jE,ok.Hm,ok.bs,ok.jF,ok.pX,ok.pY,ok.kj,ok.m_⟩
theorem Cx.Ok.oH(ok:(X.l6 E).Ok):X.Ok:=
 ⟨ok.mod,ok.kind,ok.glob,ok.blt,ok.above,ok.inj,ok.has,ok.xN,ok.hd,ok.frames,ok.jE,ok.Hm,ok.bs,ok.jF,ok.pX,ok.pY,ok.kj,ok.m_⟩
section
variable {X:Cx} {pins:bg} {σ:St} {H:Hp} {s:Shared} {E:aV}
theorem Inv.l6(I:Inv X pins σ H s)(E:aV):Inv (X.l6 E) pins σ H s:=⟨I.ok.l6 E,I.os,I.bare,I.base,I.loc,I.cell,I.free,I.ko,I.pin,I.aC,I.len⟩
theorem Inv.oH(I:Inv (X.l6 E) pins σ H s):Inv X pins σ H s:=⟨I.ok.oH,I.os,I.bare,I.base,I.loc,I.cell,I.free,I.ko,I.pin,I.aC,I.len⟩
theorem SP.oH{D:Ends}{f:Flow}{s':Shared}(h:SP (X.l6 E) pins D f s'):SP X pins D f s':=by
 cases f with
 | next=>obtain ⟨σ',H',I,q⟩:=h;exact ⟨σ',H',I.oH,q⟩
 | brk=>obtain ⟨σ',H',I,q⟩:=h;exact ⟨σ',H',I.oH,q⟩
 | cont=>obtain ⟨σ',H',I,q⟩:=h;exact ⟨σ',H',I.oH,q⟩
 | ret u=>obtain ⟨v,σ',H',I,r,q⟩:=h;exact ⟨v,σ',H',I.oH,r,q⟩
theorem fb.l7{st:List Stmt}{t:TS}(h:fb X.l7 st t):fb X st t:=fun pins s σ H D I hw=>dw (h pins s σ H D (I.l6 _) hw) (fun _ _ q=>q.oH) fun _ _ z=>False.elim z
end
section
variable {X:Cx} {st:Stmt} {rest:List Stmt} {t u:TS} {e:Expr} {te:TE} {pos:Pos}
def ja:TS:=fun D σ H=>D.nx σ H
def Du(t u:TS):TS:=fun D σ H=>t {D with nx:=u D} σ H
theorem b7:fb X [] ja:=fun _ _ σ H _ I h=>zN ⟨σ,H,I,h⟩
theorem aq(h1:PS X st t)(h2:fb X rest u):fb X (st::rest) (Du t u):=by
 intro pins s σ H D I h;refine wpAny_execs_cons (aS (h1 pins s σ H {D with nx:=u D} I h) fun f s1 q=>?_);cases f with
 | next=>obtain ⟨σ',H',I',q⟩:=q;exact h2 pins s1 σ' H' D I' q
 | ret v=>exact q
 | brk=>exact q
 | cont=>exact q
theorem ax(h1:PS X st t):fb X [st] t:=by
 intro pins s σ H D I h;refine wpAny_execs_cons (aS (h1 pins s σ H D I h) fun f s1 q=>?_);cases f with
 | next=>exact zN q
 | ret v=>exact q
 | brk=>exact q
 | cont=>exact q
def P9:TS:=fun D σ H=>D.bk σ H
theorem P_:PS X (.Break pos) P9:=fun _ _ σ H _ I h=>wpAny_Break ⟨σ,H,I,h⟩
theorem Inv.quiet{pins:bg}{σ:St}(I:Inv X pins σ H s):interactive X.env=false:=by simp [interactive,I.ok.kind]
def Qa(te:TE):TS:=fun D σ H=>te σ H fun _ H1=>D.nx σ H1
theorem p_(he:PE X e te)(hs:swapsWith e none pos.line X.env=pure false:=by rfl):PS X (.Expr e pos) (Qa te):=by intro pins s σ H D I h;exact wpAny_Expr_any (aS (he pins s σ H _ I h) fun v s1 ⟨x,H1,I1,r1,q1⟩=>⟨σ,H1,I1,q1⟩) I.quiet hs
def Ip(te:TE):TS:=fun D σ H=>te σ H D.rt
theorem aT(he:PE X e te):PS X (.Return (some e) pos) (Ip te):=by intro pins s σ H D I h;exact wpAny_Return_some (aS (he pins s σ H _ I h) fun v s1 ⟨x,H1,I1,r1,q1⟩=>⟨x,σ,H1,I1,r1,q1⟩)
def xU(c:TT)(t u:TS):TS:=fun D σ H=>c σ H fun b H1=>if b=true then t D σ H1 else u D σ H1
theorem bV{c:Expr}{a b:List Stmt}{tc:TT}(hc:PT X c tc)(ha:fb X a t)(hb:fb X b u):PS X (.If c a b pos) (xU tc t u):=by
 intro pins s σ H D I h;refine wpAny_If (aS (hc pins s σ H _ I h) fun d s1 ⟨H1,I1,q1⟩=>?_);cases d with
 | true=>exact ha pins s1 σ H1 D I1 q1
 | false=>exact hb pins s1 σ H1 D I1 q1
def Qb:TS:=fun _ _ _=>False
theorem Qc{Qd:List Stmt}:fb X Qd Qb:=fun _ _ _ _ _ _ h=>h.elim
end
abbrev TG:=V→St→Hp→(St→Hp→Prop)→Prop
abbrev qa:=List V→St→Hp→(St→Hp→Prop)→Prop
def PG(X:Cx)(target:Expr)(t:TG):Prop:=
 ∀(pins:bg) (s:Shared) (σ:St) (H:Hp) (v:V) (u:Value) (Q:St→Hp→Prop),Inv X pins σ H s→RelV v u→t v σ H Q→
  wpAny (model X.prog X.w) X.A (assign target X.env u) (fun _ s'=>∃σ' H',Inv X pins σ' H' s'∧Q σ' H') X.xe s
def Ag(X:Cx)(ts:List Expr)(t:qa):Prop:=
 ∀(pins:bg) (s:Shared) (σ:St) (H:Hp) (vs:List V) (us:List Value) (Q:St→Hp→Prop),Inv X pins σ H s→Vals vs us→t vs σ H Q→
  wpAny (model X.prog X.w) X.A (assignInOrder ((assignEach ts X.env).map (·.2)) us) (fun _ s'=>∃σ' H',Inv X pins σ' H' s'∧Q σ' H') X.xe s
abbrev Dv:=V→V→V→Hp→(Hp→Prop)→Prop
def Iq(X:Cx)(t:Dv):Prop:=
 ∀(pins:bg) (s:Shared) (σ:St) (H:Hp) (o i v:V) (ov iv u:Value) (Q:Hp→Prop),Inv X pins σ H s→RelV o ov→RelV i iv→RelV v u→t o i v H Q→
  wpAny (model X.prog X.w) X.A (setItem ov iv u) (fun _ s'=>∃H',Inv X pins σ H' s'∧Q H') X.xe s
abbrev Ah:=V→V→Hp→VK→Prop
def Ir(X:Cx)(op:Operator)(t:Ah):Prop:=
 ∀(pins:bg) (s:Shared) (σ:St) (H:Hp) (x y:V) (v u:Value) (Q:VK),Inv X pins σ H s→RelV x v→RelV y u→t x y H Q→
  wpAny (model X.prog X.w) X.A (inplaceOp op v u) (EP X pins σ Q) X.xe s
section
variable {X:Cx} {pos:Pos}
def bH(i:Nat):TG:=fun v σ H Q=>Q (σ.set i (some v)) H
variable {i:Nat}
theorem eh{x:Str}(hN:X.N.Nodup)(hi:X.N[i]?=some x)(hx:Loc X.env.scope x)(hf:X.fn x=true∨X.env.scope.names.lookup x=some .local:=by first | exact .inl rfl | exact .inr rfl | assumption):PG X (.Name x pos) (bH i):=by intro pins s σ H v u Q I r h;exact wpAny_assign_Name (xR I hN hi hx r (fun s' I'=>⟨_,H,I',h⟩) hf)
def Iu:qa:=fun vs σ H Q=>vs=[]∧Q σ H
def Dw(t:TG)(u:qa):qa:=fun vs σ H Q=>∃v r,vs=v::r∧t v σ H fun σ' H'=>u r σ' H' Q
theorem xV:Ag X [] Iu:=by intro pins s σ H vs us Q I r h;obtain ⟨e,h⟩:=h;subst e;cases r;exact assignInOrder_nil ⟨σ,H,I,h⟩
variable {e:Expr} {es:List Expr}
theorem l8{t:TG}{u:qa}(h1:PG X e t)(h2:Ag X es u)
  (hs:(assignEach (e::es) X.env).map (·.2)=assign e X.env::(assignEach es X.env).map (·.2):=by rfl):Ag X (e::es) (Dw t u):=by
 intro pins s σ H vs us Q I r h;obtain ⟨v,vr,e1,h⟩:=h;subst e1;cases r with
 | cons r rr=>rw [hs];refine assignInOrder_cons (aS (h1 pins s σ H _ _ _ I r h) fun _ s1 ⟨σ1,H1,I1,q1⟩=>?_);exact h2 pins s1 σ1 H1 _ _ Q I1 rr q1
def Iv(K:aB)(n:Nat)(t:qa):TG:=fun v σ H Q=>∃a xs,v=.ref a∧dH K H a xs∧xs.length=n∧t xs σ H Q
theorem xW{k:Nat}{t:qa}{n:Nat}(hc:X.calm=true)(h:Ag X es t)
  (hn:(assignEach es X.env).length=n:=by rfl) (Dx:(assignEach es X.env).findIdx? (·.1)=none:=by rfl):PG X (.Tuple es k pos) (Iv X.K n t):=by
 intro pins s σ H v u Q I r hw;obtain ⟨a,xs,e1,hq,hl,hw⟩:=hw;subst e1;cases r;obtain ⟨ak,rv,ht,hz⟩:=I.tuple hq;refine assign_Tuple_tuple (I.ok.hd hc) ht (by simp [hn,←hl,rv.length]) Dx fun h' hx=>?_
 have I1:Inv X pins σ H {s with heap:=h'}:=I.kept (t':=s.toks) fun b o e=>hx b o (dR (cg e)) e;exact h pins _ σ H xs _ Q I1 (by simpa using rv) hw
def Qe(to ti:TE)(t:Dv):TG:=fun v σ H Q=>to σ H fun o H1=>ti σ H1 fun i H2=>t o i v H2 fun H3=>Q σ H3
theorem jb{o i:Expr}{to ti:TE}{t:Dv}(ho:PE X o to)(hi:PE X i ti)(hs:Iq X t)
  (ha:∀v,assign (.Subscript o i pos) X.env v=(do
   let ov ←holding [v] (eval o X.env)
   let iv ←holding [v,ov] (eval i X.env)
   standAt pos
   holding [v,ov,iv] (setItem ov iv v)
   release [v,ov,iv] []):=by intro _;rfl):PG X (.Subscript o i pos) (Qe to ti t):=by
 intro pins s σ H v u Q I r h
 rw [ha]
 refine bI (xp (aS (ho pins s σ H _ I h) fun ov s1 ⟨x,H1,I1,r1,q1⟩=>?_))
 refine bI (xp (aS (hi pins s1 σ H1 _ I1 q1) fun iv s2 ⟨y,H2,I2,r2,q2⟩=>?_))
 refine bI (wpAny_standAt (bI (xp (aS (hs pins s2 σ H2 x y v ov iv u _ I2 r1 r2 r q2) fun _ s3 ⟨H3,I3,q3⟩=>?_))))
 exact wpAny_release ⟨σ,H3,I3,q3⟩
def qb(te:TE)(g:TG):TS:=fun D σ H=>te σ H fun x H1=>g x σ H1 D.nx
theorem jc{tg e:Expr}{te:TE}{g:TG}(he:PE X e te)(hg:PG X tg g)(hs:swapsWithSole [tg] e pos.line X.env=pure false:=by rfl)(hw:swappedStores [tg] e X.env=pure none:=by rfl)
  (h1:(assignEach [tg] X.env).map (·.2)=[assign tg X.env]:=by rfl):PS X (.Assign [tg] e pos) (qb te g):=by
 intro pins s σ H D I h;refine wpAny_Assign_stores (aS (he pins s σ H _ I h) fun v s1 ⟨x,H1,I1,r1,q1⟩=>?_) hs hw;rw [h1];exact aS (hg pins s1 σ H1 x v _ I1 r1 q1) fun _ s2 q=>q
variable {te:TE} {pos':Pos}
theorem Qf{x:Str}(hN:X.N.Nodup)(hi:X.N[i]?=some x)(hx:Loc X.env.scope x)(he:PE X e te)(hs:swapsWith e (some (.Name x pos')) pos.line X.env=pure false:=by rfl)(hf:X.fn x=true∨X.env.scope.names.lookup x=some .local:=by first | exact .inl rfl | exact .inr rfl | assumption) :
  PS X (.Assign [.Name x pos'] e pos) (qb te (bH i)):=by
 intro pins s σ H D I h;refine wpAny_Assign_Name (aS (he pins s σ H _ I h) fun v s1 ⟨y,H1,I1,r1,q1⟩=>?_) hs;exact xR I1 hN hi hx r1 (fun s2 I2=>⟨_,H1,I2,q1⟩) hf
def Qg(i j:Nat)(ta:TA):TS:=fun D σ H=>ta σ H fun vs H1=>∃v w,vs=[v,w]∧D.nx ((σ.set i (some v)).set j (some w)) H1
theorem Qh{j:Nat}{x y:Str}{a b:Expr}{ta:TA}{px py pt:Pos}{kt k2 Dy}(hc:X.calm=true)(hN:X.N.Nodup)(hi:X.N[i]?=some x)(hj:X.N[j]?=some y)(Qi:i≠j)
  (hx:X.env.scope.names.lookup x=some .local) (hy:X.env.scope.names.lookup y=some .local) (ha:PA X [a,b] ta)
  (hw:swappedStores [.Tuple [.Name x px,.Name y py] kt pt] (.Tuple [a,b] k2 Dy) X.env=pure (some [x,y]))
  (hs:swapsWithSole [.Tuple [.Name x px,.Name y py] kt pt] (.Tuple [a,b] k2 Dy) pos.line X.env=pure false:=by rfl) :
  PS X (.Assign [.Tuple [.Name x px,.Name y py] kt pt] (.Tuple [a,b] k2 Dy) pos) (Qg i j ta):=by
 intro pins s σ H D I h
 rw [exec_Assign_arm]
 refine bI (wpAny_standAt ?_)
 rw [hs]
 refine bI (cM ?_)
 rw [ao (by decide)]
 refine bI (Tuple_ (aS (ha _ pins s σ H _ I h) fun us s1 ⟨vs,H1,I1,r1,q1⟩=>?_))
 obtain ⟨v,w,e1,q1⟩:=q1
 subst e1
 obtain ⟨u1,u2,rfl,rv,xX⟩:∃u1 u2,us=[u1,u2]∧RelV v u1∧RelV w u2:=by
  cases r1 with
  | cons p q=>
   cases q with
   | cons p' q'=>
    cases q'
    exact ⟨_,_,rfl,p,p'⟩
 refine oq ?_ (by show 2≤sizeLine;decide)
 have I2:Inv X pins σ H1 {s1 with heap:=s1.heap.push {cls:=.type "tuple",data:=.seq [u1,u2].toArray}}:=I1.kept (t':=s1.toks) fun b o e=>dy _ e
 rw [hw]
 refine bI (cM ?_)
 show wpAny (model X.prog X.w) X.A (do rule "assign.swapped-stores";let items ←unpackItems (.ref s1.heap.objs.size) 2 none;assignInOrder [fun v=>bindName X.env y v,fun v=>bindName X.env x v] items.reverse;pure Flow.next) _ _ _
 refine bI (wpAny_rule (bI (unpackItems_tuple (items:=#[u1,u2]) (I.ok.hd hc) (IsTup.new s1.heap _) fun h' Qj=>?_)))
 have I3:=I2.kept (h':=h') (t':=s1.toks) fun b o e=>Qj b o (dR (cg e)) e
 show wpAny _ _ (assignInOrder [fun v=>bindName X.env y v,fun v=>bindName X.env x v] [u2,u1] >>= fun _=>pure Flow.next) _ _ _
 refine bI (assignInOrder_cons (wpAny_bindName (xR I3 hN hj (.inl hy) xX (fun s2 I4=>?_) (.inr hy))))
 refine assignInOrder_cons (wpAny_bindName (xR I4 hN hi (.inl hx) rv (fun s3 I5=>assignInOrder_nil (cM ?_)) (.inr hx)))
 rw [List.set_comm _ _ (Ne.symm Qi)] at I5
 exact ⟨_,H1,I5,q1⟩
def Qk(i:Nat)(te:TE)(ti:Ah):TS:=fun D σ H=>∃x,σ[i]?=some (some x)∧te σ H fun y H1=>ti x y H1 fun z H2=>D.nx (σ.set i (some z)) H2
theorem Ql{x:Str}{op:Operator}{ti:Ah}(hN:X.N.Nodup)(hi:X.N[i]?=some x)(hx:Loc X.env.scope x)(he:PE X e te)(ho:Ir X op ti)(hf:X.fn x=true∨X.env.scope.names.lookup x=some .local:=by first | exact .inl rfl | exact .inr rfl | assumption) :
  PS X (.AugAssign (.Name x pos') op e pos) (Qk i te ti):=by
 intro pins s σ H D I h;obtain ⟨v,e1,h⟩:=h;obtain ⟨m,hn,hl⟩:=I.loc;have Qm:oE X.env.scope x:=by rcases hx with k | k;exact .inl k;exact .inr (.inl k)
 obtain ⟨u,r,l⟩:=hl i x v hi e1 Qm;refine wpAny_AugAssign_Name ?_;have go:wpAny (model X.prog X.w) X.A (eval e X.env) (fun w s₂=>wpAny (model X.prog X.w) X.A (inplaceOp op u w) (fun r s₃=>wpAny (model X.prog X.w) X.A (storeName X.env x r) (fun _=>SP X pins D .next) X.xe s₃) X.xe s₂) X.xe s:=by refine aS (he pins s σ H _ I h) fun w s1 ⟨y,H1,I1,r1,q1⟩=>?_;refine aS (ho pins s1 σ H1 v y u w _ I1 r r1 q1) fun z s2 ⟨zv,H2,I2,r2,q2⟩=>?_;exact xR I2 hN hi hx r2 (fun s3 I3=>⟨_,H2,I3,q2⟩) hf
 rcases l with ⟨hk,hm⟩ | ⟨hk,c,hc,Ae⟩;·exact wpAny_loadName_local I.ok.kind hk hn hm go
 ·rcases hk with hk | hk
  ·exact wpAny_loadName_cell I.ok.kind hk hc Ae go
  ·rcases hx with k | k
   ·have:X.env.scope.names.lookup x=some .free:=hk
    rw [k] at this;cases this
   ·have:X.env.scope.names.lookup x=some .free:=hk
    rw [k] at this;cases this
def Qn(f:Int→Int→Int):Ah:=fun x y H Q=>∃i j,x=.int i∧y=.int j∧Q (.int (f i j)) H
theorem Qo:Ir X .Add (Qn fun i j=>i+j):=by intro pins s σ H x y v u Q I r1 r2 h;obtain ⟨i,j,e1,e2,q⟩:=h;subst e1;subst e2;obtain ⟨t,rfl⟩:=r1;obtain ⟨t',rfl⟩:=r2;exact iadd_int ⟨.int _,H,I.tok _,⟨_,rfl⟩,q⟩
end
section
variable {X:Cx} {pos:Pos}
def Qp(c:TT)(tb:TS):TS:=fun D σ H=>∃W:Nat→St→Hp→Prop,(∃m,W m σ H)∧∀m σ H,W m σ H→
 c σ H fun b H1=>if b=true then ∃N:St→Hp→Prop,(∀σ' H',N σ' H'→∃m',m'<m∧W m' σ' H')∧tb {D with nx:=N,ct:=N,bk:=D.nx} σ H1 else D.nx σ H1
theorem xY{c:Expr}{body:List Stmt}{tc:TT}{tb:TS}(hp:PassesOwn (model X.prog X.w) X.A X.env X.xe)(hc:PT X c tc)(hb:fb X body tb):PS X (.While c body [] pos) (Qp tc tb):=by
 intro pins s σ H D I h;obtain ⟨W,⟨m0,w0⟩,turn⟩:=h;refine wpAny_While (codeAny_whileLoop (fun n s'=>∃σ' H',Inv X pins σ' H' s'∧W n σ' H') ?_ m0 ⟨σ,H,I,w0⟩);rintro n s1 ⟨σ1,H1,I1,w1⟩;refine pI hp (aS (hc pins s1 σ1 H1 _ I1 (turn n σ1 H1 w1)) fun b s2 ⟨H2,I2,q2⟩=>?_);cases b with
 | true=>
  obtain ⟨N,hN,q2⟩:=q2;rw [ai rfl];refine pI hp (aS (hb pins s2 σ1 H2 _ I2 q2) fun f s3 q3=>?_);cases f with
  | next=>obtain ⟨σ3,H3,I3,n3⟩:=q3;obtain ⟨m',hm,w3⟩:=hN σ3 H3 n3;exact ⟨m',hm,σ3,H3,I3,w3⟩
  | cont=>obtain ⟨σ3,H3,I3,n3⟩:=q3;obtain ⟨m',hm,w3⟩:=hN σ3 H3 n3;exact ⟨m',hm,σ3,H3,I3,w3⟩
  | brk=>exact q3
  | ret v=>exact q3
 | false=>rw [ao dZ];exact zN ⟨σ1,H2,I2,q2⟩
end
structure It where
 go:Nat→Hp→Prop
 fm:Nat→Hp→V→Hp→Prop
 stop:Nat→Hp→Prop
def ni(X:Cx)(pins:bg)(H:Hp)(b:Addr):Prop:=
 H b=none∧b≠X.env.locals∧b∉X.fs∧(b∈X.ex∨X.s₀.heap.objs.size≤b)∧(∀x c,X.env.cells.lookup x=some c→c≠b)∧∀p∈X.pn++pins,p.1≠b
variable {σ:St}
theorem Inv.qc{pins:bg}{H':Hp}(I:Inv X pins σ H s)(hb:s.heap.objs.size≤b)(hn:H' b=none):ni X pins H' b:=by
 refine ⟨hn,Nat.ne_of_gt (fh I.lt hb),I.PR hb,.inr (aj I.sz hb),fun x c e z=>?_,fun p hp z=>?_⟩
 ·obtain ⟨v,q⟩:=I.cell x c e
  exact absurd (fh q.lt (by rw [z];exact hb)) (iF _)
 ·exact absurd (fh (cg (I.pin p hp).1) (by rw [z];exact hb)) (iF _)
structure Turn (P:Program) (w:World) (K:aB) (tg:Expr) (J:It) (fp:List Addr) (it:Addr) (tn:Nat→Heap→Prop):Prop where
 mem:it∈fp
 obj:∀i h,tn i h→∀b∈fp,∃o,h.get? b=some o∧∀v,o.data≠.cell v
 keep:∀i h h',tn i h→(∀b∈fp,∀o,h.get? b=some o→h'.get? b=some o)→tn i h'
 item:∀(X:Cx),X.prog=P→X.w=w→X.K=K→X.calm=true→∀(i:Nat) (pins:bg) (s:Shared) (σ:St) (H:Hp) (E:aV),Inv X pins σ H s→(∀b∈fp,ni X pins H b)→tn i s.heap→J.go i H→
  wpAny (model P w) X.A (pyNext (.ref it)) (fun r s1=>∃u,r=some u ∧
   wpAny (model P w) X.A (letOwnedTupleGo tg (.ref it) u) (fun _ s2=>∃x H',Inv X pins σ H' s2∧RelV x u∧J.fm i H x H'∧tn (i+1) s2.heap∧∀b∈fp,H' b=none) E s1) E s
 done:∀(X:Cx),X.prog=P→X.w=w→X.K=K→X.calm=true→∀(i:Nat) (pins:bg) (s:Shared) (σ:St) (H:Hp) (E:aV),Inv X pins σ H s→(∀b∈fp,ni X pins H b)→tn i s.heap→J.stop i H→
  wpAny (model P w) X.A (pyNext (.ref it)) (fun r s1=>r=none∧Inv X pins σ H s1) E s
 self:∀(A:Around) (i:Nat) (s:Shared) (Q:aV) (E:aV),tn i s.heap→Q (.ref it) s→wpAny (model P w) A (pyIter (.ref it)) Q E s
abbrev TI:=St→Hp→(It→Hp→Prop)→Prop
def Dz(X:Cx)(pins:bg)(σ:St)(tg:Expr)(R:It→Hp→Prop)(xZ:Value)(s2:Shared):Prop:=
 ∃(it:Addr) (fp:List Addr) (tn:Nat→Heap→Prop) (J:It) (H':Hp),xZ=.ref it∧Inv X pins σ H' s2∧Turn X.prog X.w X.K tg J fp it tn∧tn 0 s2.heap∧(∀b∈fp,ni X pins H' b)∧R J H'
def PI(X:Cx)(tg iter:Expr)(wi:TI):Prop:=
 ∀(pins:bg) (s:Shared) (σ:St) (H:Hp) (R:It→Hp→Prop),Inv X pins σ H s→wi σ H R→
  wpAny (model X.prog X.w) X.A (eval iter X.env) (fun v s1=>wpAny (model X.prog X.w) X.A (pyIter v) (Dz X pins σ tg R) X.xe s1) X.xe s
variable {tg:Expr}
theorem x3{it:Addr}{o:Obj}{n:String}{vs:Array Value}{Q:Unit→Shared→Prop}(ho:s.heap.get? it=some o)(hc:o.cls=.type n)(hd:o.data=.fields vs)
    (hn:["enumerate","zip","dict_itemiterator","dict_reverseitemiterator","odict_iterator","itertools.zip_longest","itertools.pairwise"].contains n=false) (hQ:Q () s):wpAny M A (letOwnedTupleGo tg (.ref it) u) Q E s:=by
  unfold letOwnedTupleGo
  cases tg <;> first
    | exact cM hQ
    | (cases u <;> first
        | exact cM hQ
        | (refine bI (wpAny_load ho ?_)
           rw [hc,hd];show wpAny M A (if (["enumerate","zip","dict_itemiterator","dict_reverseitemiterator","odict_iterator","itertools.zip_longest","itertools.pairwise"].contains n && vs[0]? == some (rawInt _))=true then _ else _) Q E s
           rw [ao (by intro h;rw [hn,Bool.false_and] at h;cases h)]
           exact cM hQ))
def tY(K:aB)(a:Addr):It:=
 ⟨fun i H=>∃xs x,aZ K H a xs∧xs[i]?=some x,fun i H x H'=>H'=H∧∀xs,aZ K H a xs→xs[i]?=some x,fun i H=>∃xs,aZ K H a xs∧xs.length≤i⟩
def x4(K:aB)(a:Addr):It:=
 ⟨fun i H=>∃xs x,dH K H a xs∧xs[i]?=some x,fun i H x H'=>H'=H∧∀xs,dH K H a xs→xs[i]?=some x,fun i H=>∃xs,dH K H a xs∧xs.length≤i⟩
def l9(lo:Int)(n:Nat):It:=⟨fun i _=>i<n,fun i H x H'=>H'=H∧x=.int (lo+i),fun i _=>n≤i⟩
variable {K:aB}
theorem Qq(a it:Addr):Turn P w K tg (tY K a) [it] it (fun i h=>h.IsListIter it a i) where
 mem:=by simp
 obj:=fun i h st b hb=>by
  have e:b=it:=by simpa using hb
  subst e;obtain ⟨o,e,c,d⟩:=st;exact ⟨o,e,fun v z=>by rw [d] at z;cases z⟩
 keep:=fun i h h' st k=>st.at fun o e=>k it (by simp) o e
 item:=by
  intro X hP hw hK hc i pins s σ H E I hf st hg;subst hP hw hK;obtain ⟨xs,x,hq,hx⟩:=hg;obtain ⟨ak,rv,p,hz⟩:=I.list hq;obtain ⟨u,hu,ru⟩:=rv.get hx;obtain ⟨f0,f1,f2,f3,f4,f5⟩:=hf it (by simp)
  refine wpAny_pyNext_list_item st p.isList (x:=u) (by simpa using hu) fun h' jd sb=>?_
  have I1:Inv X pins σ H {s with heap:=h'}:=I.turned (t':=s.toks) (fun b o hb e=>(sb.2 b hb).trans e) f0 f1 f3 f4 f5;obtain ⟨o,e,c,d⟩:=id jd;exact ⟨u,rfl,x3 (s:={s with heap:=h'}) e c d (by decide) ⟨x,H,I1,ru,⟨rfl,fun ys hy=>by rw [I.xT hy hq];exact hx⟩,jd,fun b hb=>(hf b hb).1⟩⟩
 done:=by
  intro X hP hw hK hc i pins s σ H E I hf st hg;subst hP hw hK;obtain ⟨xs,hq,hx⟩:=hg;obtain ⟨ak,rv,p,hz⟩:=I.list hq;obtain ⟨f0,f1,f2,f3,f4,f5⟩:=hf it (by simp)
  have hl:=rv.length;exact wpAny_pyNext_list_end (I.ok.hd hc) st p.isList (by simp;lia) fun h' eb=>⟨rfl,I.turned (t':=s.toks) (fun b o hb e=>eb b o hb e) f0 f1 f3 f4 f5⟩
 self:=fun _ _ _ _ _ st h=>wpAny_pyIter_listiter st h
theorem Qr(a it:Addr):Turn P w K tg (x4 K a) [it] it (fun i h=>h.IsTupleIter it a i) where
 mem:=by simp
 obj:=fun i h st b hb=>by
  have e:b=it:=by simpa using hb
  subst e;obtain ⟨o,e,c,d⟩:=st;exact ⟨o,e,fun v z=>by rw [d] at z;cases z⟩
 keep:=fun i h h' st k=>st.at fun o e=>k it (by simp) o e
 item:=by
  intro X hP hw hK hc i pins s σ H E I hf st hg;subst hP hw hK;obtain ⟨xs,x,hq,hx⟩:=hg;obtain ⟨ak,rv,p,hz⟩:=I.tuple hq;obtain ⟨u,hu,ru⟩:=rv.get hx;obtain ⟨f0,f1,f2,f3,f4,f5⟩:=hf it (by simp)
  refine wpAny_pyNext_tuple_item st (show s.heap.IsTuple a ak.toArray from p) (x:=u) (by simpa using hu) fun h' jd sb=>?_
  have I1:Inv X pins σ H {s with heap:=h'}:=I.turned (t':=s.toks) (fun b o hb e=>(sb.2 b hb).trans e) f0 f1 f3 f4 f5;obtain ⟨o,e,c,d⟩:=id jd;exact ⟨u,rfl,x3 (s:={s with heap:=h'}) e c d (by decide) ⟨x,H,I1,ru,⟨rfl,fun ys hy=>by rw [I.P8 hy hq];exact hx⟩,jd,fun b hb=>(hf b hb).1⟩⟩
 done:=by
  intro X hP hw hK hc i pins s σ H E I hf st hg;subst hP hw hK;obtain ⟨xs,hq,hx⟩:=hg;obtain ⟨ak,rv,p,hz⟩:=I.tuple hq;obtain ⟨f0,f1,f2,f3,f4,f5⟩:=hf it (by simp)
  have hl:=rv.length;exact wpAny_pyNext_tuple_end (I.ok.hd hc) st (show s.heap.IsTuple a ak.toArray from p) (by simp;lia) fun h' eb=>⟨rfl,I.turned (t':=s.toks) (fun b o hb e=>eb b o hb e) f0 f1 f3 f4 f5⟩
 self:=fun _ _ _ _ _ st h=>wpAny_pyIter_tupleiter st h
theorem Qs(it:Addr)(lo:Int)(n:Nat):Turn P w K tg (l9 lo n) [it] it (fun i h=>IsRangeIter h it (lo+(i:Nat)*1) ((n:Int)-(i:Nat)) 1) where
 mem:=by simp
 obj:=fun i h st b hb=>by
  have e:b=it:=by simpa using hb
  subst e;exact ⟨_,st,fun v z=>by have z':Data.fields _=Data.cell v:=z;cases z'⟩
 keep:=fun i h h' st k=>k it (by simp) _ st
 item:=by
  intro X hP hw hK hc i pins s σ H E I hf st hg;subst hP hw hK;obtain ⟨f0,f1,f2,f3,f4,f5⟩:=hf it (by simp)
  have W:=Walks.range (prog:=X.prog) (w:=X.w) (I.ok.hd hc) it lo 1 n;refine W.item i s _ _ hg st fun v h' tk hv jd kk=>?_;obtain ⟨t,rfl⟩:=hv;have I1:Inv X pins σ H {s with heap:=h',toks:=tk}:=I.turned (fun b o hb e=>kk b o (by simpa using hb) e) f0 f1 f3 f4 f5
  refine ⟨_,rfl,x3 (s:={s with heap:=h',toks:=tk}) (n:="range_iterator") jd rfl rfl (by decide) ⟨.int (lo+i),H,I1,⟨t,?_⟩,⟨rfl,rfl⟩,jd,fun b hb=>(hf b hb).1⟩⟩
  rw [d7]
 done:=by
  intro X hP hw hK hc i pins s σ H E I hf st hg;subst hP hw hK;obtain ⟨f0,f1,f2,f3,f4,f5⟩:=hf it (by simp)
  exact wpAny_pyNext_range_end (I.ok.hd hc) st (by have:n≤i:=hg;lia) fun h' eb=>⟨rfl,I.turned (t':=s.toks) (fun b o hb e=>eb b o hb e) f0 f1 f3 f4 f5⟩
 self:=fun _ _ _ _ _ st h=>wpAny_pyIter_rangeiter st h
section
variable {X:Cx} {tg:Expr}
def Qt(K:aB)(tl:TE):TI:=fun σ H R=>tl σ H fun x H1=>∃a,x=.ref a∧(∃xs,aZ K H1 a xs)∧R (tY K a) H1
def Qu(K:aB)(tl:TE):TI:=fun σ H R=>tl σ H fun x H1=>∃a,x=.ref a∧(∃xs,dH K H1 a xs)∧R (x4 K a) H1
variable {l:Expr} {tl:TE}
theorem gh(hl:PE X l tl):PI X tg l (Qt X.K tl):=by
 intro pins s σ H R I h;refine aS (hl pins s σ H _ I h) fun v s1 ⟨x,H1,I1,r1,q1⟩=>?_;obtain ⟨a,e,⟨xs,hq⟩,q⟩:=q1;subst e;cases r1;obtain ⟨ak,rv,p,hz⟩:=I1.list hq;refine zO p.isList ?_;refine ⟨s1.heap.objs.size,[s1.heap.objs.size],_,_,H1,rfl,I1.kept (t':=s1.toks) fun b o e=>dy _ e,Qq a _,⟨_,fZ _ rfl,rfl,rfl⟩,fun b hb=>?_,q⟩;have e:b=s1.heap.objs.size:=by simpa using hb
 subst e;exact I1.qc (aE _) (I1.aC.fresh (aE _))
theorem Iw(hl:PE X l tl):PI X tg l (Qu X.K tl):=by
 intro pins s σ H R I h;refine aS (hl pins s σ H _ I h) fun v s1 ⟨x,H1,I1,r1,q1⟩=>?_;obtain ⟨a,e,⟨xs,hq⟩,q⟩:=q1;subst e;cases r1;obtain ⟨ak,rv,p,hz⟩:=I1.tuple hq;refine wpAny_pyIter_tuple (show s1.heap.IsTuple a ak.toArray from p) ?_;refine ⟨s1.heap.objs.size,[s1.heap.objs.size],_,_,H1,rfl,I1.kept (t':=s1.toks) fun b o e=>dy _ e,Qr a _,⟨_,fZ _ rfl,rfl,rfl⟩,fun b hb=>?_,q⟩;have e:b=s1.heap.objs.size:=by simpa using hb
 subst e;exact I1.qc (aE _) (I1.aC.fresh (aE _))
variable {pins:bg}
theorem Iy{R:It→Hp→Prop}{lo hi:Int}{t u v:Tok}{tk:Nat}(I:Inv X pins σ H s)(h1:-(2 ^ 62)≤lo)(h2:lo<2 ^ 62)(h3:-(2 ^ 62)≤hi)(h4:hi<2 ^ 62)
  (q:R (l9 lo (hi-lo).toNat) H):wpAny (model X.prog X.w) X.A (pyIter (.ref s.heap.objs.size)) (Dz X pins σ tg R) E {s with heap:=s.heap.push {cls:=.type "range",data:=.fields #[.int lo t,.int hi u,.int 1 v]},toks:=tk}:=by
 refine wpAny_pyIter_range (IsRange.new ..) (small_one h1 h2 h3 h4) ?_;have I1:Inv X pins σ H {s with heap:=s.heap.push {cls:=.type "range",data:=.fields #[.int lo t,.int hi u,.int 1 v]},toks:=tk}:=I.kept fun b o e=>dy _ e
 refine ⟨(s.heap.push {cls:=.type "range",data:=.fields #[.int lo t,.int hi u,.int 1 v]}).objs.size,[(s.heap.push {cls:=.type "range",data:=.fields #[.int lo t,.int hi u,.int 1 v]}).objs.size],_,_,H,rfl,
  I1.kept (t':=tk) fun b o e=>dy _ e,Qs _ lo (hi-lo).toNat,?_,fun b hb=>?_,q⟩
 ·have e1:lo+((0:Nat):Int)*1=lo:=by simp
  have e2:(((hi-lo).toNat:Nat):Int)-((0:Nat):Int)=Builtin.Range.rangeSize lo hi 1:=by rw [rangeSize_one];split <;> lia
  show IsRangeIter _ _ (lo+((0:Nat):Int)*1) ((((hi-lo).toNat:Nat):Int)-((0:Nat):Int)) 1;rw [e1,e2];exact fZ _ rfl
 ·have e:b=(s.heap.push {cls:=.type "range",data:=.fields #[.int lo t,.int hi u,.int 1 v]}).objs.size:=by simpa using hb
  subst e;exact I1.qc (aE _) (I1.aC.fresh (aE _))
def Qv(ta:TA):TI:=fun σ H R=>ta σ H fun vs H1=>∃j:Int,vs=[.int j]∧-(2 ^ 62)≤j∧j<2 ^ 62∧R (l9 0 j.toNat) H1
def Qw(ta:TA):TI:=fun σ H R=>ta σ H fun vs H1=>∃i j:Int,vs=[.int i,.int j]∧(-(2 ^ 62)≤i∧i<2 ^ 62∧-(2 ^ 62)≤j∧j<2 ^ 62)∧R (l9 i (j-i).toNat) H1
variable {ta:TA} {p pos:Pos}
theorem lh{a:Expr}(hg:Gl X "range")(hm:X.mg "range"=none)(ha:PA X [a] ta)(hs:starEach [a] X.env=[(false,eval a X.env)]:=by rfl):PI X tg (.Call (.Name "range" p) [a] [] pos) (Qv ta):=by
 intro pins s σ H R I h;refine Call_ (oG I hg hm boot_range (tN (aS (ha pos pins s σ H _ I h) fun us s1 ⟨vs,H1,I1,r1,q1⟩=>?_) hs rfl));obtain ⟨j,e,q1,q2,q⟩:=q1;subst e;cases r1 with
 | cons r rr=>cases rr;obtain ⟨t,rfl⟩:=r;exact call_range_1 (Iy I1 (by lia) (by lia) q1 q2 (by simpa using q))
theorem Qx{a b:Expr}(hg:Gl X "range")(hm:X.mg "range"=none)(ha:PA X [a,b] ta)(hs:starEach [a,b] X.env=[(false,eval a X.env),(false,eval b X.env)]:=by rfl)(l_:starEach [b] X.env=[(false,eval b X.env)]:=by rfl) :
  PI X tg (.Call (.Name "range" p) [a,b] [] pos) (Qw ta):=by
 intro pins s σ H R I h;refine Call_ (oG I hg hm boot_range (tN (aS (ha pos pins s σ H _ I h) fun us s1 ⟨vs,H1,I1,r1,q1⟩=>?_) (by rw [hs,l_]) (by rw [l_];rfl)))
 obtain ⟨i,j,e,⟨q1,q2,q3,q4⟩,q⟩:=q1;subst e;cases r1 with
 | cons r rr=>
  cases rr with
  | cons r' rr=>cases rr;obtain ⟨t,rfl⟩:=r;obtain ⟨t',rfl⟩:=r';exact call_range_2 (Iy I1 q1 q2 q3 q4 q)
def Qy(wi:TI)(g:TG)(tb:TS):TS:=fun D σ H=>wi σ H fun J H1=>∃W:Nat→Nat→St→Hp→Prop,(∃m,W 0 m σ H1)∧∀i m σ H,W i m σ H→
 (J.stop i H∧D.nx σ H)∨(J.go i H∧∃N:St→Hp→Prop,(∀σ' H',N σ' H'→∃m',m'<m∧W (i+1) m' σ' H')∧∀x H',J.fm i H x H'→g x σ H' fun σ2 H2=>tb {D with nx:=N,ct:=N,bk:=D.nx} σ2 H2)
def ma(fp:List Addr)(h:Heap):List (Addr×Obj):=fp.filterMap fun b=>(h.get? b).map fun o=>(b,o)
variable {fp:List Addr}
theorem oI{o:Obj}(hb:b∈fp)(e:h.get? b=some o):(b,o)∈ma fp h:=List.mem_filterMap.mpr ⟨b,hb,by rw [e];rfl⟩
theorem Qz{p:Addr×Obj}(hp:p∈ma fp h):p.1∈fp∧h.get? p.1=some p.2:=by
 obtain ⟨b,hb,e⟩:=List.mem_filterMap.mp hp;cases q:h.get? b with
 | none=>rw [q] at e;cases e
 | some o=>rw [q] at e;have e':(b,o)=p:=Option.some.inj e;subst e';exact ⟨hb,q⟩
theorem Inv.pinned(I:Inv X pins σ H s)(hf:∀b∈fp,ni X pins H b)(ho:∀b∈fp,∃o,s.heap.get? b=some o∧∀v,o.data≠.cell v):Inv X (pins++ma fp s.heap) σ H s:=
 I.Ib fun p hp=>(i7.mp hp).elim (fun z=>I.pin p (fC _ z)) fun z=>by obtain ⟨hb,e⟩:=Qz z;obtain ⟨f0,f1,f2,_⟩:=hf p.1 hb;obtain ⟨o,e',d⟩:=ho p.1 hb;rw [e] at e';cases e';exact ⟨e,f0,f1,f2,d⟩
theorem Inv.tZ{pl:bg}(I:Inv X (pins++pl) σ H s):Inv X pins σ H s:=I.Ib fun p hp=>I.pin p (fC _ (xn _ hp))
theorem gE{iter:Expr}{body:List Stmt}{wi:TI}{g:TG}{tb:TS}(hp:PassesOwn (model X.prog X.w) X.A X.env X.xe)(hc:X.calm=true)(hi:PI X tg iter wi)(hg:PG X tg g)(hb:fb X body tb)
  (hs:∀x,foldedSetIterable iter X.env x=pure x:=by intro _;rfl):PS X (.For tg iter body [] pos) (Qy wi g tb):=by
 intro pins s σ H D I h;refine wpAny_For (aS (hi pins s σ H _ I h) fun v s1 h1=>aS h1 fun xZ s2 h2=>?_) hs;obtain ⟨it,fp,tn,J,H2,e,I2,T,gY,f2,W,⟨m0,w0⟩,turn⟩:=h2;subst e;have iP:∀{H':Hp},(∀b∈fp,H' b=none)→∀b∈fp,ni X pins H' b:=fun hn b hb=>⟨hn b hb,(f2 b hb).2⟩;refine codeAny_forLoop_any (fun n s'=>∃i σ' H',Inv X pins σ' H' s'∧tn i s'.heap∧(∀b∈fp,H' b=none)∧W i n σ' H') ?_ m0 ⟨0,σ,H2,I2,gY,fun b hb=>(f2 b hb).1,w0⟩;rintro n s3 ⟨i,σ3,H3,I3,Iz,IA,w3⟩;rcases turn i n σ3 H3 w3 with ⟨stop,qn⟩ | ⟨go,N,hN,step⟩
 ·refine pI hp (aS (T.done X rfl rfl rfl hc i pins s3 σ3 H3 X.xe I3 (iP IA) Iz stop) fun r s4 ⟨hr,I4⟩=>?_)
  subst hr;exact zN ⟨σ3,H3,I4,qn⟩
 ·refine pI hp (aS (T.item X rfl rfl rfl hc i pins s3 σ3 H3 X.xe I3 (iP IA) Iz go) fun r s4 ⟨u,hr,h4⟩=>?_)
  subst hr;refine pI hp (aS h4 fun _ s5 ⟨x,H5,I5,r5,y5,iQ,qd⟩=>?_);have qe:=I5.pinned (iP qd) (T.obj _ _ iQ);refine pI hp (aS (hg _ s5 σ3 H5 x u _ qe r5 (step x H5 y5)) fun _ s6 ⟨σ6,H6,I6,q6⟩=>?_);refine pI hp (aS (hb _ s6 σ6 H6 _ I6 q6) fun f s7 q7=>?_);have again:∀{σ7:St} {H7:Hp},Inv X (pins++ma fp s5.heap) σ7 H7 s7→N σ7 H7→∃m,m<n∧∃i σ' H',Inv X pins σ' H' s7∧tn i s7.heap∧(∀b∈fp,H' b=none)∧W i m σ' H':=fun{σ7 H7} I7 n7=>by obtain ⟨m',hm,w7⟩:=hN σ7 H7 n7;refine ⟨m',hm,i+1,σ7,H7,I7.tZ,T.keep _ _ _ iQ fun b hb o e=>(I7.pin (b,o) (fC _ (fC _ (oI hb e)))).1,fun b hb=>?_,w7⟩;obtain ⟨o,e,d⟩:=T.obj _ _ iQ b hb;exact (I7.pin (b,o) (fC _ (fC _ (oI hb e)))).2.1
  cases f with
  | next=>obtain ⟨σ7,H7,I7,n7⟩:=q7;exact again I7 n7
  | cont=>obtain ⟨σ7,H7,I7,n7⟩:=q7;exact again I7 n7
  | brk=>obtain ⟨σ7,H7,I7,q7⟩:=q7;exact ⟨σ7,H7,I7.tZ,q7⟩
  | ret v=>obtain ⟨x7,σ7,H7,I7,r7,q7⟩:=q7;exact ⟨x7,σ7,H7,I7.tZ,r7,q7⟩
end
variable {g:TG} {tb:TS} {D:Ends}
theorem nj(Pv:Nat→St→Hp→Prop)(h0:Pv 0 σ H)(hl:∀i σ H,i≤xs.length→Pv i σ H→aZ K H a xs)
  (hs:∀i x σ H,xs[i]?=some x→Pv i σ H→g x σ H fun σ2 H2=>tb {D with nx:=Pv (i+1),ct:=Pv (i+1),bk:=D.nx} σ2 H2) (hd:∀σ H,Pv xs.length σ H→D.nx σ H) :
  ∃W:Nat→Nat→St→Hp→Prop,(∃m,W 0 m σ H)∧∀i m σ H,W i m σ H→
   ((tY K a).stop i H∧D.nx σ H)∨((tY K a).go i H∧∃N:St→Hp→Prop,(∀σ' H',N σ' H'→∃m',m'<m∧W (i+1) m' σ' H')∧∀x H',(tY K a).fm i H x H'→g x σ H' fun σ2 H2=>tb {D with nx:=N,ct:=N,bk:=D.nx} σ2 H2):=by
 refine ⟨fun i m σ H=>m=xs.length-i∧i≤xs.length∧Pv i σ H,⟨xs.length,by simp,cN _,h0⟩,?_⟩
 rintro i m σ H ⟨rfl,hi,p⟩;have q:=hl i σ H hi p;by_cases cI:i<xs.length
 ·refine .inr ⟨⟨xs,xs[i],q,by simp [cI]⟩,Pv (i+1),fun σ' H' p'=>⟨xs.length-(i+1),by lia,rfl,cI,p'⟩,fun x H' y=>?_⟩
  obtain ⟨e,y⟩:=y;subst e;exact hs i x σ _ (y xs q) p
 ·have e:i=xs.length:=by lia
  subst e;exact .inl ⟨⟨xs,q,aE _⟩,hd σ H p⟩
theorem IC(Pv:Nat→St→Hp→Prop)(h0:Pv 0 σ H)(hl:∀i σ H,i≤xs.length→Pv i σ H→dH K H a xs)
  (hs:∀i x σ H,xs[i]?=some x→Pv i σ H→g x σ H fun σ2 H2=>tb {D with nx:=Pv (i+1),ct:=Pv (i+1),bk:=D.nx} σ2 H2) (hd:∀σ H,Pv xs.length σ H→D.nx σ H) :
  ∃W:Nat→Nat→St→Hp→Prop,(∃m,W 0 m σ H)∧∀i m σ H,W i m σ H→
   ((x4 K a).stop i H∧D.nx σ H)∨((x4 K a).go i H∧∃N:St→Hp→Prop,(∀σ' H',N σ' H'→∃m',m'<m∧W (i+1) m' σ' H')∧∀x H',(x4 K a).fm i H x H'→g x σ H' fun σ2 H2=>tb {D with nx:=N,ct:=N,bk:=D.nx} σ2 H2):=by
 refine ⟨fun i m σ H=>m=xs.length-i∧i≤xs.length∧Pv i σ H,⟨xs.length,by simp,cN _,h0⟩,?_⟩
 rintro i m σ H ⟨rfl,hi,p⟩;have q:=hl i σ H hi p;by_cases cI:i<xs.length
 ·refine .inr ⟨⟨xs,xs[i],q,by simp [cI]⟩,Pv (i+1),fun σ' H' p'=>⟨xs.length-(i+1),by lia,rfl,cI,p'⟩,fun x H' y=>?_⟩
  obtain ⟨e,y⟩:=y;subst e;exact hs i x σ _ (y xs q) p
 ·have e:i=xs.length:=by lia
  subst e;exact .inl ⟨⟨xs,q,aE _⟩,hd σ H p⟩
variable {n:Nat}
theorem DA{lo:Int}(Pv:Nat→St→Hp→Prop)(h0:Pv 0 σ H)
  (hs:∀i σ H,i<n→Pv i σ H→g (.int (lo+i)) σ H fun σ2 H2=>tb {D with nx:=Pv (i+1),ct:=Pv (i+1),bk:=D.nx} σ2 H2) (hd:∀σ H,Pv n σ H→D.nx σ H) :
  ∃W:Nat→Nat→St→Hp→Prop,(∃m,W 0 m σ H)∧∀i m σ H,W i m σ H→
   ((l9 lo n).stop i H∧D.nx σ H)∨((l9 lo n).go i H∧∃N:St→Hp→Prop,(∀σ' H',N σ' H'→∃m',m'<m∧W (i+1) m' σ' H')∧∀x H',(l9 lo n).fm i H x H'→g x σ H' fun σ2 H2=>tb {D with nx:=N,ct:=N,bk:=D.nx} σ2 H2):=by
 refine ⟨fun i m σ H=>m=n-i∧i≤n∧Pv i σ H,⟨n,by simp,cN _,h0⟩,?_⟩
 rintro i m σ H ⟨rfl,hi,p⟩;by_cases cI:i<n
 ·refine .inr ⟨cI,Pv (i+1),fun σ' H' p'=>⟨n-(i+1),by lia,rfl,cI,p'⟩,fun x H' y=>?_⟩
  obtain ⟨e,y⟩:=y;subst e y;exact hs i σ _ cI p
 ·have e:i=n:=by lia
  subst e;exact .inl ⟨aE _,hd σ H p⟩
abbrev R2:=V→V→Hp→VK→Prop
def cP(X:Cx)(f:Value→Value→Sem Value)(r:R2):Prop:=
 ∀(pins:bg) (s:Shared) (σ:St) (H:Hp) (x y:V) (v u:Value) (Q:VK),Inv X pins σ H s→RelV x v→RelV y u→r x y H Q→
  wpAny (model X.prog X.w) X.A (f v u) (EP X pins σ Q) X.xe s
def DB(X:Cx)(f:Value→Sem Value)(r:V→Hp→VK→Prop):Prop:=
 ∀(pins:bg) (s:Shared) (σ:St) (H:Hp) (x:V) (v:Value) (Q:VK),Inv X pins σ H s→RelV x v→r x H Q→
  wpAny (model X.prog X.w) X.A (f v) (EP X pins σ Q) X.xe s
def ig(X:Cx)(f:Value)(r:List V→Hp→VK→Prop):Prop:=
 ∀(pins:bg) (s:Shared) (σ:St) (H:Hp) (xs:List V) (us:List Value) (Q:VK),Inv X pins σ H s→Vals xs us→r xs H Q→
  wpAny (model X.prog X.w) X.A (call f us) (EP X pins σ Q) X.xe s
def QA(X:Cx)(r:V→Hp→(Bool→Hp→Prop)→Prop):Prop:=
 ∀(pins:bg) (s:Shared) (σ:St) (H:Hp) (x:V) (v:Value) (Q:Bool→Hp→Prop),Inv X pins σ H s→RelV x v→r x H Q→
  wpAny (model X.prog X.w) X.A (truthy v) (TP X pins σ Q) X.xe s
def qf(r:R2)(ta tb:TE):TE:=fun σ H Q=>ta σ H fun x H1=>tb σ H1 fun y H2=>r x y H2 Q
def QB(r:V→Hp→VK→Prop)(ta:TE):TE:=fun σ H Q=>ta σ H fun x H1=>r x H1 Q
def rI(C:Int→Int→Prop)(g:Int→Int→V):R2:=fun x y H Q=>∃i j,x=.int i∧y=.int j∧C i j∧Q (g i j) H
def oJ(g:Int→Int→V):R2:=fun x y H Q=>∃i j,x=.int i∧y=.int j∧Q (g i j) H
def rU(g:Int→V):V→Hp→VK→Prop:=fun x H Q=>∃i,x=.int i∧Q (g i) H
section
variable {X:Cx} {a b c:Expr} {ta tb tc:TE} {pos:Pos}
variable {f:Value→Value→Sem Value}
theorem DC(ha:PE X a ta)(hb:PE X b tb){pins:bg}{R:V→V→Hp→Prop}(I:Inv X pins σ H s)
  (h:ta σ H fun x H1=>tb σ H1 fun y H2=>R x y H2) {Q:aV}
  (hf:∀v u s2 x y H2,Inv X pins σ H2 s2→RelV x v→RelV y u→R x y H2→wpAny (model X.prog X.w) X.A (f v u) Q X.xe s2) :
  wpAny (model X.prog X.w) X.A (eval a X.env) (fun v s₁=>wpAny (model X.prog X.w) X.A (eval b X.env) (fun u s₂=>wpAny (model X.prog X.w) X.A (f v u) Q X.xe s₂) X.xe s₁) X.xe s:=by
 refine aS (ha pins s σ H _ I h) fun v s1 ⟨x,H1,I1,r1,q1⟩=>?_;refine aS (hb pins s1 σ H1 _ I1 q1) fun u s2 ⟨y,H2,I2,r2,q2⟩=>?_;exact hf v u s2 x y H2 I2 r1 r2 q2
theorem au{op:Operator}{r:R2}(ho:cP X (binaryOp op) r)(ha:PE X a ta)(hb:PE X b tb):PE X (.BinOp a op b pos) (qf r ta tb):=by intro pins s σ H Q I h;exact wpAny_BinOp (DC ha hb I h fun v u s2 x y H2 I2 rx ry q=>ho pins s2 σ H2 x y v u Q I2 rx ry q)
theorem lq{op:UnaryOp}{r:V→Hp→VK→Prop}(ho:DB X (unaryOp op) r)(ha:PE X a ta):PE X (.UnaryOp op a pos) (QB r ta):=by intro pins s σ H Q I h;exact UnaryOp_ (aS (ha pins s σ H _ I h) fun v s1 ⟨x,H1,I1,r1,q1⟩=>ho pins s1 σ H1 x v Q I1 r1 q1)
theorem qg{C:Int→Int→Prop}{g:Int→Int→Int}
  (rule:∀(i j:Int) (t u:Tok) (s:Shared) (Q:aV) (E:aV),C i j→Q (.int (g i j) s.toks) {s with toks:=s.toks+1}→wpAny (model X.prog X.w) X.A (f (.int i t) (.int j u)) Q E s) :
  cP X f (rI C fun i j=>.int (g i j)):=by
 intro pins s σ H x y v u Q I rx ry h;obtain ⟨i,j,rfl,rfl,hc,q⟩:=h;obtain ⟨t,rfl⟩:=rx;obtain ⟨t',rfl⟩:=ry;exact rule i j t t' s _ _ hc ⟨.int (g i j),H,I.tok _,⟨_,rfl⟩,q⟩
theorem ID{g:Int→Int→Int}
  (rule:∀(i j:Int) (t u:Tok) (s:Shared) (Q:aV) (E:aV),Q (.int (g i j) s.toks) {s with toks:=s.toks+1}→wpAny (model X.prog X.w) X.A (f (.int i t) (.int j u)) Q E s) :
  cP X f (oJ fun i j=>.int (g i j)):=by
 intro pins s σ H x y v u Q I rx ry h;obtain ⟨i,j,rfl,rfl,q⟩:=h;obtain ⟨t,rfl⟩:=rx;obtain ⟨t',rfl⟩:=ry;exact rule i j t t' s _ _ ⟨.int (g i j),H,I.tok _,⟨_,rfl⟩,q⟩
theorem Ai{g:Int→Int→Bool}
  (rule:∀(i j:Int) (t u:Tok) (s:Shared) (Q:aV) (E:aV),Q (.bool (g i j)) s→wpAny (model X.prog X.w) X.A (f (.int i t) (.int j u)) Q E s) :
  cP X f (oJ fun i j=>.bl (g i j)):=by
 intro pins s σ H x y v u Q I rx ry h;obtain ⟨i,j,rfl,rfl,q⟩:=h;obtain ⟨t,rfl⟩:=rx;obtain ⟨t',rfl⟩:=ry;exact rule i j t t' s _ _ ⟨.bl (g i j),H,I,rfl,q⟩
def QC(i j:Int):Prop:=0<j∧j<1073741824
def QD(i j:Int):Prop:=0≤j∧j≤1000000∧i.natAbs<2 ^ 64
def DD(i j:Int):Prop:=(-(2 ^ 64)<i∧i<2 ^ 64)∨(-(2 ^ 64)<j∧j<2 ^ 64)
theorem DD.ok{i j:Int}(h:DD i j):IntMulOk i j:=by
 rcases h with ⟨h1,h2⟩ | ⟨h1,h2⟩;·exact .of_left (intBits_le_64 h1 h2)
 ·exact .of_right (intBits_le_64 h1 h2)
theorem dU:cP X (binaryOp .Add) (oJ fun i j=>.int (i+j)):=ID fun _ _ _ _ _ _ _ q=>add_int q
theorem gZ:cP X (binaryOp .Sub) (oJ fun i j=>.int (i-j)):=ID fun _ _ _ _ _ _ _ q=>sub_int q
theorem fe:cP X (binaryOp .Mult) (rI DD fun i j=>.int (i*j)):=qg fun _ _ _ _ _ _ _ hc q=>mul_int q hc.ok
theorem t4:cP X (binaryOp .FloorDiv) (rI QC fun i j=>.int (i / j)):=qg fun i j _ _ _ _ _ hc q=>by have h1:(0:Int)<j:=hc.1;have h2:j<1073741824:=hc.2;exact floordiv_int (by lia) (by rw [zP i (by lia)];exact q) (.inl (PyProof.noPylong_small (by lia)))
theorem fO:cP X (binaryOp .Mod) (rI (fun _ j=>0<j) fun i j=>.int (i % j)):=qg fun i j _ _ _ _ _ hc q=>by have h1:(0:Int)<j:=hc;exact mod_int' (by lia) (by rw [Int.fmod_eq_emod_of_nonneg i (by lia)];exact q)
theorem DE:cP X (binaryOp .Pow) (rI QD fun i j=>.int (i ^ j.toNat)):=qg fun _ _ _ _ _ _ _ hc q=>pow_int_small hc.1 hc.2.1 hc.2.2 q
theorem QE{f:Value→Sem Value}{g:Int→Int}
  (rule:∀(i:Int) (t:Tok) (s:Shared) (Q:aV) (E:aV),Q (.int (g i) s.toks) {s with toks:=s.toks+1}→wpAny (model X.prog X.w) X.A (f (.int i t)) Q E s) :
  DB X f (rU fun i=>.int (g i)):=by
 intro pins s σ H x v Q I rx h;obtain ⟨i,rfl,q⟩:=h;obtain ⟨t,rfl⟩:=rx;exact rule i t s _ _ ⟨.int (g i),H,I.tok _,⟨_,rfl⟩,q⟩
theorem lA:DB X (unaryOp .USub) (rU fun i=>.int (-i)):=QE fun _ _ _ _ _ q=>neg_int q
end
def DF:V→V→Bool
 | .bh,.bh=>true | .bh,.int _=>true | .int _,.bh=>true | .bh,.bl _=>true | .bl _,.bh=>true | .bh,.str _=>true | .str _,.bh=>true
 | .int _,.int _=>true | .bl _,.bl _=>true | .str _,.str _=>true | .i9 _,.i9 _=>true
 | .int _,.str _=>true | .str _,.int _=>true | .bl _,.str _=>true | .str _,.bl _=>true
 | _,_=>false
def IE:R2:=fun x y H Q=>DF x y=true∧Q (.bl (decide (x=y))) H
def IF:R2:=fun x y H Q=>DF x y=true∧Q (.bl (!decide (x=y))) H
theorem IG{i j:Int}:decide (V.int i=V.int j)=(i == j):=by rw [pJ];simp
theorem IH{i j:Bool}:decide (V.bl i=V.bl j)=(i == j):=by rw [pJ];simp
theorem II{i j:Str}:decide (V.str i=V.str j)=(i == j):=by rw [pJ];simp
theorem IJ{i j:Array UInt8}:decide (V.i9 i=V.i9 j)=(i.toList == j.toList):=by rw [pJ];cases i;cases j;simp
section
variable {X:Cx} {a b c:Expr} {ta tb tc:TE} {pos:Pos}
theorem dh{pins:bg}{Q:VK}{k k':Bool}(I:Inv X pins σ H s)(q:Q (.bl k) H)(e:k=k'):EP X pins σ Q (.bool k') s:=by subst e;exact ⟨.bl k,H,I,rfl,q⟩
theorem fo:cP X (compareOp .Eq) IE:=by
 intro pins s σ H x y v u Q I rx ry h;obtain ⟨hs,q⟩:=h;cases x with
 | bh=>
  cases rx;cases y with
  | bh=>cases ry;exact PySem.EqNone.eq_none_none (dh I q (by simp))
  | bl j=>cases ry;exact PySem.EqNone.eq_none_bool (dh I q (by simp))
  | int j=>obtain ⟨t',rfl⟩:=ry;exact PySem.EqNone.eq_none_int (dh I q (by simp))
  | str j=>obtain ⟨t',rfl⟩:=ry;exact PySem.EqNone.eq_none_str (dh I q (by simp))
  | _=>exact absurd (show false=true from hs) dZ
 | bl i=>
  cases rx;cases y with
  | bh=>cases ry;exact PySem.EqNone.eq_bool_none (dh I q (by simp))
  | bl j=>cases ry;exact eq_bool (dh I q IH)
  | str j=>obtain ⟨t',rfl⟩:=ry;exact PySem.EqMixed.eq_bool_str (dh I q (by simp))
  | _=>exact absurd (show false=true from hs) dZ
 | int i=>
  obtain ⟨t,rfl⟩:=rx;cases y with
  | bh=>cases ry;exact PySem.EqNone.eq_int_none (dh I q (by simp))
  | int j=>obtain ⟨t',rfl⟩:=ry;exact eq_int (dh I q IG)
  | str j=>obtain ⟨t',rfl⟩:=ry;exact PySem.EqMixed.eq_int_str (dh I q (by simp))
  | _=>exact absurd (show false=true from hs) dZ
 | str i=>
  obtain ⟨t,rfl⟩:=rx;cases y with
  | bh=>cases ry;exact PySem.EqNone.eq_str_none (dh I q (by simp))
  | bl j=>cases ry;exact PySem.EqMixed.eq_str_bool (dh I q (by simp))
  | int j=>obtain ⟨t',rfl⟩:=ry;exact PySem.EqMixed.eq_str_int (dh I q (by simp))
  | str j=>obtain ⟨t',rfl⟩:=ry;exact eq_str (dh I q II)
  | _=>exact absurd (show false=true from hs) dZ
 | i9 i=>
  obtain ⟨t,rfl⟩:=rx;cases y with
  | i9 j=>obtain ⟨t',rfl⟩:=ry;exact PySem.W.eq_bytes (dh I q IJ)
  | _=>exact absurd (show false=true from hs) dZ
 | _=>cases y <;> exact absurd (show false=true from hs) dZ
theorem kq:cP X (compareOp .NotEq) IF:=by
 intro pins s σ H x y v u Q I rx ry h;obtain ⟨hs,q⟩:=h;cases x with
 | bh=>
  cases rx;cases y with
  | bh=>cases ry;exact PySem.EqNone.ne_none_none (dh I q (by simp))
  | bl j=>cases ry;exact PySem.EqNone.ne_none_bool (dh I q (by simp))
  | int j=>obtain ⟨t',rfl⟩:=ry;exact PySem.EqNone.ne_none_int (dh I q (by simp))
  | str j=>obtain ⟨t',rfl⟩:=ry;exact PySem.EqNone.ne_none_str (dh I q (by simp))
  | _=>exact absurd (show false=true from hs) dZ
 | bl i=>
  cases rx;cases y with
  | bh=>cases ry;exact PySem.EqNone.ne_bool_none (dh I q (by simp))
  | bl j=>cases ry;exact ne_bool (dh I q (eY not IH))
  | str j=>obtain ⟨t',rfl⟩:=ry;exact PySem.EqMixed.ne_bool_str (dh I q (by simp))
  | _=>exact absurd (show false=true from hs) dZ
 | int i=>
  obtain ⟨t,rfl⟩:=rx;cases y with
  | bh=>cases ry;exact PySem.EqNone.ne_int_none (dh I q (by simp))
  | int j=>obtain ⟨t',rfl⟩:=ry;exact ne_int (dh I q (eY not IG))
  | str j=>obtain ⟨t',rfl⟩:=ry;exact PySem.EqMixed.ne_int_str (dh I q (by simp))
  | _=>exact absurd (show false=true from hs) dZ
 | str i=>
  obtain ⟨t,rfl⟩:=rx;cases y with
  | bh=>cases ry;exact PySem.EqNone.ne_str_none (dh I q (by simp))
  | bl j=>cases ry;exact PySem.EqMixed.ne_str_bool (dh I q (by simp))
  | int j=>obtain ⟨t',rfl⟩:=ry;exact PySem.EqMixed.ne_str_int (dh I q (by simp))
  | str j=>obtain ⟨t',rfl⟩:=ry;exact ne_str (dh I q (eY not II))
  | _=>exact absurd (show false=true from hs) dZ
 | i9 i=>
  obtain ⟨t,rfl⟩:=rx;cases y with
  | i9 j=>obtain ⟨t',rfl⟩:=ry;exact PySem.W.ne_bytes (dh I q (eY not IJ))
  | _=>exact absurd (show false=true from hs) dZ
 | _=>cases y <;> exact absurd (show false=true from hs) dZ
theorem kr:cP X (compareOp .Lt) (oJ fun i j=>.bl (decide (i<j))):=Ai fun _ _ _ _ _ _ _ q=>lt_int q
theorem Aj:cP X (compareOp .LtE) (oJ fun i j=>.bl (decide (i≤j))):=Ai fun _ _ _ _ _ _ _ q=>le_int q
theorem qh:cP X (compareOp .Gt) (oJ fun i j=>.bl (decide (j<i))):=Ai fun _ _ _ _ _ _ _ q=>gt_int q
theorem Ak:cP X (compareOp .GtE) (oJ fun i j=>.bl (decide (j≤i))):=Ai fun _ _ _ _ _ _ _ q=>ge_int q
theorem t5:cP X (compareOp .Is) (fun x y H Q=>y=.bh∧Q (.bl (decide (x=.bh))) H):=by
 intro pins s σ H x y v u Q I rx ry h;obtain ⟨rfl,q⟩:=h;cases ry;refine is_none_gen (dh I q ?_)
 cases x <;> first
  | (cases rx;rfl)
  | (obtain ⟨t,rfl⟩:=rx;rfl)
theorem QF:cP X (compareOp .IsNot) (fun x y H Q=>y=.bh∧Q (.bl (!decide (x=.bh))) H):=by
 intro pins s σ H x y v u Q I rx ry h;obtain ⟨rfl,q⟩:=h;cases ry;refine isnot_none_gen (dh I q ?_)
 cases x <;> first
  | (cases rx;rfl)
  | (obtain ⟨t,rfl⟩:=rx;rfl)
variable {op:CmpOp}
theorem Al(b:Expr)(h:op≠.In:=by decide)(h2:op≠.NotIn:=by decide):behindInMarks op b=false:=by
 have e1:(op == CmpOp.In)=false:=by cases op <;> first | rfl | exact absurd rfl h
 have e2:(op == CmpOp.NotIn)=false:=by cases op <;> first | rfl | exact absurd rfl h2
 cases b <;> simp [behindInMarks,e1,e2]
variable {r:R2}
theorem QG(ho:cP X (compareOp op) r)(ha:PE X a ta)(hb:PE X b tb)(hm:behindInMarks op b=false):PE X (.Compare a [op] [b] pos) (qf r ta tb):=by intro pins s σ H Q I h;exact wpAny_Compare1 (DC ha hb I h fun v u s2 x y H2 I2 rx ry q=>ho pins s2 σ H2 x y v u Q I2 rx ry q) hm
theorem qi(ho:cP X (compareOp op) r)(ha:PE X a ta)(hb:PE X b tb)(hm:behindInMarks op b=false:=by exact Al _):PE X (.Compare a [op] [b] pos) (qf r ta tb):=QG ho ha hb hm
def IK(t:TE):TT:=fun σ H Q=>t σ H fun x H'=>∃k,x=.bl k∧Q k H'
theorem DG{op:CmpOp}{r:R2}(ho:cP X (compareOp op) r)(ha:PE X a ta)(hb:PE X b tb)(hm:behindInMarks op b=false):PT X (.Compare a [op] [b] pos) (IK (qf r ta tb)):=by intro pins s σ H Q I h;refine wpAny_isTrue_Compare1 (aS (ha pins s σ H _ I h) fun v s1 ⟨x,H1,I1,r1,q1⟩=>aS (hb pins s1 σ H1 _ I1 q1) fun u s2 ⟨y,H2,I2,r2,q2⟩=>aS (ho pins s2 σ H2 x y v u _ I2 r1 r2 q2) fun c s3 ⟨z,H3,I3,r3,k,e,q3⟩=>?_) hm;subst e;cases r3;exact mO ⟨H3,I3,q3⟩
theorem bN(ho:cP X (compareOp op) r)(ha:PE X a ta)(hb:PE X b tb)(hm:behindInMarks op b=false:=by exact Al _):PT X (.Compare a [op] [b] pos) (IK (qf r ta tb)):=DG ho ha hb hm
def QH(r r':R2)(ta tb tc:TE):TE:=fun σ H Q=>ta σ H fun x H1=>tb σ H1 fun y H2=>r x y H2 fun z H3=>∃k,z=.bl k ∧
 (if k=true then tc σ H3 fun w' H4=>r' y w' H4 Q else Q (.bl false) H3)
theorem IL{DH:CmpOp}{r':R2}(ho:cP X (compareOp op) r)(lY:cP X (compareOp DH) r')(ha:PE X a ta)(hb:PE X b tb)(hc:PE X c tc)
  (hm:lastMarks [op,DH] [b,c]=false:=by with_unfolding_all rfl):PE X (.Compare a [op,DH] [b,c] pos) (QH r r' ta tb tc):=by
 intro pins s σ H Q I h;refine Compare_chain (aS (ha pins s σ H _ I h) fun v s1 ⟨x,H1,I1,r1,q1⟩=>chain_link (aS (hb pins s1 σ H1 _ I1 q1) fun u s2 ⟨y,H2,I2,r2,q2⟩=>aS (ho pins s2 σ H2 x y v u _ I2 r1 r2 q2) fun d s3 ⟨z,H3,I3,r3,k,e,q3⟩=>?_)) hm;subst e;cases r3;refine mO ?_;cases k with
 | false=>exact ite_ff ⟨.bl false,H3,I3,rfl,q3⟩
 | true=>exact ite_tt (chain_last (aS (hc pins s3 σ H3 _ I3 q3) fun w' s4 ⟨z',H4,I4,r4,q4⟩=>lY pins s4 σ H4 y z' u w' Q I4 r2 r4 q4))
def IM(K:aB)(x:V)(H:Hp)(k:Bool):Prop:=
 match x with
 | .bh=>k=false
 | .bl b=>k=b
 | .int i=>k=(i != 0)
 | .str y=>y.length≤sizeLine∧k=((y.length:Int) != 0)
 | .i9 y=>y.size≤sizeLine∧k=((y.size:Int) != 0)
 | .ref p=>(∃xs,aZ K H p xs∧k = !xs.isEmpty)∨(∃xs,dH K H p xs∧k = !xs.isEmpty)∨∃ar,H p=some (.dK ar)∧k = !ar.isEmpty
 | _=>False
theorem QI{κ:Type}{ar:List (κ×V)}{vs:List (κ×Value)}(r:KV ar vs):(!vs.isEmpty) = !ar.isEmpty:=by cases r <;> rfl
theorem IP{ak:List Value}(r:Vals xs ak):(!ak.toArray.isEmpty) = !xs.isEmpty:=by cases r <;> simp
theorem x5:(sizeLine:Nat)<2 ^ 63:=by rw [tO];decide
theorem QJ:QA X (fun x H Q=>∃k,IM X.K x H k∧Q k H):=by
 intro pins s σ H x v Q I rx h;obtain ⟨k,e,q⟩:=h;have hl:=x5;have hs:sizeLine=16777216:=tO;cases x with
 | bh=>cases rx;have e':k=false:=e;subst e';exact truthy_none ⟨H,I,q⟩
 | bl b=>cases rx;have e':k=b:=e;subst e';exact mO ⟨H,I,q⟩
 | int i=>obtain ⟨t,rfl⟩:=rx;have e':k=(i != 0):=e;subst e';exact PySem.P.truthy_int ⟨H,I,q⟩
 | str y=>obtain ⟨t,rfl⟩:=rx;obtain ⟨hy,e'⟩:y.length≤sizeLine∧k=((y.length:Int) != 0):=e;subst e';exact PySem.P.truthy_str (by lia) ⟨H,I.tok _,q⟩
 | i9 y=>obtain ⟨t,rfl⟩:=rx;obtain ⟨hy,e'⟩:y.size≤sizeLine∧k=((y.size:Int) != 0):=e;subst e';exact PySem.W.truthy_bytes (by lia) ⟨H,I.tok _,q⟩
 | ref p=>
  cases rx;have e':(∃xs,aZ X.K H p xs∧k = !xs.isEmpty)∨(∃xs,dH X.K H p xs∧k = !xs.isEmpty)∨∃ar,H p=some (.dK ar)∧k = !ar.isEmpty:=e;rcases e' with ⟨xs,hx,e'⟩ | ⟨xs,hx,e'⟩ | ⟨ar,hx,e'⟩
  ·subst e'
   obtain ⟨ak,r,pl,hz⟩:=I.list hx;have hlen:=r.length;exact wpAny_truthy_list pl.isList (by simp only [df];lia) ⟨H,I.tok _,by rw [IP r];exact q⟩
  ·subst e'
   obtain ⟨ak,r,pl,hz⟩:=I.tuple hx;have hlen:=r.length;exact truthy_tuple pl (by simp only [df];lia) ⟨H,I.tok _,by rw [IP r];exact q⟩
  ·subst e'
   obtain ⟨hz,hS,vs,r,m⟩:ar.length≤sizeLine∧(p == sysModules)=false∧∃vs,KV ar vs∧s.heap.DictOf (iJ X.prog X.w) p vs:=I.aC p _ hx;have hlen:ar.length=vs.length:=Paired.length r;exact wpAny_truthy_dict hS m (by lia) ⟨H,I.tok _,by rw [QI r];exact q⟩
 | _=>exact (show False from e).elim
theorem QK(ha:PE X a ta)(he:∀whole,isTrue a X.env whole=(do let v ←whole;standAt a.pos;holding [v] (truthy v))) :
  PT X a (fun σ H Q=>ta σ H fun x H'=>∃k,IM X.K x H' k∧Q k H'):=by
 intro pins s σ H Q I h
 exact isTrue_plain (aS (ha pins s σ H _ I h) fun v s1 ⟨x,H1,I1,r1,q1⟩=>QJ pins s1 σ H1 x v Q I1 r1 q1) (he _)
theorem vals1(r:Vals [x] us):∃u,us=[u]∧RelV x u:=by
 cases r with
 | cons r1 r2=>cases r2;exact ⟨_,rfl,r1⟩
theorem vals2{y:V}(r:Vals [x,y] us):∃u w',us=[u,w']∧RelV x u∧RelV y w':=by
 cases r with
 | cons r1 r2=>
  cases r2 with
  | cons r3 r4=>cases r4;exact ⟨_,_,rfl,r1,r3⟩
theorem Am:ig X (.builtin "abs") (fun xs H Q=>∃i,xs=[.int i]∧Q (.int (if i<0 then -i else i)) H):=by intro pins s σ H xs us Q I r h;obtain ⟨i,rfl,q⟩:=h;obtain ⟨u,rfl,t,rfl⟩:=vals1 r;exact call_abs_int fun u tk=>⟨.int (if i<0 then -i else i),H,I.tok _,⟨_,rfl⟩,q⟩
theorem QL(hc:X.calm=true):ig X (.builtin "min") (fun xs H Q=>∃i j,xs=[.int i,.int j]∧Q (.int (if j<i then j else i)) H):=by
 intro pins s σ H xs us Q I r h;obtain ⟨i,j,rfl,q⟩:=h;obtain ⟨u,w',rfl,⟨t,rfl⟩,⟨t',rfl⟩⟩:=vals2 r;refine min_two_ints (I.ok.hd hc) fun h' tk k=>⟨_,H,I.kept k,?_,q⟩;by_cases hj:j<i;·rw [ai hj,ai hj];exact ⟨_,rfl⟩
 ·rw [ao hj,ao hj];exact ⟨_,rfl⟩
end
structure qj (h:Heap) (x dx C:Addr) (mA:dG):Prop where
 obj:h.get? x=some (PySem.W.instObj C dx)
 ns:h.Ns1 dx mA
 ne:dx≠x
variable {dx:Addr} {mA:dG}
theorem QM(n:h.Ns1 dx mA):∃od,h.get? dx=some od∧∀name,PySem.W.lookIn name od=some (mA name):=by
 obtain ⟨o,es,ep,ho,hd,hk,_,hm⟩:=n;refine ⟨o,ho,fun name=>?_⟩;have e:=hm name;unfold nsFind findBy at e;rw [←Array.find?_toList] at e;unfold PySem.W.lookIn;rw [hd];dsimp only
 split
 ·rename_i y q
  rw [q] at e;exact eY some e
 ·rename_i q
  rw [q] at e;have a:es.toList.any (·.refKey)=false:=by rw [List.any_eq_false];intro y hy;obtain ⟨z,t,QN⟩:=hk y (Array.mem_toList_iff.mp hy);simp [DictEntry.refKey,QN]
  have a':¬es.toList.any (·.refKey)=true:=by rw [a];exact dZ
  rw [ao a'];exact eY some e
variable {C:Addr}
theorem qj.look{x:Addr}(I:qj h x dx C mA):∃od,PySem.W.InstAt h x (PySem.W.instObj C dx) C (some od)∧∀name,PySem.W.lookIn name od=some (mA name):=
 let ⟨od,ho,hl⟩:=QM I.ns
 ⟨od,⟨I.obj,rfl,rfl,ho⟩,hl⟩
section
variable {prog:Program} {w:World} {A:Around} {E:aV} {s:Shared} {K:aB} {x dx C f:Addr} {mA:dG} {name:Str} {v:Value}
theorem get_map{expr:Bool}{Q:aV}(X:K.In s.heap)(I:qj s.heap x dx C mA)(hg:PySem.W.plainGet K C name=true)(hh:PySem.W.hasDictIn K C=true)
  (ha:PySem.W.findIn K (.ref C) name=some none) (hv:mA name=some v) (iq:PySem.W.handedIn v=true) (h:Q v {s with toks:=s.toks+1}) :
  wpAny (model prog w) A (getAttr (.ref x) name expr) Q E s:=by
 obtain ⟨od,J,hl⟩:=I.look;exact PySem.W.get_value X J (PySem.W.plainGet_of hg).1 (PySem.W.findObj_own hh ha rfl (by rw [hl,hv])) iq h
theorem QO{pl:Sem Bool}{Q:Value×List Value→Shared→Prop}(X:K.In s.heap)(I:qj s.heap x dx C mA)(hg:PySem.W.plainGet K C name=true)
  (hf:PySem.W.findIn K (.ref C) name=some (some (.ref f))) (ht:PySem.W.isFn K (.ref f)=true) (hv:mA name=none) (h:Q (.ref f,[.ref x]) s) :
  wpAny (model prog w) A (getMethod (.ref x) name pl) Q E s:=by
 obtain ⟨od,J,hl⟩:=I.look;exact PySem.W.method_fn X J (PySem.W.plainGet_of hg).1 (PySem.W.plainGet_of hg).2 hf (lT.mp ht) (by show (PySem.W.lookIn name od).map (·.isSome)=some false;rw [hl,hv];rfl) h
theorem QP{ns:List Str}{Q:Unit→Shared→Prop}(X:K.In s.heap)(I:qj s.heap x dx C mA)
  (hs:PySem.W.findIn K (.ref C) "__setattr__"=some (some (.builtin "object.__setattr__"))) (hp:PySem.W.plainOver K C=true) (ht:PySem.W.takerIn K C name=some none) (hh:PySem.W.hasDictIn K C=true)
  (hw:PySem.Within mA ns) (hsz:ns.length≤sizeLine)
  (h:∀h',qj h' x dx C (fun y=>if y=name then some v else mA y)→Heap.SameBut dx s.heap h'→Q () {s with heap:=h',toks:=s.toks+2}) :
  wpAny (model prog w) A (setAttr (.ref x) name v) Q E s:=by
 obtain ⟨od,J,hl⟩:=I.look;refine PySem.W.set_plain X J hs (PySem.W.osa_open (s:={s with toks:=s.toks+1}) (r:=none) X J hp ht fun b=>?_);obtain ⟨cd,hc,Dn⟩:=PySem.W.any_some hh;have hx:s.heap.get? x=some ⟨.ref C,some dx,.plain,#[]⟩:=I.obj;refine bI (cM (bI (bI (wpAny_loadPart hx (bI (PySem.W.Looks.here (s:={s with toks:=s.toks+1}) (PySem.W.looks_clsIn X hc) ?_))))));rw [Dn];refine cM (a:=some dx) (bI (cM (bI ?_)));refine wpAny_nsSet1 (s:={s with toks:=s.toks+1}) I.ns fun h' t6 l_=>?_;obtain ⟨oD,esD,epD,QQ,QR,QS⟩:=t6.count (PySem.Within.cons name v hw);refine bI (wpAny_lookBehind QQ (by rw [QR];exact pastItsLine_dict (aj QS (by rw [d8];lia))) ?_)
 exact cM (h _ ⟨(l_.2 _ (Ne.symm I.ne)).trans I.obj,t6,I.ne⟩ l_)
theorem QT{R:Result→Shared→Prop}{vs:List Value}{kw:List (Str×Value)}(X:K.In s.heap)(hm:PySem.W.makesIn K C=true)
  (hi:PySem.W.findIn K (.ref C) "__init__"=some (some (.ref f))) (hf:PySem.W.typeIn K (.ref f)=some (.type "function"))
  (h:codeAny (model prog w) (A.under (.builtin "type.__call__" ⟨.ref C::vs,kw⟩)) (.call (.ref f) ⟨.ref (s.heap.objs.size+1)::vs,kw⟩) (PySem.W.InitBack (s.heap.objs.size+1) R)
   {s with heap:=(s.heap.push PySem.W.emptyDict).push (PySem.W.instObj C s.heap.objs.size)}) :
  codeAny (model prog w) A (.call (.ref C) ⟨vs,kw⟩) R s:=by
 obtain ⟨hh,g,d,t,os⟩:=s;exact PySem.W.make_core (PySem.W.makes_of X hm) (zQ X hi) (fun self=>PySem.W.bind_fn X self hf) (.inl rfl) h
end
def ir(f:Str)(v:V):List (Str×V)→List (Str×V)
 | []=>[(f,v)]
 | (g,x)::r=>if g=f then (g,v)::r else (g,x)::ir f v r
theorem IQ(f g:Str)(v:V):∀fs:List (Str×V),(ir f v fs).lookup g=if g=f then some v else fs.lookup g
 | []=>by
  show List.lookup g [(f,v)]=_;by_cases h:g=f
  ·have hb:(g == f)=true:=lT.mpr h
   simp only [List.lookup,hb,ai h]
  ·have hb:(g == f)=false:=tL.mpr h
   simp only [List.lookup,hb,ao h]
 | (k,x)::r=>by
  have ih:=IQ f g v r;rw [show ir f v ((k,x)::r)=(if k=f then (k,v)::r else (k,x)::ir f v r) from rfl]
  by_cases hk:k=f
  ·rw [ai hk]
   by_cases h:g=k
   ·have hb:(g == k)=true:=lT.mpr h
    simp only [List.lookup,hb,ai (h.trans hk)]
   ·have hb:(g == k)=false:=tL.mpr h
    simp only [List.lookup,hb,ao (fun e:g=f=>h (e.trans hk.symm))]
  ·rw [ao hk]
   by_cases h:g=k
   ·have hb:(g == k)=true:=lT.mpr h
    simp only [List.lookup,hb,ao (fun e:g=f=>hk (h.symm.trans e))]
   ·have hb:(g == k)=false:=tL.mpr h
    simp only [List.lookup,hb];exact ih
theorem DI(f:Str)(v:V):∀fs:List (Str×V),f∈(ir f v fs).map (·.1)∧∀g,g∈fs.map (·.1)→g∈(ir f v fs).map (·.1)
 | []=>⟨by simp [ir],fun g h=>by simp at h⟩
 | (k,x)::r=>by
  obtain ⟨i1,i2⟩:=DI f v r;rw [show ir f v ((k,x)::r)=(if k=f then (k,v)::r else (k,x)::ir f v r) from rfl]
  by_cases hk:k=f
  ·rw [ai hk]
   subst hk;exact ⟨by simp,fun g h=>by simpa using h⟩
  ·rw [ao hk]
   refine ⟨?_,fun g h=>?_⟩
   ·rw [cX]
    exact fY _ i1
   ·rw [cX] at h ⊢
    rcases cH.mp h with e | e;·exact cH.mpr (.inl e)
    ·exact fY _ (i2 g e)
theorem IS(f:Str)(v:V):∀fs:List (Str×V),(ir f v fs).length≤fs.length+1
 | []=>by simp [ir]
 | (k,x)::r=>by
  have ih:=IS f v r;rw [show ir f v ((k,x)::r)=(if k=f then (k,v)::r else (k,x)::ir f v r) from rfl]
  by_cases hk:k=f;·rw [ai hk,d8,d8];lia
  ·rw [ao hk,d8,d8];lia
variable {v:V}
theorem jD.some_of{o:Option Value}(r:jD (some v) o):∃u,o=some u∧RelV v u:=by
 cases o with
 | none=>exact (show False from r).elim
 | some u=>exact ⟨u,rfl,r⟩
theorem jD.none_of{o:Option Value}(r:jD none o):o=none:=by
 cases o with
 | none=>rfl
 | some u=>exact (show False from r).elim
theorem QU(r:RelV v u):PySem.W.handedIn u=true:=by
 cases v with
 | bh=>cases (show u=Value.none from r);rfl
 | bl b=>cases (show u=Value.bool b from r);rfl
 | int i=>obtain ⟨t,e⟩:=(show ∃t,u=Value.int i t from r);cases e;rfl
 | str x=>obtain ⟨t,e⟩:=(show ∃t,u=Value.str x t from r);cases e;rfl
 | i9 b=>obtain ⟨t,e⟩:=(show ∃t,u=Value.bytes b t from r);cases e;rfl
 | pV b=>obtain ⟨t,e⟩:=(show ∃t,u=Value.float b t from r);cases e;rfl
 | ref a=>cases (show u=Value.ref a from r);rfl
 | ty n=>cases (show u=Value.type n from r);rfl
section
variable {P:Program} {w:World} {H H':Hp} {h h':Heap} {a C dx:Addr} {fs Dm:List (Str×V)}
theorem An(aC:cL P w H h)(e:H a=some (.ins C dx fs)):∃mA,qj h a dx C mA∧(∀f,jD (fs.lookup f) (mA f))∧PySem.Within mA (fs.map (·.1))∧fs.length≤1000∧H dx=some (.own a):=by obtain ⟨d,z,ne,ob,mA,n,r,q⟩:=(show da P w H h a (.ins C dx fs) from aC a _ e);exact ⟨mA,⟨ob,n,ne⟩,r,q,z,d⟩
end
structure lB (K:aB) (C:Addr):Prop where
 pg:PySem.W.plainGet K C Str.empty=true
 hd:PySem.W.hasDictIn K C=true
 po:PySem.W.plainOver K C=true
 sa:PySem.W.findIn K (.ref C) "__setattr__"=some (some (.builtin "object.__setattr__"))
theorem lB.get{K:aB}{C:Addr}(c:lB K C)(f:Str):PySem.W.plainGet K C f=true:=c.pg
def qk(K:aB)(C:Addr)(f:Str):Prop:=PySem.W.findIn K (.ref C) f=some none
theorem qk.QV{f:Str}(n:qk K C f):PySem.W.takerIn K C f=some none:=by unfold PySem.W.takerIn;rw [show PySem.W.findIn K (.ref C) f=some none from n];rfl
structure Meth (K:aB) (C:Addr) (m:Str) (f:Addr):Prop where
 at_:PySem.W.findIn K (.ref C) m=some (some (.ref f))
 fn:PySem.W.isFn K (.ref f)=true
 kp:PySem.W.keepIn K (.ref f)=true
section
variable {X:Cx} {pins:bg} {σ:St} {H:Hp} {s:Shared} {a C dx:Addr} {fs:List (Str×V)} {f:Str} {v:V} {A:Around} {E:aV}
variable {Q:aV}
theorem QW{b:Bool}(I:Inv X pins σ H s)(e:H a=some (.ins C dx fs))(c:lB X.K C)(n:qk X.K C f)(l:fs.lookup f=some v)
  (h:∀u s',Inv X pins σ H s'→RelV v u→Q u s'):wpAny (model X.prog X.w) A (getAttr (.ref a) f b) Q E s:=by
 obtain ⟨mA,O,r,_,_,_⟩:=An I.aC e;obtain ⟨u,hu,ru⟩:=jD.some_of (v:=v) (o:=mA f) (by rw [←l];exact r f)
 exact get_map I.d_ O (c.get f) c.hd n hu (QU ru) (h u _ (I.tok _) ru)
theorem IT{m:Str}{g:Addr}{pl:Sem Bool}{Q:Value×List Value→Shared→Prop}(I:Inv X pins σ H s)(e:H a=some (.ins C dx fs))(c:lB X.K C)(k:Meth X.K C m g)(l:fs.lookup m=none)
  (h:Q (.ref g,[.ref a]) s):wpAny (model X.prog X.w) A (getMethod (.ref a) m pl) Q E s:=by
 obtain ⟨mA,O,r,_,_,_⟩:=An I.aC e;have hn:mA m=none:=jD.none_of (by rw [←l];exact r m)
 exact QO I.d_ O (c.get m) k.at_ k.fn hn h
theorem QX{y:V}{Q:Unit→Shared→Prop}(I:Inv X pins σ H s)(e:H a=some (.ins C dx fs))(c:lB X.K C)(n:qk X.K C f)(hl:fs.length<1000)(ry:RelV y u)
  (h:∀s',Inv X pins σ (upd H a (.ins C dx (ir f y fs))) s'→Q () s'):wpAny (model X.prog X.w) A (setAttr (.ref a) f u) Q E s:=by
 obtain ⟨mA,O,r,wi,_,ho⟩:=An I.aC e;have hz:(fs.map (·.1)).length≤sizeLine:=by rw [aG,tO];lia
 refine QP I.d_ O c.sa c.po n.QV c.hd wi hz fun h' O' sb=>h _ ?_;have hd:∃o,h'.get? dx=some o:=let ⟨o,_,_,e',_⟩:=O'.ns;⟨o,e'⟩
 refine I.write (x:=a) (e:=dx) (by rw [e];exact True.intro) (.inr ho) (fun b q hb z=>(sb.2 b hb).trans z) hd ?_
 refine ⟨by rw [a9 O.ne];exact ho,?_,O.ne,O'.obj,_,O'.ns,fun g=>?_,fun g hg=>?_⟩
 ·have:=IS f y fs;lia
 ·show jD ((ir f y fs).lookup g) (if g=f then some u else mA g)
  rw [IQ];by_cases q:g=f;·rw [ai q,ai q];exact ry
  ·rw [ao q,ao q];exact r g
 ·by_cases q:g=f
  ·rw [q];exact (DI f y fs).1
  ·refine (DI f y fs).2 g (wi g fun z=>hg ?_)
   show (if g=f then some u else mA g)=none
   rw [ao q];exact z
theorem Inv.made(I:Inv X pins σ H s):Inv X pins σ (upd (upd H s.heap.objs.size (.own (s.heap.objs.size+1))) (s.heap.objs.size+1) (.ins C s.heap.objs.size []))
  {s with heap:=(s.heap.push PySem.W.emptyDict).push (PySem.W.instObj C s.heap.objs.size)}:=by
 have e1:(s.heap.push PySem.W.emptyDict).get? s.heap.objs.size=some PySem.W.emptyDict:=fZ s.heap rfl;have e2:((s.heap.push PySem.W.emptyDict).push (PySem.W.instObj C s.heap.objs.size)).get? (s.heap.objs.size+1)=some (PySem.W.instObj C s.heap.objs.size):=by
  have:=fZ (s.heap.push PySem.W.emptyDict) (o:=PySem.W.instObj C s.heap.objs.size) rfl
  rwa [Heap.size_push] at this
 have e3:(s.heap.push PySem.W.emptyDict).Ns s.heap.objs.size (fun _=>none):=⟨PySem.W.emptyDict,#[],_,e1,rfl,(fun e he=>absurd he (by simp)),fun _=>rfl⟩
 have I1:=I.laid (a:=s.heap.objs.size) (o:=.own (s.heap.objs.size+1)) (h':=s.heap.push PySem.W.emptyDict) (t':=s.toks) (fun b u q=>dy _ q) (aE _) ⟨_,e1⟩;refine I1.laid (a:=s.heap.objs.size+1) (o:=.ins C s.heap.objs.size []) (t':=s.toks) (fun b u q=>dy _ q) (mP (Heap.size_push _ _)) ?_;have ne:s.heap.objs.size≠s.heap.objs.size+1:=dR (zR _);refine ⟨by rw [a9 ne,az],cN _,ne,e2,fun _=>none,(Heap.Ns1.of_empty e3).at fun o q=>dy _ q,fun _=>True.intro,fun y hy=>absurd rfl hy⟩
theorem QY{prog:Program}{env:Env}{e:Expr}{pos:Pos}(hb:attributeBase e f env (eval e env)=eval e env)
  (h:wpAny (model prog w) A (eval e env) (fun o s₁=>wpAny (model prog w) A (getAttr o f true) Q E s₁) E s):wpAny (model prog w) A (eval (.Attribute e f pos) env) Q E s:=
 Attribute_any_ h (by rw [arm_eval_Attribute,hb])
end
def IU(K:aB)(ta:TE)(f:Str):TE:=fun σ H Q=>ta σ H fun x H1=>∃a C dx fs v,x=.ref a∧H1 a=some (.ins C dx fs)∧lB K C∧qk K C f∧fs.lookup f=some v∧Q v H1
def QZ(K:aB)(ta tv:TE)(f:Str):TS:=fun D σ H=>tv σ H fun y H1=>ta σ H1 fun x H2=>∃a C dx fs,x=.ref a∧H2 a=some (.ins C dx fs)∧lB K C∧qk K C f∧fs.length<1000 ∧
 D.nx σ (upd H2 a (.ins C dx (ir f y fs)))
section
variable {X:Cx} {o e value:Expr} {f:Str} {pos pos' t7:Pos} {ta tv:TE}
theorem jG(he:PE X e ta)(hb:attributeBase e f X.env (eval e X.env)=eval e X.env):PE X (.Attribute e f pos) (IU X.K ta f):=by intro pins s σ H Q I h;refine QY hb (aS (he pins s σ H _ I h) fun u s1 ⟨x,H1,I1,rx,a,C,dx,fs,v,ex,ea,c,n,l,q⟩=>?_);subst ex;obtain rfl:u=Value.ref a:=rx;exact QW I1 ea c n l fun u' s2 I2 ru=>⟨v,H1,I2,ru,q⟩
theorem IV(ha:PE X o ta)(hv:PE X value tv)(hs:swapsWith value (some (.Attribute o f pos')) pos.line X.env=pure false):PS X (.Assign [.Attribute o f pos'] value pos) (QZ X.K ta tv f):=by intro pins s σ H D I h;refine plainObj_wpAny_Assign_Attribute (aS (hv pins s σ H _ I h) fun u s1 ⟨y,H1,I1,ry,q⟩=>aS (ha pins s1 σ H1 _ I1 q) fun ov s2 ⟨x,H2,I2,rx,a,C,dx,fs,ex,ea,c,n,l,q2⟩=>?_) hs;subst ex;obtain rfl:ov=Value.ref a:=rx;exact QX I2 ea c n l ry fun s3 I3=>⟨σ,_,I3,q2⟩
theorem afH{pl:Sem Bool}{m:Str}{apos:Pos}{args:List Expr}{pins:bg}{Q:aV}{te:TE}(he:PE X e te)(I:Inv X pins σ H s)
  (h:te σ H fun x H1=>∃a C dx fs g,x=.ref a∧H1 a=some (.ins C dx fs)∧lB X.K C∧Meth X.K C m g∧fs.lookup m=none ∧
   ∀s1,Inv X pins σ H1 s1→wpAny (model X.prog X.w) X.A (callWith pos (.ref g) [.ref a] (backTo pos (starEach args X.env)) (backToKw pos (keywordEach [] X.env))) Q X.xe s1)
  (ht:eval (.Call (.Attribute e m apos) args [] pos) X.env=(do
   let ov ←eval e X.env
   standAt apos.atName
   let (f,first) ←holding [ov] (getMethod ov m pl)
   callWith pos f first (backTo pos (starEach args X.env)) (backToKw pos (keywordEach [] X.env)))) :
  wpAny (model X.prog X.w) X.A (eval (.Call (.Attribute e m apos) args [] pos) X.env) Q X.xe s:=by
 refine PySem.W.methodCall_KW (pl:=pl) (aS (he pins s σ H _ I h) fun u s1 ⟨x,H1,I1,rx,a,C,dx,fs,g,ex,ea,c,k,l,q⟩=>?_) ht
 subst ex
 obtain rfl:u=Value.ref a:=rx
 exact IT I1 ea c k l (q s1 I1)
end
section
variable {X:Cx} {pins:bg} {σ:St} {H:Hp} {s:Shared} {A:Around} {E:aV} {Q:aV} {c:Value} {b:Bool}
inductive jH (K:aB) (H:Hp):V→Value→Prop where
 | bh:jH K H .bh (.type "NoneType")
 | bl (x:Bool):jH K H (.bl x) (.type "bool")
 | int (i:Int):jH K H (.int i) (.type "int")
 | str (x:Str):jH K H (.str x) (.type "str")
 | pV (x:UInt64):jH K H (.pV x) (.type "float")
 | lst {a:Addr} {xs:List V} (e:H a=some (.lst xs)):jH K H (.ref a) (.type "list")
 | cW {a:Addr} {o:Obj} {xs:List V} (e:H a=some (.cW o (.lst xs))):jH K H (.ref a) (.type "list")
 | tup {a:Addr} {xs:List V} (e:H a=some (.tup xs)):jH K H (.ref a) (.type "tuple")
 | dK {a:Addr} {ar:List (Key×V)} (e:H a=some (.dK ar)):jH K H (.ref a) (.type "dict")
 | dT {a:Addr} {ar:List (List Key×V)} (e:H a=some (.dT ar)):jH K H (.ref a) (.type "dict")
 | ins {a C dx:Addr} {fs:List (Str×V)} (e:H a=some (.ins C dx fs)) (cl:lB K C) (ha:PySem.W.findIn K (.ref C) "__class__"=some (some (.builtin "object.__class__")))
   (hn:PySem.W.specialIn K (.builtin "object.__class__") "__get__"=some (some (.builtin "getset_descriptor.__get__"))) (IW:PySem.W.takesIn K (.builtin "object.__class__")=some true)
   (hm:PySem.W.mroIn K C (.type "object")=some true):jH K H (.ref a) (.ref C)
theorem Q0{t:Value}(I:Inv X pins σ H s)(rx:RelV x u)(ty:jH X.K H x t)(e:PySem.W.kitOne X.K t c=some b)(h:∀tk,Q (.bool b) {s with toks:=tk}) :
  wpAny (model X.prog X.w) A (call (.builtin "isinstance") [u,c]) Q E s:=by
 cases ty with
 | bh=>cases (show u=Value.none from rx);exact jz PySem.W.kitx_none I.d_ True.intro e (fun z=>nomatch z) h
 | bl y=>cases (show u=Value.bool y from rx);exact jz PySem.W.kitx_bool I.d_ True.intro e (fun z=>nomatch z) h
 | int i=>obtain ⟨t,q⟩:=(show ∃t,u=Value.int i t from rx);cases q;exact jz PySem.W.kitx_int I.d_ True.intro e (fun z=>nomatch z) h
 | str y=>obtain ⟨t,q⟩:=(show ∃t,u=Value.str y t from rx);cases q;exact jz PySem.W.kitx_str I.d_ True.intro e (fun z=>nomatch z) h
 | pV y=>obtain ⟨t,q⟩:=(show ∃t,u=Value.float y t from rx);cases q;exact jz PySem.W.kitx_float I.d_ True.intro e (fun z=>nomatch z) h
 | @lst a xs ea=>cases (show u=Value.ref a from rx);obtain ⟨_,_,n,_,h1⟩:=(show da X.prog X.w H s.heap a (.lst xs) from I.aC a _ ea);exact jz PySem.W.kitx_list I.d_ ⟨_,h1,rfl⟩ e (fun z=>nomatch z) h
 | @cW a ob xs ea=>cases (show u=Value.ref a from rx);obtain ⟨_,_,_,n,_,h1⟩:=(show da X.prog X.w H s.heap a (.cW ob (.lst xs)) from I.aC a _ ea);exact jz PySem.W.kitx_list I.d_ ⟨_,h1,rfl⟩ e (fun z=>nomatch z) h
 | @tup a xs ea=>cases (show u=Value.ref a from rx);obtain ⟨_,_,_,p⟩:=(show da X.prog X.w H s.heap a (.tup xs) from I.aC a _ ea);obtain ⟨o,h1,h2,_⟩:=p;exact jz PySem.W.kitx_tuple I.d_ ⟨o,h1,h2⟩ e (fun z=>nomatch z) h
 | @dK a ar ea=>cases (show u=Value.ref a from rx);obtain ⟨_,_,vs,_,p⟩:=(show da X.prog X.w H s.heap a (.dK ar) from I.aC a _ ea);obtain ⟨o,es,ep,h1,h2,_⟩:=p;exact jz PySem.W.kitx_dict I.d_ ⟨o,h1,h2.1⟩ e (fun z=>nomatch z) h
 | @dT a ar ea=>cases (show u=Value.ref a from rx);obtain ⟨_,_,xs,_,o,es,ep,h1,h2,_⟩:=(show da X.prog X.w H s.heap a (.dT ar) from I.aC a _ ea);exact jz PySem.W.kitx_dict I.d_ ⟨o,h1,h2.1⟩ e (fun z=>nomatch z) h
 | @ins a C dx fs ea cl ha hn IW hm=>cases (show u=Value.ref a from rx);obtain ⟨mA,O,_⟩:=An I.aC ea;obtain ⟨od,J,_⟩:=O.look;exact jz (PySem.W.kitx_own (cl.get _) cl.hd ha hn IW hm) I.d_ J e (fun z=>nomatch z) h
end
structure dI (k:Nat) (A:Around):Prop where
 hd:A.handled=none
 dp:A.depth+3*k+5<recursionLimit
 un:A.units+16*k+200<cLine
variable {k:Nat}
theorem dI.mono{j:Nat}(r:dI k A)(h:j≤k):dI j A:=⟨r.hd,by have:=r.dp;lia,by have:=r.un;lia⟩
theorem dI.deeper(r:dI (k+1) A)(env:Env):dI k (A.deeper env):=
 ⟨r.hd,by have:=r.dp;show A.depth+1+3*k+5<_;lia,by have:=r.un;show A.units+3+16*k+200<_;lia⟩
variable {kw:List (Str×Value)}
theorem Q1:(A.under (.builtin "type.__call__" ⟨.ref C::us,kw⟩)).depth=A.depth+1:=by first | rfl | simp [Around.under,Code.weight,Code.isCreation,Code.isGuard,Code.isCaller,Code.frames,Code.isFrame,guardIds]
theorem Q2:(A.under (.builtin "type.__call__" ⟨.ref C::us,kw⟩)).units=A.units+1:=by first | rfl | simp [Around.under,Code.cUnits,Code.frames,Code.isFrame]
theorem dI.make(r:dI (k+1) A)(C:Addr)(us:List Value)(kw:List (Str×Value)):dI k (A.under (.builtin "type.__call__" ⟨.ref C::us,kw⟩)):=
 ⟨r.hd,by have:=r.dp;rw [Q1];lia,by have:=r.un;rw [Q2];lia⟩
theorem dI.depth(r:dI k A):A.depth<recursionLimit:=by have:=r.dp;lia
theorem dI.units(r:dI k A):A.units+64<cLine:=by have:=r.un;lia
theorem dI.x6(r:dI k A):A.units<cLine:=by have:=r.un;lia
def oK:TA:=fun _ H Q=>Q [] H
def ql(ta:TE)(tr:TA):TA:=fun σ H Q=>ta σ H fun x H1=>tr σ H1 fun xs H2=>Q (x::xs) H2
section
variable {X:Cx} {e:Expr} {es:List Expr} {te:TE} {t:TA} {pos:Pos}
theorem ae:PA X [] oK:=fun _ _ _ _ H Q I h=>Calls.spliced_nil ⟨[],H,I,.nil,h⟩
theorem Q3(ha:PE X e te)(hr:PA X es t)(hs:starEach (e::es) X.env=(false,eval e X.env)::starEach es X.env:=by rfl):PA X (e::es) (ql te t):=by intro pos pins s σ H Q I h;rw [hs];show wpAny _ _ (spliced ((false,eval e X.env)::backTo pos (starEach es X.env))) _ _ s;refine Calls.spliced_cons (aS (ha pins s σ H _ I h) fun u s1 ⟨x,H1,I1,r1,q1⟩=>?_);exact aS (hr pos pins s1 σ H1 _ I1 q1) fun us s2 ⟨xs,H2,I2,r2,q2⟩=>⟨x::xs,H2,I2,.cons r1 r2,q2⟩
def IY(t:TA):TE:=fun σ H Q=>t σ H fun xs H1=>xs.length≤sizeLine∧∀p,H1 p=none→Q (.ref p) (upd H1 p (.tup xs))
def Q4(t:TA):TE:=fun σ H Q=>t σ H fun xs H1=>xs.length≤sizeLine∧∀p,H1 p=none→Q (.ref p) (upd H1 p (.lst xs))
theorem eE{x1}(h:PA X es t):PE X (.Tuple es x1 pos) (IY t):=by
 intro pins s σ H Q I hq;refine wpAny_Tuple_spliced (aS (h pos pins s σ H _ I hq) fun us s1 ⟨xs,H1,I1,r,z,q⟩=>⟨by rw [←r.length];exact z,?_⟩)
 have hf:H1 s1.heap.objs.size=none:=I1.aC.fresh (aE _);refine ⟨.ref s1.heap.objs.size,upd H1 s1.heap.objs.size (.tup xs),I1.laid (t':=s1.toks) (fun b u e=>dy _ e) (aE _) ?_,rfl,q _ hf⟩;exact ⟨z,us,r,⟨_,fZ _ rfl,rfl,_,rfl⟩⟩
theorem gi(h:PA X es t):PE X (.List es pos) (Q4 t):=by
 intro pins s σ H Q I hq;refine wpAny_List_spliced (aS (h pos pins s σ H _ I hq) fun us s1 ⟨xs,H1,I1,r,z,q⟩=>⟨by rw [←r.length];exact z,?_⟩)
 have hf:H1 s1.heap.objs.size=none:=I1.aC.fresh (aE _);refine ⟨.ref s1.heap.objs.size,upd H1 s1.heap.objs.size (.lst xs),I1.laid (t':=s1.toks) (fun b u e=>dy _ e) (aE _) ?_,rfl,q _ hf⟩;exact ⟨z,us,0,r,fZ _ rfl⟩
end
abbrev Sp:=List V→Hp→VK→XK→Prop
abbrev iR:=List Env→Hp→Shared→XK→Value→Shared→Prop
structure qm (P:Program) (w:World) (K:aB) (mg:dG) (base:Heap) (A:Around) (outer:List Env) (s:Shared) (H:Hp):Prop where
 frames:A.frames=some outer
 mod:Mod K mg base
 bs:∀b o,base.get? b=some o→s.heap.get? b=some o∧H b=none
 jF:base.objs.size≤s.heap.objs.size
 kj:s.heap.FunFrames base outer
 m_:∀b∈cY outer,H b=none
 aC:cL P w H s.heap
 bare:AllBare s.gens
def CE(outer:List Env)(P:Program)(w:World)(H:Hp)(s:Shared)(Q:VK)(u:Value)(s':Shared):Prop:=
 ∃v H',s'.os=s.os∧AllBare s'.gens∧Un (cY outer) [] H H' s.heap s'.heap∧cL P w H' s'.heap∧RelV v u∧Q v H'
def CR(CX:iR)(outer:List Env)(P:Program)(w:World)(H:Hp)(s:Shared)(Q:VK)(E:XK)(r:Result)(s':Shared):Prop:=
 match r with
 | .ok (.ret u)=>CE outer P w H s Q u s'
 | .ok _=>False
 | .error e=>CX outer H s E e s'
structure a_ (P:Program) (w:World) (K:aB) (mg:dG) (base:Heap) (CX:iR) (k:Nat) (f:Addr) (fd:FuncData) (ps:List Str) (sp:Sp):Prop where
 len:∀vs H Q E,sp vs H Q E→vs.length=ps.length
 run:∀(A:Around) (outer:List Env) (s:Shared) (H:Hp) (args:Args) (us:List Value) (vs:List V) (Q:VK) (E:XK),dI k A→qm P w K mg base A outer s H→BindsTo s fd args (ps.zip us)→Vals vs us→sp vs H Q E→
  codeAny (model P w) A (.call (.ref f) args) (CR CX outer P w H s Q E) s
variable {mg:dG} {base:Heap} {outer:List Env}
theorem qm.make(e:qm P w K mg base A outer s H)(C:Addr)(us:List Value)(kw:List (Str×Value)) :
  qm P w K mg base (A.under (.builtin "type.__call__" ⟨.ref C::us,kw⟩)) outer s H:=⟨by first | exact e.frames | (simpa [Around.under,Code.envs,Code.isFrame,pushEnvs] using e.frames),e.mod,e.bs,e.jF,e.kj,e.m_,e.aC,e.bare⟩
section
variable {X:Cx} {pins:bg} {σ:St} {H:Hp} {s s':Shared}
theorem Inv.IZ(I:Inv X pins σ H s):qm X.prog X.w X.K X.mg X.base X.A X.stack s H:=
 ⟨I.ok.frames,I.ok.mod,I.bs,aj I.ok.jF I.sz,I.stack,I.xP,I.aC,I.bare⟩
theorem Inv.after{Q:VK}(I:Inv X pins σ H s)(h:CE X.stack X.prog X.w H s Q u s'):EP X pins σ Q u s':=by obtain ⟨v,H',os,bare,un,aC,r,q⟩:=h;obtain ⟨hh,g,d,t,Q5⟩:=s';obtain rfl:Q5=s.os:=os;exact ⟨v,H',I.call (h':=hh) (g':=g) (d':=d) (t':=t) (ch:=[]) un aC bare (fun b z=>absurd z (by simp)),r,q⟩
end
def I_(sp:Sp)(fG:List V)(E:XK)(t:TA):TE:=fun σ H Q=>t σ H fun vs H1=>sp (vs++fG) H1 Q E
def Q6(C:Addr)(m:Str)(sp:Sp)(fG:List V)(E:XK)(ta:TE)(t:TA):TE:=fun σ H Q=>ta σ H fun x H1=>∃a dx fs,x=.ref a∧H1 a=some (.ins C dx fs)∧fs.lookup m=none ∧
 t σ H1 fun vs H2=>sp (x::(vs++fG)) H2 Q E
def Q7(C:Addr)(sp:Sp)(fG:List V)(E:XK)(t:TA):TE:=fun σ H Q=>t σ H fun vs H1=>∀x dx,H1 x=none→H1 dx=none→dx≠x→
 sp (.ref x::(vs++fG)) (upd (upd H1 dx (.own x)) x (.ins C dx [])) (fun v H2=>v=.bh∧Q (.ref x) H2) E
def Binds(K:aB)(fd:FuncData)(ps:List Str)(ds:List Value):Prop:=
 ∀(s:Shared) (us:List Value),K.In s.heap→(us++ds).length=ps.length→BindsTo s fd ⟨us,[]⟩ (ps.zip (us++ds))
variable {ps:List Str}
theorem Binds.all{fd:FuncData}(h:∀us:List Value,us.length=ps.length→bindArgs fd ⟨us,[]⟩=pure (ps.zip us)):Binds K fd ps []:=fun s us _ hl=>by rw [zS] at hl ⊢;exact .of_eq (h us hl)
def Passes(CX:iR)(X:Cx)(E:XK):Prop:=∀(pins:bg) (σ:St) (H:Hp) (s:Shared) (e:Value) (s':Shared),Inv X pins σ H s→CX X.stack H s E e s'→X.xe e s'
section
variable {X:Cx} {CX:iR} {k:Nat} {f C:Addr} {fd:FuncData} {ps:List Str} {sp:Sp} {fG:List V} {ds:List Value} {E:XK} {x m:Str} {p pos apos:Pos} {e o:Expr} {es:List Expr} {ta:TE} {t:TA}
variable {pins:bg} {Q:VK}
theorem Ja{vs:List V}(F:a_ X.prog X.w X.K X.mg X.base CX k f fd ps sp)(hr:dI k X.A)(hb:Binds X.K fd ps ds)(hd:Vals fG ds)(hx:Passes CX X E)
  (I:Inv X pins σ H s) (r:Vals vs us) (h:sp (vs++fG) H Q E):wpAny (model X.prog X.w) X.A (call (.ref f) us) (EP X pins σ Q) X.xe s:=by
 have r2:Vals (vs++fG) (us++ds):=r.append hd;have hl:(us++ds).length=ps.length:=by rw [←r2.length];exact F.len _ _ _ _ h
 refine wpAny_call (codeAny_mono (F.run X.A X.stack s H ⟨us,[]⟩ (us++ds) (vs++fG) Q E hr I.IZ (hb s us I.d_ hl) r2 h) fun r s' hq=>?_);cases r with
 | error e=>exact hx pins σ H s e s' I hq
 | ok fl=>
  cases fl with
  | ret u=>exact I.after hq
  | next=>exact False.elim hq
  | brk=>exact False.elim hq
  | cont=>exact False.elim hq
theorem Ao(F:a_ X.prog X.w X.K X.mg X.base CX k f fd ps sp)(hr:dI k X.A)(hg:Gl X x)(hm:X.mg x=some (.ref f))(hk:PySem.W.keepIn X.K (.ref f)=true)(hb:Binds X.K fd ps ds)(hd:Vals fG ds)(hx:Passes CX X E)
  (ha:PA X (e::es) t) (nk:(x == ("__debug__":Str))=false:=by decide) (he:starEach (e::es) X.env=(false,eval e X.env)::starEach es X.env:=by rfl) (ku:(backTo pos (starEach es X.env)).any (·.1)=false:=by rfl) :
  PE X (.Call (.Name x p) (e::es) [] pos) (I_ sp fG E t):=by
 intro pins s σ H Q I h;refine zT (Af I hg hm ?_ nk);refine PySem.W.callWith_K (h₀:=X.base) I.ok.mod.dA hk (aS (ha pos pins s σ H _ I h) fun us s1 ⟨vs,H1,I1,r,q⟩=>⟨I1.d_,?_⟩) he ku;exact Ja F hr hb hd hx I1 r q
theorem aM{j:Nat}(F:a_ X.prog X.w X.K X.mg X.base CX k f fd ps sp)(hr:dI j X.A)(hm:X.mg x=some (.ref f))(hk:PySem.W.keepIn X.K (.ref f)=true)(hb:Binds X.K fd ps [])(hx:Passes CX X E)
  (ha:PA X (e::es) t) (hj:k≤j:=by decide) (hg:Gl X x:=by exact rfl) (nk:(x == ("__debug__":Str))=false:=by decide) (he:starEach (e::es) X.env=(false,eval e X.env)::starEach es X.env:=by rfl) (ku:(backTo pos (starEach es X.env)).any (·.1)=false:=by rfl) :
  PE X (.Call (.Name x p) (e::es) [] pos) (I_ sp [] E t):=Ao F (hr.mono hj) hg hm hk hb .nil hx ha nk he ku
theorem fH{pl:Sem Bool}(he:PE X o ta)(c:lB X.K C)(hm:Meth X.K C m f)(F:a_ X.prog X.w X.K X.mg X.base CX k f fd ps sp)(hr:dI k X.A)(hb:Binds X.K fd ps ds)(hd:Vals fG ds)(hx:Passes CX X E)(ha:PA X (e::es) t)
  (Dx:starEach (e::es) X.env=(false,eval e X.env)::starEach es X.env:=by rfl) (ku:(backTo pos (starEach es X.env)).any (·.1)=false:=by rfl)
  (ht:eval (.Call (.Attribute o m apos) (e::es) [] pos) X.env=(do
   let ov ←eval o X.env
   standAt apos.atName
   let (f,first) ←holding [ov] (getMethod ov m pl)
   callWith pos f first (backTo pos (starEach (e::es) X.env)) (backToKw pos (keywordEach [] X.env))):=by rfl) :
  PE X (.Call (.Attribute o m apos) (e::es) [] pos) (Q6 C m sp fG E ta t):=by
 intro pins s σ H Q I h
 refine PySem.W.methodCall_KW (pl:=pl) (aS (he pins s σ H _ I h) fun u s1 ⟨x,H1,I1,rx,a,dx,fs,ex,ea,l,q⟩=>?_) ht
 subst ex
 obtain rfl:u=Value.ref a:=rx
 refine IT I1 ea c hm l ?_
 refine PySem.W.callWith_K (first:=[.ref a]) (h₀:=X.base) I.ok.mod.dA hm.kp (aS (ha pos pins s1 σ H1 _ I1 q) fun us s2 ⟨vs,H2,I2,r,q2⟩=>⟨I2.d_,?_⟩) Dx ku
 exact Ja (us:=.ref a::us) (vs:=.ref a::vs) F hr hb hd hx I2 (.cons rfl r) q2
structure Mk (K:aB) (C f:Addr):Prop where
 makes:PySem.W.makesIn K C=true
 init:PySem.W.findIn K (.ref C) "__init__"=some (some (.ref f))
 fn:PySem.W.isFn K (.ref f)=true
 kp:PySem.W.keepIn K (.ref C)=true
theorem Q8{vs:List V}(M:Mk X.K C f)(F:a_ X.prog X.w X.K X.mg X.base CX k f fd ps sp)(hr:dI (k+1) X.A)(hb:Binds X.K fd ps ds)(hd:Vals fG ds)
  (hx:Passes CX X E) (I:Inv X pins σ H s) (r:Vals vs us)
  (h:∀x dx,H x=none→H dx=none→dx≠x→sp (.ref x::(vs++fG)) (upd (upd H dx (.own x)) x (.ins C dx [])) (fun v H2=>v=.bh∧Q (.ref x) H2) E) :
  wpAny (model X.prog X.w) X.A (call (.ref C) us) (EP X pins σ Q) X.xe s:=by
 have hq:=h (s.heap.objs.size+1) s.heap.objs.size (I.aC.fresh (Nat.le_succ _)) (I.aC.fresh (aE _)) (dR (zR _));have I2:=Inv.made (C:=C) I;have r2:Vals (V.ref (s.heap.objs.size+1)::(vs++fG)) (Value.ref (s.heap.objs.size+1)::(us++ds)):=.cons rfl (r.append hd);have hl:(Value.ref (s.heap.objs.size+1)::us++ds).length=ps.length:=by have e:=r2.length;rw [F.len _ _ _ _ hq] at e;exact e.symm
 refine wpAny_call (QT (f:=f) I.d_ M.makes M.init (lT.mp M.fn) (codeAny_mono (F.run _ X.stack _ _ ⟨Value.ref (s.heap.objs.size+1)::us,[]⟩ (Value.ref (s.heap.objs.size+1)::(us++ds)) _ _ E (hr.make C us [])
  (I2.IZ.make C us []) (hb _ (Value.ref (s.heap.objs.size+1)::us) I2.d_ hl) r2 hq) fun r s' jI=>?_))
 cases r with
 | error e=>exact hx pins σ _ _ e s' I2 jI
 | ok fl=>
  cases fl with
  | ret u=>obtain ⟨v,H',I3,rv,ev,q3⟩:=I2.after jI;subst ev;exact ⟨rv,⟨V.ref (s.heap.objs.size+1),H',I3,rfl,q3⟩⟩
  | next=>exact False.elim jI
  | brk=>exact False.elim jI
  | cont=>exact False.elim jI
theorem Q9(M:Mk X.K C f)(F:a_ X.prog X.w X.K X.mg X.base CX k f fd ps sp)(hr:dI (k+1) X.A)(hg:Gl X x)(hm:X.mg x=some (.ref C))(hb:Binds X.K fd ps ds)(hd:Vals fG ds)(hx:Passes CX X E)
  (ha:PA X (e::es) t) (nk:(x == ("__debug__":Str))=false:=by decide) (he:starEach (e::es) X.env=(false,eval e X.env)::starEach es X.env:=by rfl) (ku:(backTo pos (starEach es X.env)).any (·.1)=false:=by rfl) :
  PE X (.Call (.Name x p) (e::es) [] pos) (Q7 C sp fG E t):=by
 intro pins s σ H Q I h;refine zT (Af I hg hm ?_ nk);refine PySem.W.callWith_K (h₀:=X.base) I.ok.mod.dA M.kp (aS (ha pos pins s σ H _ I h) fun us s1 ⟨vs,H1,I1,r,q⟩=>⟨I1.d_,?_⟩) he ku;exact Q8 M F hr hb hd hx I1 r q
end
section
variable {X:Cx} {CX:iR} {k:Nat} {f C:Addr} {fd:FuncData} {ps ks:List Str} {sp:Sp} {E:XK} {x m:Str} {p pos apos Jb:Pos} {e o:Expr} {es:List Expr} {Q_:List Keyword} {te ta:TE} {t tk:TA} {nm:Option Str}
variable {g:List Value→List Value→List Value} {gV:List V→List V→List V}
end
structure bG (N P:List Str) (sc:Scope):Prop where
 kind:sc.kind=.function
 co:sc.isCoroutine=false
 gen:sc.isGenerator=false
 nd:N.Nodup
 pre:N.take P.length=P
 par:∀x∈P,sc.names.lookup x=some .local∨sc.names.lookup x=some .cell
 Ra:∀y∈sc.names,y.2≠.free
variable {N:List Str} {sc:Scope}
theorem bQ{P:List Str}(h1:sc.kind=.function:=by rfl)(h2:sc.isCoroutine=false:=by rfl)(h3:sc.isGenerator=false:=by rfl)(h4:N.Nodup:=by decide +kernel)(h5:N.take P.length=P:=by rfl)(h6:∀x∈P,sc.names.lookup x=some .local∨sc.names.lookup x=some .cell:=by decide +kernel)(h7:∀y∈sc.names,y.2≠.free:=by decide +kernel):bG N P sc:=⟨h1,h2,h3,h4,h5,h6,h7⟩
theorem Jc{kindOf:Str→Option NameKind}{x:Str}:∀{binds:List (Str×Value)} {m:dG},(∀v,(x,v)∉binds)→bindL kindOf binds m x=m x
 | [],_,_=>rfl
 | (n,v)::r,m,h=>by
  unfold bindL;rw [Jc fun w hw=>h w (fY _ hw)]
  split
  ·have:x≠n:=by rintro rfl;exact h v jy
   simp [this]
  ·rfl
theorem Jd{kindOf:Str→Option NameKind}{x:Str}:∀{binds:List (Str×Value)} {m:dG},(∀v,(x,v)∉binds)→bindC kindOf binds m x=m x
 | [],_,_=>rfl
 | (n,v)::r,m,h=>by
  unfold bindC;rw [Jd fun w hw=>h w (fY _ hw)]
  split
  ·rfl
  ·have:x≠n:=by rintro rfl;exact h v jy
   simp [this]
theorem Je{kindOf:Str→Option NameKind}{x:Str}{v:Value}:∀{P:List Str} {vs:List Value} {i:Nat} {m:dG},P.Nodup→P[i]?=some x→vs[i]?=some v→kindOf x=some .local→
  bindL kindOf (P.zip vs) m x=some v
 | [],_,_,_,_,h,_,_=>by simp at h
 | _::_,[],_,_,_,_,h,_=>by simp at h
 | p::P,w::vs,0,m,nd,h1,h2,hk=>by simp at h1 h2;subst h1;subst h2;show bindL kindOf ((p,w)::P.zip vs) m p=_;unfold bindL;rw [Jc fun v hv=>(j4.mp nd).1 (kX hv).1,ai hk];simp
 | p::P,w::vs,i+1,m,nd,h1,h2,hk=>by show bindL kindOf ((p,w)::P.zip vs) m x=_;unfold bindL;exact Je (i:=i) (j4.mp nd).2 (by simpa using h1) (by simpa using h2) hk
theorem Jf{kindOf:Str→Option NameKind}{x:Str}{v:Value}:∀{P:List Str} {vs:List Value} {i:Nat} {m:dG},P.Nodup→P[i]?=some x→vs[i]?=some v→kindOf x≠some .local→
  bindC kindOf (P.zip vs) m x=some v
 | [],_,_,_,_,h,_,_=>by simp at h
 | _::_,[],_,_,_,_,h,_=>by simp at h
 | p::P,w::vs,0,m,nd,h1,h2,hk=>by simp at h1 h2;subst h1;subst h2;show bindC kindOf ((p,w)::P.zip vs) m p=_;unfold bindC;rw [Jd fun v hv=>(j4.mp nd).1 (kX hv).1,ao hk];simp
 | p::P,w::vs,i+1,m,nd,h1,h2,hk=>by show bindC kindOf ((p,w)::P.zip vs) m x=_;unfold bindC;exact Jf (i:=i) (j4.mp nd).2 (by simpa using h1) (by simpa using h2) hk
def start(N:List Str)(vs:List V):St:=vs.map some++List.replicate (N.length-vs.length) none
def jJ(CX:iR)(P:Program)(w:World)(K:aB)(mg:dG)(base:Heap)(N:List Str)(qual:Str)(scope:Scope)(f:Addr)(cd:Value)(A:Around)(outer:List Env)(s:Shared)(H:Hp)(E:XK):Cx where
 prog:=P
 w:=w
 K:=K
 mg:=mg
 base:=base
 A:=A.deeper (envOfC qual scope s.heap.objs.size f cd)
 N:=N
 s₀:=s
 H₀:=H
 env:=envOfC qual scope s.heap.objs.size f cd
 outer:=outer
 stack:=envOfC qual scope s.heap.objs.size f cd::outer
 ex:=[]
 calm:=true
 fn:=fun _=>true
 pn:=[]
 xe:=fun e s'=>wpAny (model P w) (A.deeper (envOfC qual scope s.heap.objs.size f cd)) (leaving (envOfC qual scope s.heap.objs.size f cd) e) (fun _ md=>CX outer H s E e md) (fun e' md=>CX outer H s E e' md) s'
theorem Jg{x:Str}(h:sc.names.lookup x=some .cell):∃c,(cellsFrom n sc.names []).lookup x=some c:=by have q:=PySem.W.cellsFrom_some sc.names n [] (.inl h);exact Option.isSome_iff_exists.mp q
variable {CX:iR} {qual:Str} {scope:Scope} {f:Addr}
theorem Rb{cd:Value}{s1:Shared}{E:XK}{vs:List V}
  (S:bG N ps scope) (hd:A.handled=none) (e0:qm P w K mg base A outer s H) (hl:vs.length=ps.length) (r:Vals vs us)
  (x:InCallC s s.heap.objs.size (bindL (envOfC qual scope s.heap.objs.size f cd).kindOf (ps.zip us) fun _=>none) (cellsFrom (s.heap.objs.size+1) scope.names []) (bindC (envOfC qual scope s.heap.objs.size f cd).kindOf (ps.zip us) fun _=>none) s1) :
  Inv (jJ CX P w K mg base N qual scope f cd A outer s H E) [] (start N vs) H s1:=by
 have ku:ps.length≤N.length:=by have:=eY List.length S.pre;rw [kY] at this;lia
 obtain ⟨h1,tk,rfl,hk⟩:=x.done;have x8:∀b:Addr,b∉(jJ CX P w K mg base N qual scope f cd A outer s H E).ex:=fun b z=>absurd (show b∈([]:List Addr) from z) (by simp)
 refine ⟨⟨e0.mod,S.kind,rfl,rfl,aE _,fun y z c h1 h2=>?_,fun y hy=>?_,fun y c _ h=>?_,fun _=>hd,Around.frames_deeper e0.frames,.inr ⟨rfl,rfl⟩,fun b z=>absurd z (x8 b),e0.bs,e0.jF,fun b _ _=>x8 b,fun b z=>absurd z (x8 b),e0.kj,e0.m_⟩,
  rfl,e0.bare,Un.kept hk,⟨_,x.toInCall.ns,fun i y v h1 h2 h3=>?_⟩,fun y c h=>⟨_,x.cell y c h⟩,e0.aC.fresh (aE _),fun y c h=>?_,fun p hp=>absurd (show p∈([]:bg) from hp) (by simp),e0.aC.kept hk,?_⟩
 ·exact name_of_addr x.apart (mQ h1) (mQ h2)
 ·have hy:scope.names.lookup y=some .cell∨scope.names.lookup y=some .free:=hy
  rcases hy with hy | hy;·exact Jg hy
  ·exact absurd rfl (S.Ra _ (mQ hy))
 ·exact Nat.le_of_lt (x.above y c (mQ h))
 ·have hi:i<vs.length:=by
   unfold start at h2;by_cases hi:i<vs.length;·exact hi
   ·rw [gS (by simpa using hi)] at h2
    rw [De] at h2
    split at h2 <;> cases h2
  have ha:vs[i]?=some v:=by
   unfold start at h2;rw [ic (by simpa using hi),cB] at h2
   cases e:vs[i]? with
   | none=>rw [e] at h2;cases h2
   | some a=>rw [e] at h2;cases h2;rfl
  obtain ⟨u,hu,rv⟩:=r.get ha;have hp:ps[i]?=some y:=by rw [←S.pre,List.getElem?_take_of_lt (by lia)];exact h1
  have Jh:ps.Nodup:=by rw [←S.pre];exact S.nd.sublist (xt _ _)
  refine ⟨u,rv,?_⟩;rcases S.par y (gT hp) with k | k;·exact .inl ⟨k,Je Jh hp hu k⟩
  ·obtain ⟨c,e⟩:=Jg (n:=s.heap.objs.size+1) k
   refine .inr ⟨.inl k,c,e,?_⟩;have q:=x.cell y c e;rw [Jf Jh hp hu (by show scope.names.lookup y≠_;rw [k];decide)] at q
   exact q
 ·exact e0.aC.fresh (Nat.le_of_lt (x.above y c (mQ h)))
 ·unfold start
  show _=N.length;rw [eL,aG,xu];lia
theorem DJ{name:Str}{params:Arguments}{body:List Stmt}{dV kV doc pm bq ct oc:Value}{an od:Option Addr}
  {gj:Array (Option Value)} {sp:Sp} (lk:K.lookup f=some ⟨oc,od,.func (PySem.W.fnOf name qual params body scope dV kV doc pm an bq ct),gj⟩) (gg:PySem.W.codeIn K bq qual=true) (S:bG N ps scope)
  (len:∀vs H Q E,sp vs H Q E→vs.length=ps.length)
  (lC:∀(A:Around) (outer:List Env) (s:Shared) (H:Hp) (vs:List V) (Q:VK) (E:XK),dI k (A.deeper (envOfC qual scope s.heap.objs.size f bq))→sp vs H Q E→
   ∃t,fb (jJ CX P w K mg base N qual scope f bq A outer s H E) body t∧t {nx:=fun _ H'=>Q .bh H',rt:=Q} (start N vs) H) :
  a_ P w K mg base CX (k+1) f (PySem.W.fnOf name qual params body scope dV kV doc pm an bq ct) ps sp:=by
 refine ⟨len,fun A outer s H args us vs Q E hr e0 hb r ky=>?_⟩;have hl:=len _ _ _ _ ky;have KX:K.In s.heap:=e0.mod.dA.keeps fun b o e=>(e0.bs b o e).1;have lim:s.heap.NoLimit:=e0.mod.nolimit.keeps fun b o e=>(e0.bs b o e).1;have Rc:∀y∈ps.zip us,scope.names.lookup y.1=some .local∨(scope.names.lookup y.1=some .cell∧((cellsFrom (s.heap.objs.size+1) scope.names []).lookup y.1).isSome=true):=fun⟨n,v⟩ hy=>by
  rcases S.par n (kX hy).1 with q | q;·exact .inl q
  ·exact .inr ⟨q,PySem.W.cellsFrom_some _ _ _ (.inl q)⟩
 refine codeAny_call_function hr.depth (KX _ _ lk) rfl S.co S.gen rfl (PySem.W.codeRec_of KX gg) (hb _ _ _ _ ?_);refine wpAny_newFunctionEnv_cells S.kind Rc fun env he s1 x=>?_;subst he;refine ⟨lim.keeps x.toInCall.keep,codeAny_func ?_⟩;obtain ⟨t,ht,hq⟩:=lC A outer s H vs Q E (hr.deeper _) ky;have I:Inv (jJ CX P w K mg base N qual scope f bq A outer s H E) [] (start N vs) H s1:=Rb S hr.hd e0 hl r x;refine dw (ht [] s1 (start N vs) H _ I hq) (fun fl s' hs=>?_) fun e s' hs=>hs;have fin:∀{σ':St} {H':Hp} {v:V} {u:Value},Inv (jJ CX P w K mg base N qual scope f bq A outer s H E) [] σ' H' s'→RelV v u→Q v H'→CE outer P w H s Q u s':=
  fun{σ' H' v u} J rv q=>⟨v,H',J.os,J.bare,J.base,J.aC,rv,q⟩
 cases fl with
 | ret u=>obtain ⟨v,σ',H',J,rv,q⟩:=hs;exact fin J rv q
 | next=>obtain ⟨σ',H',J,q⟩:=hs;exact fin (v:=V.bh) (u:=Value.none) J rfl q
 | brk=>obtain ⟨_,_,_,q⟩:=hs;exact False.elim q
 | cont=>obtain ⟨_,_,_,q⟩:=hs;exact False.elim q
section
variable {X:Cx} {x:Str} {p pos:Pos} {e:Expr} {es:List Expr} {t:TA} {id T:String} {r:List V→Hp→VK→Prop}
def Ap(r:List V→Hp→VK→Prop)(t:TA):TE:=fun σ H Q=>t σ H fun vs H1=>r vs H1 Q
theorem bP(hc:ig X (.builtin id) r)(hg:Gl X x)(hm:X.mg x=none)(hv:bootBuiltins x=some (.builtin id))(ha:PA X (e::es) t)(hn:x ≠ "__name__":=by decide)(nk:(x == ("__debug__":Str))=false:=by decide)
  (he:starEach (e::es) X.env=(false,eval e X.env)::starEach es X.env:=by rfl) (ku:(backTo pos (starEach es X.env)).any (·.1)=false:=by rfl):PE X (.Call (.Name x p) (e::es) [] pos) (Ap r t):=by
 intro pins s σ H Q I h;refine zT (oG I hg hm hv ?_ hn nk);exact PyProof.Rows.callWith_builtin1 (aS (ha pos pins s σ H _ I h) fun us s1 ⟨vs,H1,I1,r1,q1⟩=>hc pins s1 σ H1 vs us Q I1 r1 q1) he ku
theorem jK(hc:ig X (.type T) r)(hg:Gl X x)(hm:X.mg x=none)(hv:bootBuiltins x=some (.type T))(ha:PA X (e::es) t)(hn:x ≠ "__name__":=by decide)(nk:(x == ("__debug__":Str))=false:=by decide)
  (he:starEach (e::es) X.env=(false,eval e X.env)::starEach es X.env:=by rfl) (ku:(backTo pos (starEach es X.env)).any (·.1)=false:=by rfl):PE X (.Call (.Name x p) (e::es) [] pos) (Ap r t):=by
 intro pins s σ H Q I h;refine zT (oG I hg hm hv ?_ hn nk);exact tN (aS (ha pos pins s σ H _ I h) fun us s1 ⟨vs,H1,I1,r1,q1⟩=>hc pins s1 σ H1 vs us Q I1 r1 q1) he ku
end
end L2
namespace HT
open PySem PyProof.Rows
section
open PySem.SeqAt
open PySem.AutoSeq1 (wpAny_loadPart')
open PySem.MeetsSeq PySem.MeetsSeq2 PySem.MeetsSeq3
end
section
variable {prog:Program} {w:World} {A:Around} {E:aV} {s:Shared}
def bJ(n d:Nat):Option Int→Nat
 | none=>d
 | some v=>if v<0 then (v+(n:Int)).toNat else min v.toNat n
theorem Rf(n d:Nat):bJ n d none=d:=rfl
theorem Rg(n d k:Nat):bJ n d (some (k:Int))=min k n:=by
 show (if (k:Int)<0 then ((k:Int)+(n:Int)).toNat else min (k:Int).toNat n)=min k n
 rw [ao (by lia),e9]
theorem Rh(n d:Nat)(hd:d≤n)(o:Option Int):bJ n d o≤n:=by
 cases o with
 | none=>exact hd
 | some v=>
  show (if v<0 then (v+(n:Int)).toNat else min v.toNat n)≤n
  by_cases hv:v<0;·rw [ai hv];lia
  ·rw [ao hv];exact Nat.min_le_right _ _
theorem Ji(v:Int)(n d:Nat):(if v<0 then max (v+(n:Int)) 0 else min v (n:Int))=((bJ n d (some v):Nat):Int):=by
 show (if v<0 then max (v+(n:Int)) 0 else min v (n:Int))=(((if v<0 then (v+(n:Int)).toNat else min v.toNat n):Nat):Int)
 by_cases hv:v<0;·simp only [ai hv];lia
 ·simp only [ao hv];lia
theorem Ri(lo hi:Option Int)(n:Nat):Builtin.Slice.sliceAdjust lo hi 1 (n:Int)=(((bJ n 0 lo:Nat):Int),((bJ n n hi:Nat):Int)):=by
 have h1:¬((1:Int)<0):=by lia
 unfold Builtin.Slice.sliceAdjust;simp only [h1,if_false];refine Prod.ext ?_ ?_
 ·cases lo with
  | none=>rfl
  | some v=>exact Ji v n 0
 ·cases hi with
  | none=>rfl
  | some v=>exact Ji v n n
theorem Rj(i j:Nat):Builtin.Slice.slicePlaces (i:Int) (j:Int) 1=j-i:=by
 unfold Builtin.Slice.slicePlaces;have h1:(1:Int)>0:=by lia
 simp only [h1,if_true,Int.ediv_one]
 split <;> lia
theorem Jj{v:Value}{o:Option Int}{Q:Option Int→Shared→Prop}(p:IsPart v o)(h:Q o s):wpAny (model prog w) A (Builtin.Slice.slicePartIndex v) Q E s:=by
 cases p with
 | none=>exact slicePart_none h
 | int i t=>exact slicePart_int h
variable {sl:Addr} {vl vu:Value} {lo hi:Option Int}
theorem Jk{n:Nat}{Q:Int×Int×Nat→Shared→Prop}(hs:s.heap.IsSliceOf sl vl vu .none)(pl:IsPart vl lo)(pu:IsPart vu hi)
  (h:Q (((bJ n 0 lo:Nat):Int),1,bJ n n hi-bJ n 0 lo) s):wpAny (model prog w) A (Builtin.Slice.sliceApplied (.ref sl) (pure (n:Int))) Q E s:=by
 obtain ⟨os,x9,Jl,Aq⟩:=id hs;unfold Builtin.Slice.sliceApplied Builtin.Slice.sliceFields;refine bI (bI (wpAny_field x9 Aq (x:=vl) rfl (bI (wpAny_field x9 Aq (x:=vu) rfl (bI (wpAny_field x9 Aq (x:=.none) rfl (cM ?_)))))));refine bI (slicePart_none ?_);show wpAny _ _ (if ((1:Int) == 0)=true then _ else _) _ _ s
 rw [ao (by decide)]
 refine bI (Jj pl (bI (Jj pu (bI (cM ?_)))));show wpAny _ _ (match Builtin.Slice.sliceAdjust lo hi 1 (n:Int) with | (lo,hi)=>pure (lo,(1:Int),Builtin.Slice.slicePlaces lo hi 1)) _ _ s
 rw [Ri lo hi n];show wpAny _ _ (pure (((bJ n 0 lo:Nat):Int),(1:Int),Builtin.Slice.slicePlaces ((bJ n 0 lo:Nat):Int) ((bJ n n hi:Nat):Int) 1)) _ _ s;rw [Rj];exact cM h
theorem Rk(xs:Array Value)(i k:Nat):((List.range k).filterMap fun(m:Nat)=>xs[((i:Int)+(m:Int)*1).toNat]?).toArray=((xs.toList.drop i).take k).toArray:=by
 have e:(fun(m:Nat)=>xs[((i:Int)+(m:Int)*1).toNat]?)=fun m=>xs[i+m]?:=by
  funext m
  have:((i:Int)+(m:Int)*1).toNat=i+m:=by lia
  rw [this]
 rw [e];have:=pick_run xs i k;rw [List.filterMap_map] at this;have e2:((fun x=>xs[x]?) ∘ fun x=>i+x)=fun m=>xs[i+m]?:=rfl;rw [e2] at this;rw [this]
theorem Rl{t:Addr}{items:Array Value}{Q:aV}(ht:IsTup s.heap t items)(hs:s.heap.IsSliceOf sl vl vu .none)(pl:IsPart vl lo)(pu:IsPart vu hi)
  (hw:¬(bJ items.size 0 lo=0∧bJ items.size items.size hi=items.size))
  (h:Q (.ref s.heap.objs.size) {s with heap:=s.heap.push {cls:=.type "tuple",data:=.seq ((items.toList.drop (bJ items.size 0 lo)).take (bJ items.size items.size hi-bJ items.size 0 lo)).toArray}})
  (hsz:items.size≤sizeLine):wpAny (model prog w) A (getItem (.ref t) (.ref sl)) Q E s:=by
 have Ar:sizeOk (.seq ((items.toList.drop (bJ items.size 0 lo)).take (bJ items.size items.size hi-bJ items.size 0 lo)).toArray):=by show ((items.toList.drop (bJ items.size 0 lo)).take (bJ items.size items.size hi-bJ items.size 0 lo)).toArray.size≤sizeLine;rw [df,kY,List.length_drop,zM];lia
 have hj:bJ items.size items.size hi≤items.size:=Rh _ _ (aE _) hi;obtain ⟨os,x9,Jl,Aq⟩:=id hs;have Rm:s.TypeIs (.ref sl) "slice":=⟨os,x9,Jl⟩;unfold getItem
 try with_reducible refine xp ?_
 first | refine bI (cM ?_) | skip
 refine bI (wpAny_sequenceKey ht.typeIs (by decide) ?_)
 refine bI (wpAny_callSpecial?_slot (name:=Str.ofString "__getitem__") ht.typeIs tP
  (wpAny_call_entry tP ht.typeIs entry_tuple_getitem ?_ (args_tuple_getitem _ _)))
 show wpAny _ _ (Builtin.Tuple.tupleItemsOf (.ref t) >>= _) _ _ s;refine bI (tupleItemsOf_ ht ?_);refine bI (wpAny_typeOf Rm ?_);rw [ai (by decide)]
 refine bI (Jk hs pl pu ?_);have Rn:¬((((bJ items.size 0 lo:Nat):Int) == 0 && (1:Int) == 1 && (bJ items.size items.size hi-bJ items.size 0 lo) == items.size)=true):=by intro q;rw [xv,xv] at q;have q1:((bJ items.size 0 lo:Nat):Int)=0:=eq_of_beq q.1.1;have q2:bJ items.size items.size hi-bJ items.size 0 lo=items.size:=eq_of_beq q.2;exact hw ⟨by lia,by lia⟩
 show wpAny _ _ (if (((bJ items.size 0 lo:Nat):Int) == 0 && (1:Int) == 1 && (bJ items.size items.size hi-bJ items.size 0 lo) == items.size)=true then _ else _) _ _ s
 rw [ao Rn,Rk]
 first
  | exact bI (m:=Builtin.Tuple.tupleExact _) (oq (cM ⟨_,rfl,cM h⟩) Ar)
  | exact bI (m:=Builtin.Tuple.tupleExact _) (oq (bI (cM (cM ⟨_,rfl,cM h⟩))) Ar)
  | exact bI (bI (m:=Builtin.Tuple.tupleExact _) (oq (cM (cM ⟨_,rfl,cM h⟩)) Ar))
  | exact bI (bI (m:=Builtin.Tuple.tupleExact _) (oq (cM ⟨_,rfl,cM h⟩) Ar))
end
end HT
namespace L2
open PySem PySem.Spec PyProof.Rows
abbrev TO:=St→Hp→(Option Int→Hp→Prop)→Prop
def PO(X:Cx)(e:Option Expr)(t:TO):Prop:=
 ∀(pins:bg) (s:Shared) (σ:St) (H:Hp) (Q:Option Int→Hp→Prop),Inv X pins σ H s→t σ H Q→
  wpAny (model X.prog X.w) X.A (evalPart e X.env) (fun u s'=>∃o H',Inv X pins σ H' s'∧IsPart u o∧Q o H') X.xe s
def Ro:TO:=fun _ H Q=>Q none H
def Rp(t:TE):TO:=fun σ H Q=>t σ H fun x H1=>∃i,x=.int i∧Q (some i) H1
theorem intsAre_of{ns:List Int}:∀{us:List Value},Vals (ns.map V.int) us→IntsAre us ns:=by
 induction ns with
 | nil=>intro us r;rw [List.map_nil] at r;cases r;exact .nil
 | cons n ns ih=>
  intro us r;rw [cX] at r;cases r with
  | cons r1 r2=>obtain ⟨t,e⟩:=r1;subst e;exact .cons n t (ih r2)
section
variable {X:Cx} {e:Expr} {te:TE} {lo hi:Option Expr} {tl th:TO} {pos p2:Pos}
theorem Jm:PO X none Ro:=by intro pins s σ H Q I h;rw [evalPart_none];exact cM ⟨none,H,I,.none,h⟩
theorem Jn(h:PE X e te):PO X (some e) (Rp te):=by intro pins s σ H Q I hw;rw [evalPart_some];refine aS (h pins s σ H _ I hw) fun u s1 ⟨x,H1,I1,r1,q1⟩=>?_;obtain ⟨i,rfl,q⟩:=q1;obtain ⟨t,rfl⟩:=r1;exact ⟨some i,H1,I1,.int i t,q⟩
def As(X:Cx)(r:V→Option Int→Option Int→Hp→VK→Prop):Prop:=
 ∀(pins:bg) (s:Shared) (σ:St) (H:Hp) (x:V) (v vl vu:Value) (lo hi:Option Int) (sl:Addr) (Q:VK),Inv X pins σ H s→RelV x v→s.heap.IsSliceOf sl vl vu .none→IsPart vl lo→IsPart vu hi→r x lo hi H Q→
  ∃T id,typeLookup (.type T) "__getitem__"=pure (some (.builtin id))∧s.TypeIs v T∧wpAny (model X.prog X.w) X.A (getItem v (.ref sl)) (EP X pins σ Q) X.xe s
def Rq(r:V→Option Int→Option Int→Hp→VK→Prop)(te:TE)(tl th:TO):TE:=fun σ H Q=>te σ H fun x H1=>tl σ H1 fun l H2=>th σ H2 fun u H3=>r x l u H3 Q
theorem Jo{r:V→Option Int→Option Int→Hp→VK→Prop}(hr:As X r)(he:PE X e te)(hl:PO X lo tl)(hu:PO X hi th):PE X (.Subscript e (.Slice lo hi none p2) pos) (Rq r te tl th):=by intro pins s σ H Q I h;refine Subscript_ (aS (he pins s σ H _ I h) fun v s1 ⟨x,H1,I1,r1,q1⟩=>?_);refine wpAny_Slice (aS (hl pins s1 σ H1 _ I1 q1) fun vl s2 ⟨l,H2,I2,pl,q2⟩=>aS (hu pins s2 σ H2 _ I2 q2) fun vu s3 ⟨u,H3,I3,pu,q3⟩=>?_);rw [evalPart_none];refine cM ?_;have I4:Inv X pins σ H3 {s3 with heap:=s3.heap.push {cls:=.type "slice",data:=.fields #[vl,vu,.none]}}:=I3.kept (t':=s3.toks) fun b ob q=>dy _ q;obtain ⟨T,id,hT,ht,hg⟩:=hr pins {s3 with heap:=s3.heap.push {cls:=.type "slice",data:=.fields #[vl,vu,.none]}} σ H3 x v vl vu l u s3.heap.objs.size Q I4 r1 (Heap.IsSliceOf.new ..) pl pu q3;show wpAny (model X.prog X.w) X.A (subscriptTail e (.Slice lo hi none p2) v (.ref s3.heap.objs.size)) (EP X pins σ Q) X.xe {s3 with heap:=s3.heap.push {cls:=.type "slice",data:=.fields #[vl,vu,.none]}};exact tail_any (ops:=[.ref s3.heap.objs.size,v]) ht hT hg (by with_unfolding_all rfl)
def jL(xs:List V)(lo hi:Option Int):List V:=(xs.drop (HT.bJ xs.length 0 lo)).take (HT.bJ xs.length xs.length hi-HT.bJ xs.length 0 lo)
theorem Jp(xs:List V)(lo hi:Option Int):(jL xs lo hi).length≤xs.length:=by unfold jL;rw [kY,List.length_drop];lia
def Rr(K:aB):V→Option Int→Option Int→Hp→VK→Prop:=fun x lo hi H Q=>∃a xs,x=.ref a∧dH K H a xs ∧
 ¬(HT.bJ xs.length 0 lo=0∧HT.bJ xs.length xs.length hi=xs.length)∧∀p,H p=none→Q (.ref p) (upd H p (.tup (jL xs lo hi)))
theorem Rt:As X (Rr X.K):=by
 intro pins s σ H x v vl vu lo hi sl Q I rx hs pl pu h;obtain ⟨a,xs,rfl,hx,hw,q⟩:=h;cases rx;obtain ⟨ak,r,ht,hz⟩:=I.tuple hx;have hlen:ak.toArray.size=xs.length:=by rw [df];exact r.length.symm
 refine ⟨"tuple",_,tP.lookup,ht.typeIs,?_⟩;refine HT.Rl ht hs pl pu (by rw [hlen];exact hw) ?_ (by rw [hlen];exact hz)
 rw [hlen];refine ⟨.ref s.heap.objs.size,_,I.laid (t':=s.toks) (o:=.tup (jL xs lo hi)) (fun b ob q=>dy _ q) (aE _) ?_,rfl,q _ (I.aC.fresh (aE _))⟩;exact ⟨aj (Jp xs lo hi) hz,_,(r.drop (HT.bJ xs.length 0 lo)).take (HT.bJ xs.length xs.length hi-HT.bJ xs.length 0 lo),IsTup.new _ _⟩
end
def g8(n:Nat)(i:Int):Option Nat:=if 0≤i then (if i<n then some i.toNat else none) else if -(n:Int)≤i then some (i+n).toNat else none
def d5{α:Type}(xs:List α)(i:Int):Option α:=(g8 xs.length i).bind fun j=>xs[j]?
variable {i:Int} {j:Nat}
theorem Jq{n:Nat}(h:g8 n i=some j):seqIndex? i n=some j∧j<n∧-(n:Int)≤i∧i<n:=by
 unfold g8 at h;by_cases h0:0≤i
 ·rw [ai h0] at h
  by_cases h1:i<n
  ·rw [ai h1] at h
   have e:i.toNat=j:=Option.some.inj h;exact ⟨by rw [seqIndex_of h0 h1,e],by lia,by lia,h1⟩
  ·rw [ao h1] at h;cases h
 ·rw [ao h0] at h
  by_cases h1:-(n:Int)≤i
  ·rw [ai h1] at h
   have e:(i+n).toNat=j:=Option.some.inj h;exact ⟨by rw [seqIndex_neg (by lia) h1,e],by lia,h1,by lia⟩
  ·rw [ao h1] at h;cases h
theorem Jr{α:Type}{xs:List α}{v:α}(h:d5 xs i=some v):∃j,seqIndex? i xs.length=some j∧xs[j]?=some v∧j<xs.length∧-(xs.length:Int)≤i∧i<xs.length:=by
 unfold d5 at h;cases e:g8 xs.length i with
 | none=>rw [e] at h;cases h
 | some j=>rw [e] at h;obtain ⟨h1,h2,h3,h4⟩:=Jq e;exact ⟨j,h1,h,h2,h3,h4⟩
theorem iS{α:Type}{xs:List α}{v:α}(h:xs[j]?=some v):d5 xs (j:Int)=some v:=by
 have hj:j<xs.length:=(b6.mp h).1;have e:g8 xs.length (j:Int)=some j:=by unfold g8;rw [ai (by lia),ai (by lia)];simp
 unfold d5;rw [e];exact h
variable {α:Type}
theorem Js(xs:List α)(v:α):d5 (xs++[v]) (-1)=some v:=by
 have hl:(xs++[v]).length=xs.length+1:=by simp
 have e:g8 (xs++[v]).length (-1)=some xs.length:=by
  unfold g8;rw [hl,ao (by decide),ai (by lia)]
  congr 1
  lia
 unfold d5;rw [e];show (xs++[v])[xs.length]?=some v;simp
def Jt(b:Expr):Prop:=∀o i,subscripted b false o i=operate [o,i] (getItem o i)
def t8(X:Cx)(r:R2):Prop:=
 ∀(value slice:Expr) (pins:bg) (s:Shared) (σ:St) (H:Hp) (x y:V) (v u:Value) (Q:VK),Inv X pins σ H s→RelV x v→RelV y u→r x y H Q→
  subscripted slice false v u=operate [v,u] (getItem v u)→wpAny (model X.prog X.w) X.A (subscriptTail value slice v u) (EP X pins σ Q) X.xe s
def DK(X:Cx)(id:String)(r:V→List V→Hp→VK→Prop):Prop:=
 ∀(pins:bg) (s:Shared) (σ:St) (H:Hp) (x:V) (xs:List V) (v:Value) (us:List Value) (Q:VK),Inv X pins σ H s→RelV x v→Vals xs us→r x xs H Q→
  wpAny (model X.prog X.w) X.A (call (.builtin id) (v::us)) (EP X pins σ Q) X.xe s
section
variable {X:Cx} {a b:Expr} {ta tb:TE} {pos:Pos}
theorem DL{r:R2}(hr:t8 X r)(ha:PE X a ta)(hb:PE X b tb)(hs:Jt b):PE X (.Subscript a b pos) (qf r ta tb):=by intro pins s σ H Q I h;exact Subscript_ (DC ha hb I h fun v u s2 x y H2 I2 rx ry q=>hr a b pins s2 σ H2 x y v u Q I2 rx ry q (hs _ _))
theorem aw{r:R2}(hr:t8 X r)(ha:PE X a ta)(hb:PE X b tb)(hs:Jt b:=by exact fun _ _=>rfl):PE X (.Subscript a b pos) (qf r ta tb):=DL hr ha hb hs
def Ju(K:aB):R2:=fun x y H Q=>∃p xs i v,x=.ref p∧y=.int i∧aZ K H p xs∧d5 xs i=some v∧Q v H
def Jv(K:aB):R2:=fun x y H Q=>∃p xs i v,x=.ref p∧y=.int i∧dH K H p xs∧d5 xs i=some v∧Q v H
theorem bW:t8 X (Ju X.K):=by
 intro value slice pins s σ H x y v u Q I rx ry h hs;obtain ⟨p,xs,i,z,rfl,rfl,hq,he,q⟩:=h;cases rx;obtain ⟨t,rfl⟩:=ry;obtain ⟨ak,r,pl,hz⟩:=I.list hq;obtain ⟨j,h1,h2,h3,h4,h5⟩:=Jr he;obtain ⟨w,ew,xX⟩:=r.get h2;have hl:=r.length;have hn:=x5;have fin:EP X pins σ Q w s:=⟨z,H,I,xX,q⟩;by_cases h0:0≤i
 ·have hj:i.toNat=j:=by rw [seqIndex_of h0 h5] at h1;exact Option.some.inj h1
  exact item_listR pl.isList h0 (by lia) (by rw [hj];simpa using ew) fin hs
 ·have hj:(i+(ak.toArray.size:Int)).toNat=j:=by
   rw [seqIndex_neg (by lia) h4] at h1
   rw [df,←hl];exact Option.some.inj h1
  exact subscriptTail_builtinR (x:=w) pl.isList.typeIs slot_list_getitem.lookup
   (wpAny_getItem_list_neg (Q:=fun r s'=>r=w∧EP X pins σ Q r s') pl.isList (by lia) (by rw [df] <;> lia) (by lia) (by rw [hj];simpa using ew) ⟨rfl,fin⟩) hs
theorem a7:t8 X (Jv X.K):=by
 intro value slice pins s σ H x y v u Q I rx ry h hs;obtain ⟨p,xs,i,z,rfl,rfl,hq,he,q⟩:=h;cases rx;obtain ⟨t,rfl⟩:=ry;obtain ⟨ak,r,pl,hz⟩:=I.tuple hq;obtain ⟨j,h1,h2,h3,h4,h5⟩:=Jr he;obtain ⟨w,ew,xX⟩:=r.get h2;have hl:=r.length;have hn:=x5;have fin:EP X pins σ Q w s:=⟨z,H,I,xX,q⟩
 exact subscriptTail_builtinR (x:=w) pl.typeIs slot_tuple_getitem.lookup
  (getItem_tuple (j:=j) (Q:=fun r s'=>r=w∧EP X pins σ Q r s') pl (by lia) (by lia) (by rw [df,←hl];exact h1) (by simpa using ew) ⟨rfl,fin⟩) hs
theorem Ru(ak:List Value)(n j:Nat)(u:Value):Obj.mapSeq (·.setIfInBounds j u) {cls:=.type "list",data:=.seq ak.toArray n}={cls:=.type "list",data:=.seq (ak.set j u).toArray n}:=by simp [Obj.mapSeq]
theorem Inv.lst{pins:bg}{σ:St}{H:Hp}{s:Shared}{p:Addr}{xs:List V}(I:Inv X pins σ H s)(h:H p=some (.lst xs)) :
  ∃(ak:List Value) (n:Nat),Vals xs ak∧s.heap.get? p=some {cls:=.type "list",data:=.seq ak.toArray n}∧xs.length≤sizeLine:=by
 obtain ⟨z,ak,n,r,e⟩:=I.aC p _ h;exact ⟨ak,n,r,e,z⟩
variable {pins:bg} {σ:St} {H:Hp} {s:Shared}
theorem Inv.Rv{p:Addr}{xs ys:List V}{ak its':List Value}{n n':Nat}{f:Obj→Obj}(I:Inv X pins σ H s)(h:H p=some (.lst xs))
  (ho:s.heap.get? p=some {cls:=.type "list",data:=.seq ak.toArray n}) (hf:f {cls:=.type "list",data:=.seq ak.toArray n}={cls:=.type "list",data:=.seq its'.toArray n'}) (r:Vals ys its') (hz:ys.length≤sizeLine) (t:Nat) :
  Inv X pins σ (upd H p (.lst ys)) {s with heap:=s.heap.update p f,toks:=t}:=by
 have e:(s.heap.update p f).get? p=some {cls:=.type "list",data:=.seq its'.toArray n'}:=by rw [Heap.get?_update_self f ho (by rw [hf] <;> rfl),hf]
 refine I.write (x:=p) (e:=p) (by rw [h];trivial) (.inl rfl) (fun b u hb q=>(Heap.get?_update_other _ _ (Ne.symm hb)).trans q) ⟨_,e⟩ ?_
 exact ⟨hz,its',n',r,e⟩
def Rx:V→V→V→Hp→(Hp→Prop)→Prop:=fun o i v H Q=>∃p xs k j,o=.ref p∧i=.int k∧H p=some (.lst xs)∧g8 xs.length k=some j∧Q (upd H p (.lst (xs.set j v)))
theorem set_list:Iq X Rx:=by
 intro pins s σ H o i v ov iv u Q I ro ri rv h;obtain ⟨p,xs,k,j,rfl,rfl,hp,hj,q⟩:=h;cases ro;obtain ⟨t,rfl⟩:=ri;obtain ⟨ak,n,r,ho,hz⟩:=I.lst hp;obtain ⟨h1,h2,h3,h4⟩:=Jq hj;have hl:=r.length;have hn:=x5;have I':Inv X pins σ (upd H p (.lst (xs.set j v))) {s with heap:=s.heap.update p (Obj.mapSeq (·.setIfInBounds j u))}:=
  I.Rv hp ho (Ru ak n j u) (r.set rv j) (by rw [List.length_set];exact hz) s.toks
 by_cases h0:0≤k
 ·have hk:k.toNat=j:=by rw [seqIndex_of h0 h4] at h1;exact Option.some.inj h1
  exact PySem.W.ki_setAt ho h0 (by lia) (by rw [df,←hl];exact h4) (by rw [hk];exact ⟨_,I',q⟩)
 ·have hk:(k+(ak.toArray.size:Int)).toNat=j:=by
   rw [seqIndex_neg (by lia) h3] at h1
   rw [df,←hl];exact Option.some.inj h1
  exact PySem.W.ki_setBack ho (by lia) (by rw [df,←hl];exact h3) (by lia) (by rw [hk];exact ⟨_,I',q⟩)
theorem Ry(lo hi:Option Int)(n:Nat):(sliceBounds lo hi none n).1=((HT.bJ n 0 lo:Nat):Int)∧(sliceBounds lo hi none n).2.1=((HT.bJ n n hi:Nat):Int)∧(sliceBounds lo hi none n).2.2=1:=by
 refine ⟨?_,?_,rfl⟩
 ·cases lo with
  | none=>simp [sliceBounds,HT.bJ]
  | some i=>
   simp only [sliceBounds,HT.bJ,Option.getD_none,show (1:Int)>0 by decide,if_true]
   by_cases h:i<0;·simp only [h,if_true] <;> lia
   ·simp only [h,if_false] <;> lia
 ·cases hi with
  | none=>simp [sliceBounds,HT.bJ]
  | some i=>
   simp only [sliceBounds,HT.bJ,Option.getD_none,show (1:Int)>0 by decide,if_true]
   by_cases h:i<0;·simp only [h,if_true] <;> lia
   ·simp only [h,if_false] <;> lia
theorem Rz(ak:List Value)(lo hi:Option Int):slicePick ak.toArray lo hi none=((ak.drop (HT.bJ ak.length 0 lo)).take (HT.bJ ak.length ak.length hi-HT.bJ ak.length 0 lo)).toArray:=by obtain ⟨h1,h2,h3⟩:=Ry lo hi ak.toArray.size;unfold slicePick;rw [h1,h2,h3];simp only [sliceRange_one,pick_run,df] <;> rfl
def RA(K:aB):V→Option Int→Option Int→Hp→VK→Prop:=fun x lo hi H Q=>∃a xs,x=.ref a∧aZ K H a xs∧∀p,H p=none→Q (.ref p) (upd H p (.lst (jL xs lo hi)))
theorem RB:As X (RA X.K):=by
 intro pins s σ H x v vl vu lo hi sl Q I rx hs pl pu h;obtain ⟨a,xs,rfl,hx,q⟩:=h;cases rx;obtain ⟨ak,r,ht,hz⟩:=I.list hx;have hlen:=r.length;refine ⟨"list",_,slot_list_getitem.lookup,ht.isList.typeIs,?_⟩;refine wpAny_getItem_list_slice ht.isList hs pl pu .none (by simp) ?_ (by rw [df] <;> lia)
 rw [Rz,←hlen];refine ⟨.ref s.heap.objs.size,_,I.laid (t':=s.toks) (o:=.lst (jL xs lo hi)) (fun b ob q=>dy _ q) (aE _) ?_,rfl,q _ (I.aC.fresh (aE _))⟩;exact ⟨aj (Jp xs lo hi) hz,_,0,(r.drop (HT.bJ xs.length 0 lo)).take (HT.bJ xs.length xs.length hi-HT.bJ xs.length 0 lo),fZ _ rfl⟩
def me:V→Bool
 | .bh=>true
 | .bl _=>true
 | .int _=>true
 | .str _=>true
 | _=>false
def nq:V→V→Bool
 | .bh,.bh=>true
 | .bl a,.bl b=>a == b
 | .bl a,.int b=>(if a then 1 else 0) == b
 | .int a,.bl b=>a == (if b then 1 else 0)
 | .int a,.int b=>a == b
 | .str a,.str b=>a == b
 | _,_=>false
variable {x:V} {v:Value}
theorem Au{A:Around}{y:V}{u:Value}(ry:RelV y u)(rx:RelV x v)(fy:me y=true)(fx:me x=true):SeqAt.EqAt A s u v (nq y x):=by
 cases y with
 | bh=>
  cases ry;cases x with
  | bh=>cases rx;exact SeqAt.EqAt.same _
  | bl b=>cases rx;exact SeqAt.EqAt.none_bool b
  | int b=>obtain ⟨t,rfl⟩:=rx;exact SeqAt.EqAt.none_int b t
  | str b=>obtain ⟨t,rfl⟩:=rx;exact SeqAt.EqAt.none_str b t
  | _=>exact absurd (show false=true from fx) dZ
 | bl a=>
  cases ry;cases x with
  | bh=>cases rx;exact SeqAt.EqAt.bool_none a
  | bl b=>cases rx;exact SeqAt.EqAt.bool_bool a b
  | int b=>obtain ⟨t,rfl⟩:=rx;exact SeqAt.EqAt.bool_int a b t
  | str b=>obtain ⟨t,rfl⟩:=rx;exact SeqAt.EqAt.bool_str a b t
  | _=>exact absurd (show false=true from fx) dZ
 | int a=>
  obtain ⟨t',rfl⟩:=ry;cases x with
  | bh=>cases rx;exact SeqAt.EqAt.int_none a t'
  | bl b=>cases rx;exact SeqAt.EqAt.int_bool a t' b
  | int b=>obtain ⟨t,rfl⟩:=rx;exact SeqAt.EqAt.int_int a t' b t
  | str b=>obtain ⟨t,rfl⟩:=rx;exact SeqAt.EqAt.int_str a t' b t
  | _=>exact absurd (show false=true from fx) dZ
 | str a=>
  obtain ⟨t',rfl⟩:=ry;cases x with
  | bh=>cases rx;exact SeqAt.EqAt.str_none a t'
  | bl b=>cases rx;exact SeqAt.EqAt.str_bool a t' b
  | int b=>obtain ⟨t,rfl⟩:=rx;exact SeqAt.EqAt.str_int a t' b t
  | str b=>obtain ⟨t,rfl⟩:=rx;exact SeqAt.EqAt.str_str a t' b t
  | _=>exact absurd (show false=true from fx) dZ
 | _=>exact absurd (show false=true from fy) dZ
theorem di:ig X (.builtin "len") (fun xs H Q=>∃p ys,xs=[.ref p]∧(aZ X.K H p ys∨dH X.K H p ys)∧Q (.int ys.length) H):=by
 intro pins s σ H xs us Q I r h;obtain ⟨p,ys,rfl,hq,q⟩:=h;obtain ⟨u,rfl,rx⟩:=vals1 r;cases rx;have hn:=x5;rcases hq with hq | hq
 ·obtain ⟨ak,r',pl,hz⟩:=I.list hq
  have hlen:=r'.length;exact Calls.call_len_list pl.isList (by simp only [df] <;> lia) ⟨.int ys.length,H,I.tok _,⟨s.toks+1,by rw [df,hlen]⟩,q⟩
 ·obtain ⟨ak,r',pl,hz⟩:=I.tuple hq
  have hlen:=r'.length;exact len_tuple pl (by simp only [df] <;> lia) ⟨.int ys.length,H,I.tok _,⟨s.toks+1,by rw [df,hlen]⟩,q⟩
theorem oM:ig X (.type "list") (fun xs H Q=>∃p ys,xs=[.ref p]∧(aZ X.K H p ys∨dH X.K H p ys)∧∀l,H l=none→Q (.ref l) (upd H l (.lst ys))):=by
 intro pins s σ H xs us Q I r h;obtain ⟨p,ys,rfl,hq,q⟩:=h;obtain ⟨u,rfl,rx⟩:=vals1 r;cases rx
 have fin:∀(ak:List Value),Vals ys ak→ys.length≤sizeLine→∀(h':Heap) (c':Nat),(∀b o',s.heap.get? b=some o'→h'.get? b=some o')→
   h'.get? s.heap.objs.size=some {cls:=.type "list",dict:=none,data:=.seq ak.toArray c',slots:=#[]}→EP X pins σ Q (.ref s.heap.objs.size) {s with heap:=h'}:=fun ak r' hz h' c' kp e=>
  ⟨.ref s.heap.objs.size,_,I.laid (t':=s.toks) kp (aE _) (show da X.prog X.w _ h' _ (.lst ys) from ⟨hz,ak,c',r',e⟩),rfl,q _ (I.aC.fresh (aE _))⟩
 rcases hq with hq | hq
 ·obtain ⟨ak,r',pl,hz⟩:=I.list hq
  have hlen:=r'.length;obtain ⟨o,ho,hc,n,hd⟩:=pl.isList;exact call_list_seq p (.inl rfl) ho hc hd (fun h' c' kp e=>fin ak r' hz h' c' kp e) (by simp only [df] <;> lia)
 ·obtain ⟨ak,r',pl,hz⟩:=I.tuple hq
  have hlen:=r'.length;obtain ⟨o,ho,hc,n,hd⟩:=pl;exact call_list_seq p (.inr rfl) ho hc hd (fun h' c' kp e=>fin ak r' hz h' c' kp e) (by simp only [df] <;> lia)
theorem RC:ig X (.type "tuple") (fun xs H Q=>∃p ys,xs=[.ref p]∧((aZ X.K H p ys∧∀l,H l=none→Q (.ref l) (upd H l (.tup ys)))∨(dH X.K H p ys∧Q (.ref p) H))):=by
 intro pins s σ H xs us Q I r h;obtain ⟨p,ys,rfl,h⟩:=h;obtain ⟨u,rfl,rx⟩:=vals1 r;cases rx;rcases h with ⟨hq,q⟩ | ⟨hq,q⟩
 ·obtain ⟨ak,r',pl,hz⟩:=I.list hq
  have hlen:=r'.length;refine call_tuple_list pl.isList (fun h' kp=>?_) (by simp only [df] <;> lia)
  have I1:Inv X pins σ H {s with heap:=h'}:=I.kept (t':=s.toks) kp;have I2:Inv X pins σ (upd H h'.objs.size (.tup ys)) {s with heap:=h'.push {cls:=.type "tuple",data:=.seq ak.toArray}}:=
   I1.laid (t':=s.toks) (fun b o e=>dy _ e) (aE _) (show da X.prog X.w _ _ _ (.tup ys) from ⟨hz,ak,r',IsTup.new _ _⟩)
  exact ⟨.ref h'.objs.size,_,I2,rfl,q _ (I1.aC.fresh (aE _))⟩
 ·obtain ⟨ak,r',pl,hz⟩:=I.tuple hq
  exact call_tuple_same pl ⟨.ref p,H,I,rfl,q⟩
def DM(K:aB)(T:String)(x:V)(H:Hp):Prop:=match x with
 | .str _=>T="str"
 | .int _=>T="int"
 | .ref p=>(T="list"∧∃xs,aZ K H p xs)∨(T="tuple"∧∃o,K.lookup p=some o∧o.cls=.type "tuple"∧o.dict=none) ∨
   (T="dict"∧((∃ar,H p=some (.dK ar))∨∃ar,H p=some (.dT ar)))∨(T="set"∧∃S n,H p=some (.set S n))
 | _=>False
theorem Jw{T:String}(I:Inv X pins σ H s)(r:RelV x v)(ty:DM X.K T x H) :
  s.TypeIs v T∧∀a,v=.ref a→∃ob,s.heap.get? a=some ob∧ob.dict=none:=by
 cases x with
 | str z=>obtain ⟨t,rfl⟩:=r;cases (show T="str" from ty);exact ⟨typeIs_str s z t,fun _ e=>nomatch e⟩
 | int i=>obtain ⟨t,rfl⟩:=r;cases (show T="int" from ty);exact ⟨typeIs_int s i t,fun _ e=>nomatch e⟩
 | ref p=>
  cases r;rcases ty with ⟨rfl,xs,hq⟩ | ⟨rfl,o,hk,hc,hd⟩ | ⟨rfl,hk⟩ | ⟨rfl,S,n,hk⟩
  ·obtain ⟨ak,_,pl,_⟩:=I.list hq
   refine ⟨pl.isList.typeIs,fun a e=>?_⟩;cases e;obtain ⟨o,n,e,c,hd,_⟩:=pl;exact ⟨o,e,hd⟩
  ·refine ⟨⟨o,I.d_ p o hk,hc⟩,fun a e=>?_⟩
   cases e;exact ⟨o,I.d_ _ o hk,hd⟩
  ·have z:∃o,s.heap.get? p=some o∧o.ExactDict:=by
    rcases hk with ⟨ar,hk⟩ | ⟨ar,hk⟩
    ·obtain ⟨_,_,_,_,o,_,_,e,ex,_⟩:=I.aC p _ hk
     exact ⟨o,e,ex⟩
    ·obtain ⟨_,_,_,_,o,_,_,e,ex,_⟩:=I.aC p _ hk
     exact ⟨o,e,ex⟩
   obtain ⟨o,e,ex⟩:=z;refine ⟨⟨o,e,ex.1⟩,fun a e2=>?_⟩;cases e2;exact ⟨o,e,ex.2.1⟩
  ·obtain ⟨o,_,_,_,e,ex,_⟩:=I.aC p _ hk
   refine ⟨⟨o,e,ex.1⟩,fun a e2=>?_⟩;cases e2;exact ⟨o,e,ex.2.1⟩
 | _=>exact False.elim ty
def RD(K:aB)(T:String)(r:V→List V→Hp→VK→Prop)(to:TE):TE:=fun σ H Q=>to σ H fun x H1=>DM K T x H1∧r x [] H1 Q
def RE(K:aB)(T:String)(r:V→List V→Hp→VK→Prop)(to:TE)(t:TA):TE:=fun σ H Q=>to σ H fun x H1=>DM K T x H1∧t σ H1 fun xs H2=>r x xs H2 Q
variable {o e:Expr} {es:List Expr} {to:TE} {t:TA} {name:Str} {apos iT:Pos} {T id:String} {r:V→List V→Hp→VK→Prop}
theorem RF(pa:PlainAttrs T)(slot:Slot T name id)(DN:typeOf (.builtin id)=pure (.type "method_descriptor"))(hm:DK X id r)(ho:PE X o to)
  (DO:attributeBase o name X.env (eval o X.env)=eval o X.env:=by rfl) (DP:(apos.endLine == iT.line)=true:=by rfl):PE X (.Call (.Attribute o name apos) [] [] iT) (RD X.K T r to):=by
 intro pins s σ H Q I h;refine wpAny_Call_method0_late DO DP (aS (ho pins s σ H _ I h) fun v s1 ⟨x,H1,I1,r1,ty,q1⟩=>?_);obtain ⟨h1,h2⟩:=Jw I1 r1 ty;exact ⟨T,id,pa,slot,DN,h1,h2,Calls.callWith_builtin rfl (PySem.evalArgs_none (hm pins s1 σ H1 x [] v [] Q I1 r1 .nil q1))⟩
theorem Jx(pa:PlainAttrs T)(slot:Slot T name id)(DN:typeOf (.builtin id)=pure (.type "method_descriptor"))(hm:DK X id r)(ho:PE X o to)(ha:PA X (e::es) t)
  (DO:attributeBase o name X.env (eval o X.env)=eval o X.env:=by rfl)
  (RG:((backTo iT (starEach (e::es) X.env)).all (fun x=>!x.1) && (backToKw iT (keywordEach [] X.env)).all (fun x=>x.1.isSome)
   && decide ((e::es).length+([]:List Keyword).length+(if ([]:List Keyword).isEmpty then 0 else 1)<30))=true:=by rfl)
  (DP:(apos.endLine == iT.line)=true:=by rfl) (hs:starEach (e::es) X.env=(false,eval e X.env)::starEach es X.env:=by rfl) (RH:(backTo iT (starEach es X.env)).any (·.1)=false:=by rfl) :
  PE X (.Call (.Attribute o name apos) (e::es) [] iT) (RE X.K T r to t):=by
 intro pins s σ H Q I h;refine wpAny_Call_method_late DO RG DP rfl (aS (ho pins s σ H _ I h) fun v s1 ⟨x,H1,I1,r1,ty,q1⟩=>?_);obtain ⟨h1,h2⟩:=Jw I1 r1 ty;refine ⟨T,id,pa,slot,DN,h1,h2,?_⟩;have hA:=ha iT pins s1 σ H1 _ I1 q1;rw [hs] at hA ⊢;refine Calls.callWith_builtin (by show (false || (backTo iT (starEach es X.env)).any (·.1))=false;rw [RH] <;> rfl) (Calls.evalArgs_plain ?_)
 exact aS hA fun us s2 ⟨vs,H2,I2,r2,q2⟩=>hm pins s2 σ H2 x vs v us Q I2 r1 r2 q2
end
def Jy(X:Cx)(id:String)(r:V→List V→Hp→VK→Prop):Prop:=
 ∀(pins:bg) (s:Shared) (σ:St) (H:Hp) (x:V) (xs:List V) (v:Value) (us:List Value) (Q:VK),Inv X pins σ H s→RelV x v→Vals xs us→r x xs H Q→
  wpAny (model X.prog X.w) X.A (call (.builtin id) (v::us)) (EP X pins σ Q) X.xe s
theorem Vals.one:∀{x:V} {us:List Value},Vals [x] us→∃u,us=[u]∧RelV x u
 | _,_,.cons r .nil=>⟨_,rfl,r⟩
theorem Vals.zero:∀{us:List Value},Vals [] us→us=[]
 | _,.nil=>rfl
theorem Vals.rep{xs:List V}{us:List Value}(h:Vals xs us):∀k:Nat,Vals (List.replicate k xs).flatten (List.replicate k us).flatten
 | 0=>.nil
 | k+1=>by rw [pK,pK,xw,xw];exact Vals.append h (Vals.rep h k)
theorem foldl_rep(ak:List Value):∀(k:Nat) (acc:List Value),
  List.foldl (fun x1 x2=>x1++x2) acc.toArray (List.replicate k ak.toArray)=(acc++(List.replicate k ak).flatten).toArray
 | 0,acc=>by simp
 | k+1,acc=>by
  have e:acc.toArray++ak.toArray=(acc++ak).toArray:=by simp
  have e2:(acc++ak)++(List.replicate k ak).flatten=acc++(List.replicate (k+1) ak).flatten:=by rw [pK,xw,List.append_assoc]
  rw [←e2,←foldl_rep ak k (acc++ak),←e,pK,List.foldl_cons]
section
variable {X:Cx} {pins:bg} {σ:St} {H:Hp} {s:Shared} {l b:Addr} {xs ys zs:List V}
variable {ak:List Value} {n t':Nat}
theorem Inv.Jz{its':List Value}{f:Array Value→Array Value}(I:Inv X pins σ H s)(hH:H l=some (.lst xs))
  (e:s.heap.get? l=some {cls:=.type "list",data:=.seq ak.toArray n}) (hf:f ak.toArray=its'.toArray) (hv:Vals ys its') (hz:ys.length≤sizeLine) :
  Inv X pins σ (upd H l (.lst ys)) {s with heap:=s.heap.update l (Obj.mapSeq f),toks:=t'}:=by
 have q:=PySem.IsL.update e f;rw [hf] at q;refine I.write (x:=l) (e:=l) (by rw [hH];exact trivial) (.inl rfl) (fun b' u hb hu=>(Heap.get?_update_other s.heap (Obj.mapSeq f) (Ne.symm hb)).trans hu) ⟨_,q⟩ ?_
 exact ⟨hz,its',_,hv,q⟩
theorem Inv.JA(I:Inv X pins σ H s)(hv:Vals ys ak)(hz:ys.length≤sizeLine) :
  Inv X pins σ (upd H s.heap.objs.size (.lst ys)) {s with heap:=s.heap.push {cls:=.type "list",data:=.seq ak.toArray},toks:=t'}:=
 I.laid (fun _ _ q=>dy _ q) (aE _) ⟨hz,ak,0,hv,fZ _ rfl⟩
theorem Inv.fresh(I:Inv X pins σ H s):H s.heap.objs.size=none:=I.aC.fresh (aE _)
theorem Inv.t9(I:Inv X pins σ H s)(hH:H l=some (.lst xs)):xs.length≤sizeLine∧∃(ak:List Value) (n:Nat),Vals xs ak∧xs.length=ak.length∧s.heap.get? l=some {cls:=.type "list",data:=.seq ak.toArray n}:=by obtain ⟨z,ak,n,r,e⟩:=I.aC l _ hH;exact ⟨z,ak,n,r,r.length,e⟩
theorem JB(h:n≤sizeLine):Builtin.List.listTooLong n=false:=by unfold Builtin.List.listTooLong;exact eC (by lia)
end
section
variable {X:Cx}
def RI:V→List V→Hp→VK→Prop:=fun x vs H Q=>∃l xs y,x=.ref l∧vs=[y]∧H l=some (.lst xs)∧xs.length<sizeLine∧Q .bh (upd H l (.lst (xs++[y])))
theorem Av:Jy X "list.append" RI:=by
 intro pins s σ H x vs v us Q I rx rv h;obtain ⟨l,xs,y,rfl,rfl,hH,hz,q⟩:=h;cases rx;obtain ⟨u,rfl,ru⟩:=rv.one;obtain ⟨z,ak,n,r,hl,e⟩:=I.t9 hH;refine call_meets F.slot_list_append ⟨_,e,rfl⟩ F.entry_list_append (F.args_list_append_2 _ _) (PySem.list_append l ak.toArray n u (by rw [df];lia)) ⟨e,?_⟩
 refine ⟨.bh,_,I.Jz (its':=ak++[u]) hH e (by simp) (r.append (.cons ru .nil)) ?_,rfl,q⟩
 rw [eL,mR];lia
def RJ:V→List V→Hp→VK→Prop:=fun x vs H Q=>∃l b xs zs,x=.ref l∧vs=[.ref b]∧H l=some (.lst xs)∧H b=some (.lst zs)∧xs.length+zs.length≤sizeLine∧Q .bh (upd H l (.lst (xs++zs)))
theorem RK:Jy X "list.extend" RJ:=by
 intro pins s σ H x vs v us Q I rx rv h;obtain ⟨l,b,xs,zs,rfl,rfl,hH,hB,hz,q⟩:=h;cases rx;obtain ⟨u,rfl,ru⟩:=rv.one;cases ru;obtain ⟨z,ak,n,r,hl,e⟩:=I.t9 hH;obtain ⟨z2,qo,n2,r2,RL,e2⟩:=I.t9 hB;have hsz:ak.toArray.size+qo.toArray.size≤sizeLine:=by rw [df,df];lia
 have DQ:¬(!ak.toArray.isEmpty && Builtin.List.listTooLong (ak.toArray.size+qo.toArray.size))=true:=by rw [JB hsz,Bool.and_false];exact dZ
 refine call_meets F.slot_list_extend ⟨_,e,rfl⟩ F.entry_list_extend (F.args_list_extend_2 _ _)
  (AutoSeq1.list_extend_list_list_0 l ak.toArray n b qo.toArray n2 DQ (by rw [df];lia) (by lia)) ⟨e,e2,?_⟩
 refine ⟨.bh,_,I.Jz (its':=ak++qo) hH e (by simp) (r.append r2) ?_,rfl,q⟩
 rw [eL];lia
def RM:R2:=fun x y H Q=>∃l b xs zs,x=.ref l∧y=.ref b∧H l=some (.lst xs)∧H b=some (.lst zs)∧xs.length+zs.length≤sizeLine∧∀p,H p=none→Q (.ref p) (upd H p (.lst (xs++zs)))
theorem Aw:cP X (binaryOp .Add) RM:=by
 intro pins s σ H x y v u Q I rx ry h;obtain ⟨l,b,xs,zs,rfl,rfl,hH,hB,hz,q⟩:=h;cases rx;cases ry;obtain ⟨z,ak,n,r,hl,e⟩:=I.t9 hH;obtain ⟨z2,qo,n2,r2,RL,e2⟩:=I.t9 hB;refine PySem.P.add_list e e2 ?_ (by rw [df,df];lia)
 have ea:ak.toArray++qo.toArray=(ak++qo).toArray:=by simp
 rw [ea];exact ⟨.ref _,_,I.JA (t':=s.toks) (r.append r2) (by rw [eL];lia),rfl,q _ I.fresh⟩
def RN:R2:=fun x y H Q=>∃l k xs,x=.ref l∧y=.int k∧H l=some (.lst xs)∧-(2 ^ 63)≤k∧k<2 ^ 63∧xs.length*k.toNat≤sizeLine ∧
 ∀p,H p=none→Q (.ref p) (upd H p (.lst (List.replicate k.toNat xs).flatten))
theorem len_rep(xs:List α)(k:Nat):(List.replicate k xs).flatten.length=k*xs.length:=by
 induction k with
 | zero=>simp
 | succ k ih=>rw [pK,xw,eL,ih,Nat.succ_mul,Nat.add_comm]
theorem DR:cP X (binaryOp .Mult) RN:=by
 intro pins s σ H x y v u Q I rx ry h;obtain ⟨l,k,xs,rfl,rfl,hH,h1,h2,hz,q⟩:=h;cases rx;obtain ⟨t,rfl⟩:=ry;obtain ⟨z,ak,n,r,hl,e⟩:=I.t9 hH;have hlen:ak.toArray.size*k.toNat≤sizeLine:=by rw [df,←hl];exact hz
 have RO:¬ak.toArray.size*k.toNat>(2 ^ 63-1) / 8:=by
  have:(sizeLine:Nat)≤(2 ^ 63-1) / 8:=by decide
  lia
 have RP:¬(!Builtin.List.listFitsIndex k)=true:=by rw [fitsIndex_both h1 h2];exact dZ
 have DQ:¬Builtin.List.listTooLong (ak.toArray.size*k.toNat)=true:=by rw [JB hlen];exact dZ
 have RQ:List.foldl (fun x1 x2=>x1++x2) #[] (List.replicate (if ak.toArray.isEmpty=true then 0 else k.toNat) ak.toArray)=(List.replicate k.toNat ak).flatten.toArray:=by
  have f0:∀m:Nat,List.foldl (fun x1 x2=>x1++x2) #[] (List.replicate m ak.toArray)=(List.replicate m ak).flatten.toArray:=fun m=>by have:=foldl_rep ak m [];rw [List.nil_append] at this;exact this
  rw [f0];cases ak with
  | nil=>simp
  | cons a r'=>rw [ao (by simp)]
 refine wpAny_binaryOp_repeat_ref (T:="list") (U:="int") (by decide) ⟨_,e,rfl⟩ (fun s'=>typeIs_int s' k t) noFill_list_mul F.fills_int_mul F.slot_int_rmul repeat_list F.slot_int_index.lookup
  (call_meets F.slot_int_rmul (typeIs_int s k t) F.entry_int_rmul (F.args_int_rmul_2 _ _) (int___rmul___int_list k t l ak.toArray n)
   ⟨e,rfl,⟨_,e,rfl⟩,call_meets F.slot_list_mul ⟨_,e,rfl⟩ F.entry_list_mul (F.args_list_mul_2 _ _) (AutoListH.list___mul___list_int_3 l ak.toArray n k t RP RO DQ) ⟨e,?_⟩⟩)
 rw [RQ];exact ⟨.ref _,_,I.JA (t':=s.toks) (r.rep k.toNat) (by rw [len_rep,iG];exact hz),rfl,q _ I.fresh⟩
end
section
variable {prog:Program} {w:World} {A:Around} {E:aV} {s:Shared}
end
section
variable {X:Cx}
end
end L2
namespace Att
open PySem PySem.W PySem.Calls PyProof.Rows
variable {P:Params} {h:Heap}
theorem RR:∀(ns:List Int) (vs:List Value),WellAll P h vs (ns.map WData.int)→IntsAre vs ns:=by
 intro ns
 induction ns with
 | nil=>intro vs w;rw [List.map_nil] at w;cases w;exact .nil
 | cons n ns ih=>
  intro vs w;rw [cX] at w;cases w with
  | cons a b=>cases a;exact .cons _ _ (ih _ b)
variable {l:OpenLaw} {n:Nat}
theorem RS(hn:l.most=some n){args:List WData}{vals:List Value}
  (Ax:l.row.toRowW.claim.pre args=true) (DS:WellAll P h vals args) :
  ∃a vs ns,vals=[Value.ref a]∧args=[WData.list (ns.map WData.int)]∧h.get? a=some {cls:=.type "list",data:=.seq vs.toArray}∧IntsAre vs ns∧ns.length≤n:=by
 have RT:WShape.hasAll [] args [.list .int]=true:=(pre_splitW Ax).1;have hc:l.pre.holds [] {args:=args}=true:=(pre_splitW Ax).2;obtain ⟨d,r,rfl,h1,h2⟩:=hasAllW_cons RT;obtain rfl:=hasAllW_nil h2;obtain ⟨xs,rfl,h3⟩:=hasW_list h1;obtain ⟨ns,rfl⟩:=items_int h3;have hlen:ns.length≤n:=by
  unfold OpenLaw.pre at hc;have h4:(WTm.not (.lt (.lit (.int (n:Int))) (.len (.arg 0)))).holds [] {args:=[.list (ns.map .int)]}=true:=by have h4:=(holds_andW hc).1;rw [hn] at h4;exact h4
  have h5:=condW_of h4 (w_not (w_lt w_lit (w_len_list (w_arg rfl))));rw [aG] at h5;refine Nat.le_of_not_lt fun q=>?_;have q':(n:Int)<((ns.length:Nat):Int):=by lia
  first
   | (rw [dC q'] at h5;exact absurd h5 (by decide))
   | (simp at h5;lia)
 cases DS with
 | cons w1 w2=>
  cases w2;cases w1 with
  | list ho RU=>exact ⟨_,_,ns,rfl,rfl,ho,RR ns _ RU,hlen⟩
theorem RV(l:OpenLaw)(args:List WData):l.row.toRowW.claim.post args (.bool true) args=true:=
 postW_of (r:=l.row.toRowW) (X:=(true == true))
  (show WShape.has [] (.bool true) .bool=true by first | rfl | decide | simp [WShape.has,WShape.arms,WShape.armsAll])
  (show (WTm.eq .res (.lit (.bool true))).value [] {args:=args,res:=some (.bool true),after:=args}=some (.bool (true == true)) from w_eq_bool (w_res rfl) w_lit) rfl
theorem RW{q:Program}{loose:List Str}{XP:(Str→Option Value)→Heap→Prop}{YP:World→Heap→Prop}{d:DefRec}
  (hn:l.most=some n) (x_:d.params.defaults=[])
  (call:∀(w:World) (s₀ s₁:Shared) (mg mb:dG) (fa:Addr) (o:Obj) (pm cd doc:Value) (a:Addr) (vs:List Value) (ns:List Int),
   Ground q loose [] XP w s₀ mg mb s₁.heap→YP w s₁.heap→
   s₁.heap.get? fa=some o→o.data=.func (docDef d.name d.params d.body d.scope pm cd doc)→s₁.heap.CodeRec cd d.name→mg d.name=some (.ref fa)→
   s₁.heap.get? a=some {cls:=.type "list",data:=.seq vs.toArray}→IntsAre vs ns→ns.length≤n→s₁.gens = #[]→
   codeAny (model l.prog w) callerA (.call (.ref fa) ⟨[.ref a],[]⟩) (fun r s'=>r=.ok (.ret (.bool true))∧OldK s₁.heap s'.heap∧s'.os=s₁.os∧AllBare s'.gens) s₁) :
  WalkO q loose XP YP l.row.toRowW d [] (fun f vs=>PySem.call f vs):=by
 intro w s₀ s₁ mg mb G Y fa o pm cd doc dV kV ho hd gg hD ya hg args vals as Ax afI hrd DS hlo;obtain rfl:dV=.none:=Dflts.none hD x_;obtain rfl:kV=.none:=Dflts.noKw hD;obtain ⟨a,vs,ns,rfl,rfl,DT,hints,hlen⟩:=RS hn Ax DS;refine enter_call (codeAny_mono (call w s₀ s₁ mg mb fa o pm cd doc a vs ns G Y ho (fd_plain hd) gg ya DT hints hlen hg) fun r s' hq=>?_);obtain ⟨rfl,h2,h3,h4⟩:=hq;exact ⟨.inl ⟨.bool true,.bool true,[],rfl,fun _=>rfl,.bool true,RV l _,fun _=>⟨List.Pairwise.nil,fun _ hm=>(nomatch hm)⟩⟩,h2,h3,h4⟩
section
variable {prog:Program} {w:World} {A:Around} {E:aV} {s:Shared} {K:Frag}
end
end Att
namespace L2
open PySem PySem.Spec PyProof.Rows
theorem JD:∀{vs:List Value} {ns:List Int},IntsAre vs ns→Vals (ns.map V.int) vs
 | _,_,.nil=>.nil
 | _,_,.cons n t h=>.cons ⟨t,rfl⟩ (JD h)
def DV(H:Hp):Prop:=∀b,H b=none∨∃o xs,H b=some (.cW o (.lst xs))
variable {K:aB} {k:Nat} {a:Addr} {x:Str}
theorem RX{P:Program}{w:World}{mg mb:dG}{CX:iR}{fa:Addr}{fd:FuncData}{sp:Sp}{s₁:Shared}{vs:List Value}{ns:List Int}
  (KX:K.In s₁.heap) (JE:s₁.heap.Ns mainGlobals mg) (hb:s₁.heap.Ns builtinsNs mb) (RY:∀x:Str,x ≠ "__name__"→mb x=bootBuiltins x) (RZ:s₁.heap.NoLimit) (hg:s₁.gens = #[])
  (ha:s₁.heap.get? a=some {cls:=.type "list",data:=.seq vs.toArray}) (hi:IntsAre vs ns) (hl:ns.length≤sizeLine) (hr:dI k callerA)
  (F:∀base:Heap,K.In base→base.Ns mainGlobals mg→a_ P w K mg base CX k fa fd [x] sp) (R0:∀(s:Shared) (u:Value),BindsTo s fd ⟨[u],[]⟩ [(x,u)])
  (ky:∀H:Hp,DV H→aZ K H a (ns.map V.int)→sp [.ref a] H (fun v _=>v=.bl true) fun _ _ _=>False)
  (DW:∀H e s',CX [] H s₁ (fun _ _ _=>False) e s'→False) :
  codeAny (model P w) callerA (.call (.ref fa) ⟨[.ref a],[]⟩) (fun r s'=>r=.ok (.ret (.bool true))∧OldK s₁.heap s'.heap∧s'.os=s₁.os∧AllBare s'.gens) s₁:=by
 have rv:=JD hi;have R1:=hi.length
 have core:∀H:Hp,DV H→aZ K H a (ns.map V.int)→cL P w H s₁.heap→(∀b,H b≠none→b=a)→(H a≠none→K.lookup a=none)→
   codeAny (model P w) callerA (.call (.ref fa) ⟨[.ref a],[]⟩) (fun r s'=>r=.ok (.ret (.bool true))∧OldK s₁.heap s'.heap∧s'.os=s₁.os∧AllBare s'.gens) s₁:=by
  intro H hO hS aC hA hK;have JF:∀{b:Addr} {o:Obj},s₁.heap.get? b=some o→H b=none→(m9 s₁.heap H).get? b=some o:=fun e n=>PM e n;have x8:∀{b:Addr} {o:Obj} {es:Array DictEntry} {ep:Nat},s₁.heap.get? b=some o→o.data=.dict es ep→H b=none:=fun{b o es ep} e d=>by
   cases q:H b with
   | none=>rfl
   | some u=>
    have e':b=a:=hA b (by rw [q];simp)
    subst e';rw [ha] at e;cases e;have d':Data.seq vs.toArray _=Data.dict es ep:=d;cases d'
  have Ay:∀{b:Addr} {m:dG},s₁.heap.Ns b m→(m9 s₁.heap H).Ns b m:=fun{b m} ⟨o,es,ep,e,d,r⟩=>⟨o,es,ep,JF e (x8 e d),d,r⟩;have JG:K.In (m9 s₁.heap H):=fun b o e=>JF (KX b o e) (by
   cases q:H b with
   | none=>rfl
   | some u=>
    have e':b=a:=hA b (by rw [q];simp)
    subst e';rw [hK (by rw [q];simp)] at e;cases e)
  have hM:Mod K mg (m9 s₁.heap H):=⟨JG,Ay JE,⟨mb,Ay hb,RY⟩,let ⟨mc,h1,h2⟩:=RZ;⟨mc,Ay h1,h2⟩⟩
  have e0:qm P w K mg (m9 s₁.heap H) callerA [] s₁ H:=⟨rfl,hM,fun b o e=>PN e,mP (PK _ _),trivial,fun b hb=>absurd (show b∈([]:List Addr) from hb) (by simp),aC,.of_eq hg⟩
  refine codeAny_mono ((F _ JG (Ay JE)).run callerA [] s₁ H ⟨[.ref a],[]⟩ [.ref a] [.ref a] _ _ hr e0 (R0 s₁ (.ref a)) (.cons rfl .nil) (ky H hO hS)) fun r s' h=>?_;cases r with
  | error e=>exact (DW H e s' h).elim
  | ok fl=>
   cases fl with
   | next=>exact False.elim h
   | brk=>exact False.elim h
   | cont=>exact False.elim h
   | ret u=>
    obtain ⟨v,H',os,bare,un,R3,r',q⟩:=h;have q':v=.bl true:=q;subst q';obtain rfl:u=Value.bool true:=r';refine ⟨rfl,OldK.of_keep fun b o e=>?_,os,bare⟩;cases q:H b with
    | none=>exact un.keep b o e q (by intro z;exact absurd (show b∈([]:List Addr) from z) (by simp)) (by simp)
    | some u=>
     rcases hO b with z | ⟨ob,xs,z⟩;·rw [q] at z;cases z
     ·have z2:=un.ie b ob _ z
      obtain ⟨e1,_⟩:=aC b _ z;obtain ⟨e2,_⟩:=R3 b _ z2;rw [e] at e1;cases e1;exact e2
 cases hk:K.lookup a with
 | some o=>have e:=KX a o hk;rw [ha] at e;cases e;refine core (fun _=>none) (fun _=>.inl rfl) (.inr ⟨_,vs.toArray,_,hk,rfl,rfl,rfl,by rw [df,R1];exact hl,by simpa using rv⟩) (fun b u z=>by have z':(none:Option HO)=some u:=z;cases z') (fun b z=>absurd rfl z) fun z=>absurd rfl z
 | none=>
  refine core (fun b=>if b=a then some (.cW {cls:=.type "list",data:=.seq vs.toArray} (.lst (ns.map V.int))) else none) (fun b=>?_) (.inl (.inr ⟨{cls:=.type "list",data:=.seq vs.toArray},ai rfl⟩)) (fun b u z=>?_) (fun b z=>?_) fun _=>hk
  ·by_cases hb:b=a
   ·exact .inr ⟨_,_,ai hb⟩
   ·exact .inl (ao hb)
  ·by_cases hb:b=a
   ·have z':=(ai hb).symm.trans z
    cases z';subst hb;exact ⟨ha,by rw [aG];exact hl,vs,_,rv,ha⟩
   ·have z':=(ao hb).symm.trans z
    cases z'
  ·by_cases hb:b=a
   ·exact hb
   ·exact absurd (ao hb) z
abbrev JH {K:aB} {h:Heap} (_:K.In h):PySem.W.Frag:=K
variable {n:Nat}
theorem R4{l:PySem.W.OpenLaw}{q:Program}{loose:List Str}{XP:(Str→Option Value)→Heap→Prop}{YP:World→Heap→Prop}{d:DefRec}{K:Params→PySem.W.Frag}{CX:World→iR}{sp:World→Sp}
  (hn:l.most=some n) (t6:n≤sizeLine) (x_:d.params.defaults=[]) (hr:dI k callerA)
  (hY:∀(w:World) (h:Heap),YP w h→(K w.params).In h)
  (F:∀(w:World) (mg:dG) (fa:Addr) (h:Heap),(K w.params).In h→h.Ns mainGlobals mg→mg d.name=some (.ref fa)→
   ∃fd:FuncData,(∀(s:Shared) (u:Value),BindsTo s fd ⟨[u],[]⟩ [(x,u)]) ∧
    ∀base:Heap,(K w.params).In base→base.Ns mainGlobals mg→a_ l.prog w (K w.params) mg base (CX w) k fa fd [x] (sp w))
  (ky:∀(w:World) (H:Hp) (a:Addr) (ns:List Int),ns.length≤n→DV H→aZ (K w.params) H a (ns.map V.int)→sp w [.ref a] H (fun v _=>v=.bl true) fun _ _ _=>False)
  (DW:∀(w:World) (H:Hp) (s:Shared) (e:Value) (s':Shared),CX w [] H s (fun _ _ _=>False) e s'→False) :
  PySem.W.WalkO q loose XP YP l.row.toRowW d [] (fun f vs=>PySem.call f vs):=by
 refine Att.RW hn x_ fun w s₀ s₁ mg mb fa o pm cd doc a vs ns G Y ho hd gg ya DT hints hlen hg=>?_;have KX:=hY w _ Y;obtain ⟨fd,hb,hF⟩:=F w mg fa _ KX G.T.g ya;exact RX KX G.T.g G.T.b G.T.builtins G.T.nolimit hg DT hints (aj hlen t6) hr hF hb (fun H hO hS=>ky w H a ns hlen hO hS) fun H e s'=>DW w H s₁ e s'
def inClass(s:Stmt)(j:Nat):Stmt:=match s with
 | .ClassDef _ _ _ body _ _ _ _ _ _ _=>body.getD j (.Pass ⟨0,0,0,0⟩)
 | _=>.Pass ⟨0,0,0,0⟩
def jM(s:Stmt):Arguments:=match s with
 | .FunctionDef _ a _ _ _ _ _ _ _ _=>a
 | _=>{posonlyargs:=[],args:=[],vararg:=none,kwonlyargs:=[],kw_defaults:=[],kwarg:=none,defaults:=[]}
def gF(s:Stmt):List Stmt:=match s with
 | .FunctionDef _ _ b _ _ _ _ _ _ _=>b
 | _=>[]
def aN(s:Stmt):Scope:=match s with
 | .FunctionDef _ _ _ _ _ _ sc _ _ _=>sc
 | _=>{kind:=.function,names:=[],isGenerator:=false,isCoroutine:=false}
abbrev b8:iR:=fun _ _ _ _ _ _=>False
abbrev E0:XK:=fun _ _ _=>False
theorem aP{X:Cx}:Passes b8 X E0:=fun _ _ _ _ _ _ _ h=>h.elim
structure dW (K:aB) (x qual:Str) (st:Stmt) (f:Addr) (fd:FuncData):Prop where
 ex:∃(oc:Value) (od:Option Addr) (kV doc pm:Value) (an:Option Addr) (bq ct:Value) (gj:Array (Option Value)),
  fd=PySem.W.fnOf x qual (jM st) (gF st) (aN st) .none kV doc pm an bq ct∧K.lookup f=some ⟨oc,od,.func fd,gj⟩∧PySem.W.codeIn K bq qual=true
 kp:PySem.W.keepIn K (.ref f)=true
abbrev aD (K:aB) (x:Str) (st:Stmt) (f:Addr) (fd:FuncData):Prop:=dW K x x st f fd
section
variable {P:Program} {w:World} {K:aB} {mg:dG} {base:Heap}
variable {qual:Str} {st:Stmt} {f:Addr} {fd:FuncData} {N ps:List Str} {sp:Sp}
theorem dW.ok(F:dW K x qual st f fd)(S:bG N ps (aN st))(len:∀vs H Q E,sp vs H Q E→vs.length=ps.length)
  (lC:∀(bq:Value) (A:Around) (outer:List Env) (s:Shared) (H:Hp) (vs:List V) (Q:VK) (E:XK),dI k (A.deeper (envOfC qual (aN st) s.heap.objs.size f bq))→sp vs H Q E→
   ∃t,fb (jJ b8 P w K mg base N qual (aN st) f bq A outer s H E).l7 (gF st) t∧t {nx:=fun _ H'=>Q .bh H',rt:=Q} (start N vs) H):a_ P w K mg base b8 (k+1) f fd ps sp:=by
 obtain ⟨oc,od,kV,doc,pm,an,bq,ct,gj,rfl,lk,gg⟩:=F.ex;refine DJ lk gg S len fun A outer s H vs Q E hr ky=>?_;obtain ⟨t,h,q⟩:=lC bq A outer s H vs Q E hr ky;exact ⟨t,h.l7,q⟩
theorem dW.cC(F:dW K x qual st f fd)(S:bG N ps (aN st))
  (lC:∀(bq:Value) (A:Around) (outer:List Env) (s:Shared) (H:Hp) (vs:List V) (Q:VK) (E:XK),dI k (A.deeper (envOfC qual (aN st) s.heap.objs.size f bq))→sp vs H Q E→
   ∃t,fb (jJ b8 P w K mg base N qual (aN st) f bq A outer s H E).l7 (gF st) t∧t {nx:=fun _ H'=>Q .bh H',rt:=Q} (start N vs) H)
  (len:∀vs H Q E,sp vs H Q E→vs.length=ps.length:=by intro vs H Q E h;repeat first | (obtain ⟨rfl,_⟩:=h;rfl) | (subst h;rfl) | obtain ⟨_,h⟩:=h):a_ P w K mg base b8 (k+1) f fd ps sp:=F.ok S len lC
theorem dW.binds(F:dW K x qual st f fd)
  (h:∀(kV doc pm:Value) (an:Option Addr) (bq ct:Value) (us:List Value),us.length=ps.length→bindArgs (PySem.W.fnOf x qual (jM st) (gF st) (aN st) .none kV doc pm an bq ct) ⟨us,[]⟩=pure (ps.zip us)):Binds K fd ps []:=by
 obtain ⟨oc,od,kV,doc,pm,an,bq,ct,gj,rfl,lk,gg⟩:=F.ex;exact .all (h kV doc pm an bq ct)
theorem dW.bS(F:dW K x qual st f fd)
  (h:∀(kV doc pm:Value) (an:Option Addr) (bq ct:Value) (us:List Value),us.length=ps.length→bindArgs (PySem.W.fnOf x qual (jM st) (gF st) (aN st) .none kV doc pm an bq ct) ⟨us,[]⟩=pure (ps.zip us):=by intro _ _ _ _ _ _ us hl;rcases us with _ | ⟨_,_ | ⟨_,_ | ⟨_,_ | ⟨_,_ | ⟨_,_ | ⟨_,_ | ⟨_,_⟩⟩⟩⟩⟩⟩⟩ <;> first | rfl | (simp at hl;done)):Binds K fd ps []:=F.binds h
theorem bT{oc:Value}{od an:Option Addr}{gj:Array (Option Value)}{kV doc pm bq ct:Value}(l:K.lookup f=some ⟨oc,od,.func (PySem.W.fnOf x qual (jM st) (gF st) (aN st) .none kV doc pm an bq ct),gj⟩)
  (c:PySem.W.codeIn K bq qual=true) (k:PySem.W.keepIn K (.ref f)=true):dW K x qual st f (PySem.W.fnOf x qual (jM st) (gF st) (aN st) .none kV doc pm an bq ct):=⟨⟨oc,od,kV,doc,pm,an,bq,ct,gj,rfl,l,c⟩,k⟩
end
theorem gG(h:n≤1000):n<sizeLine:=fE h (by decide)
section
variable {X:Cx}
theorem pv(i:Nat){pos:Pos}(hN:X.N[i]?=some x:=by rfl)(hv:oE X.env.scope x:=by first | exact Or.inl rfl | exact Or.inr (Or.inl rfl) | exact Or.inr (Or.inr rfl))(hd:(x == ("__debug__":Str))=false:=by decide)
  (gg:(x == ("__classdict__":Str))=false:=by decide):PE X (.Name x pos) (Il i):=P1 hN hv hd gg
end
variable {A B:Prop}
theorem cE(h:B):if false=true then A else B:=by rw [ao dZ];exact h
theorem eF(h:A):if true=true then A else B:=by rw [ai rfl];exact h
theorem cu{c:Prop}[Decidable c](h1:c→A)(h2:¬c→B):if c then A else B:=by
 by_cases h:c
 ·rw [ai h]
  exact h1 h
 ·rw [ao h]
  exact h2 h
def ag(H H':Hp):Prop:=∀b o,H b=some o→H' b=some o
theorem ag.refl(H:Hp):ag H H:=fun _ _ h=>h
variable {H:Hp}
theorem ag.trans{H1 H2:Hp}(a:ag H H1)(b:ag H1 H2):ag H H2:=fun c o h=>b c o (a c o h)
theorem ag.seq{H':Hp}{xs:List V}(e:ag H H')(h:aZ K H a xs):aZ K H' a xs:=by
 rcases h with (h | ⟨o,h⟩) | h;·exact .inl (.inl (e _ _ h))
 ·exact .inl (.inr ⟨o,e _ _ h⟩)
 ·exact .inr h
end L2
set_option maxHeartbeats 4000000
namespace L2
open PySem PySem.Spec PyProof.Rows
structure Az (P:Program) (w:World) (outer:List Env) (H:Hp) (s:Shared) (H':Hp) (ea C:Addr) (B:Heap) (t:Addr) (s':Shared):Prop where
 os:s'.os=s.os
 bare:AllBare s'.gens
 fl:Heap.FlyingW B outer ea (.ref C) (.ref t) s'.heap
 aC:cL P w H' B
 kb:∀b o,s.heap.get? b=some o→H b=none→b∉cY outer→B.get? b=some o
 tb:∀b o,s.heap.get? b=some o→b∉cY outer→∃o',B.get? b=some o'
 sl:∀b o,s.heap.get? b=some o→H b=none→b∈cY outer→∃l,s'.heap.get? b=some {o with slots:=l}
 frh:∀b∈cY outer,H b=none
 R5:∀b o,s.heap.get? b=some o→H b=none→H' b=none
 iK:∀b xs,H b=some (.tup xs)→H' b=some (.tup xs)
 ie:∀b o u,H b=some (.cW o u)→H' b=some (.cW o u)
 iL:∀b ps,H b=some (.m7 ps)→∃more,H' b=some (.m7 (ps++more))
def dO(P:Program)(w:World):iR:=fun outer H s E e s'=>∃ea C H' B t,e=.ref ea∧Az P w outer H s H' ea C B t s'∧E (.ref C) none H'
section
variable {P:Program} {w:World} {outer:List Env} {H H':Hp} {s s':Shared} {ea C t:Addr} {B:Heap}
def ExcAt(ea C:Addr)(h:Heap):Prop:=∃oe,h.get? ea=some oe∧oe.cls=.ref C∧PySem.W.notCls oe=true
def R6(ea C:Addr):HO:=.ext (ExcAt ea C)
end
section
variable {X:Cx} {pins:bg} {σ:St} {H H':Hp} {s s':Shared} {ea C t:Addr} {B:Heap}
structure t_ (X:Cx) (E:XK):Prop where
 jE:X.stack=X.env::X.outer
 fr:X.env.frame=some X.env.locals
 ex:X.ex=[]
 xe:X.xe=fun e s'=>wpAny (model X.prog X.w) X.A (leaving X.env e) (fun _ md=>dO X.prog X.w X.outer X.H₀ X.s₀ E e md) (fun e' md=>dO X.prog X.w X.outer X.H₀ X.s₀ E e' md) s'
theorem AA{env:Env}{outer:List Env}{L:Addr}(h:env.frame=some L):cY (env::outer)=L::cY outer:=by unfold cY;rw [zL,h]
variable {E:XK}
theorem Az.leave(L:t_ X E)(I:Inv X pins σ H s)(f:Az X.prog X.w X.stack H s H' ea C B t s'){h:Heap}(x:Heap.FlyingW B X.outer ea (.ref C) (.ref t) h)(up:s'.heap.UpToSlots h):Az X.prog X.w X.outer X.H₀ X.s₀ H' ea C B t {s' with heap:=h}:=by
 have nL:∀b o,X.s₀.heap.get? b=some o→b≠X.env.locals:=fun b o e=>dR (fh (cg e) I.ok.above);have ns:∀b o,X.s₀.heap.get? b=some o→b∉cY X.outer→b∉cY X.stack:=fun b o e nb z=>by
  rw [L.jE,AA L.fr] at z;rcases cH.mp z with z | z;·exact nL b o e z
  ·exact nb z
 have nx:∀b:Addr,b∉X.ex:=fun b z=>by rw [L.ex] at z;cases z
 refine ⟨f.os.trans I.os,f.bare,x,f.aC,fun b o e n nb=>?_,fun b o e nb=>?_,fun b o e n hb=>?_,I.ok.m_,fun b o e n=>?_,fun b xs e=>f.iK b xs (I.base.iK b xs e),fun b o u e=>f.ie b o u (I.base.ie b o u e),fun b ps e=>?_⟩;·exact f.kb b o (I.base.keep b o e n nb (nx b)) (I.base.free b o e n (nx b)) (ns b o e nb)
 ·obtain ⟨o',e'⟩:=I.base.there b o e (nx b)
  exact f.tb b o' e' (ns b o e nb)
 ·obtain ⟨l,q⟩:=I.base.slot b o e n hb (nx b)
  have hs:b∈cY X.stack:=by rw [L.jE,AA L.fr];exact fY _ hb
  obtain ⟨l2,q2⟩:=f.sl b _ q (I.base.free b o e n (nx b)) hs;obtain ⟨_,o2,q3,nf⟩:=f.fl.2.2.1.mem hs;rw [q2] at q3;cases q3;obtain ⟨l3,q4⟩:=up b _ q2 nf;exact ⟨l3,q4⟩
 ·obtain ⟨o',e'⟩:=I.base.there b o e (nx b)
  exact f.R5 b o' e' (I.base.free b o e n (nx b))
 ·obtain ⟨m1,e1⟩:=I.base.iL b ps e
  obtain ⟨m2,e2⟩:=f.iL b _ e1;exact ⟨m1++m2,by rw [e2,Array.append_assoc]⟩
theorem iU:Passes (dO X.prog X.w) X (fun _ _ _=>False):=fun pins σ H s e s' I h=>by obtain ⟨_,_,_,_,_,_,_,q⟩:=h;exact q.elim
theorem lD(L:t_ X E):Passes (dO X.prog X.w) X E:=fun pins σ H s e s' I h=>by
 obtain ⟨ea,C,H',B,t,rfl,f,q⟩:=h;rw [L.xe];refine wpAny_leaves_onW (by rw [I.ok.frames,L.jE]) L.fr (by have z:=f.fl;rw [L.jE] at z;exact z) fun h' x up=>?_
 exact ⟨ea,C,H',B,t,rfl,f.leave L I x up,q⟩
end
variable {K:aB} {h:Heap}
theorem R7{C:Addr}{ua:List Value}{newId:String}(dA:K.In h)(hq:PySem.W.excIn K C ua newId=true) :
  ∃bm N nm qn bs hdct sn sub ab col dd k0 k1 k2 k3 k5 mN,h.get? C=some (excClassObj nm qn C N bs bm hdct sn sub ab col dd k0 k1 k2 k3 k5 newId)∧h.Ns N mN∧mN "__init__"=none∧OwnTail h ua bm∧PySem.W.mroIn K C=fun b=>some ((Value.ref C::bm).contains b):=by
 unfold PySem.W.excIn at hq
 split at hq
 ·rename_i ub cls slt look
  split at hq
  ·rename_i CC rest a0 a1 a2 a3 nn a5 em es
   simp only [xv,lT,Bool.not_eq_true'] at hq;obtain ⟨⟨⟨⟨⟨e1,e2⟩,e3⟩,e4⟩,e5⟩,e6⟩:=hq;subst e1 e2;have R8:PySem.W.mroIn K CC=fun b=>some ((Value.ref CC::rest).contains b):=by
    funext b
    unfold PySem.W.mroIn PySem.W.clsIn;rw [look];simp [em]
   obtain ⟨c1,c2,c3,c4,c5,c6,c7,c8,c9,DX,c11⟩:=cls;dsimp only at em e3 e5 e6;subst em e3;have R9:slt = #[a0,a1,a2,a3,some (.builtin nn),a5]:=by obtain ⟨ll⟩:=slt;simp only at es;rw [es]
   subst R9;exact ⟨rest,c4,c1,c5,c2,c6,c7,c8,c9,DX,ub,a0,a1,a2,a3,a5,_,dA _ _ look,.of_isNs (PySem.W.isNs_of_in dA e5),PySem.W.nsMap_none_of_in dA e5 e6,PySem.W.tail_of_in dA e4,R8⟩
  ·cases hq
 ·cases hq
section
variable {X:Cx} {E:XK} {x:Str} {C:Addr} {np iT pos:Pos} {e:Expr} {es:List Expr} {ta:TA} {B newId R_:String} {ua:List Value}
def Sa(C:Addr)(E:XK)(ta:TA):TS:=fun _ σ H=>ta σ H fun vs H1=>vs.length≤sizeLine∧E (.ref C) none H1
theorem nB(L:t_ X E)(hc:X.calm=true)(FB:ExcBaseFacts B newId R_ ua)(hq:PySem.W.excIn X.K C ua newId=true)(hg:Gl X x)(hm:X.mg x=some (.ref C))(ha:PA X (e::es) ta)
  (hs:starEach (e::es) X.env=(false,eval e X.env)::starEach es X.env:=by rfl) (hp:(backTo iT (starEach es X.env)).any (·.1)=false:=by rfl) (hd:(x == ("__debug__":Str))=false:=by decide) :
  PS X (.Raise (some (.Call (.Name x np) (e::es) [] iT)) none pos) (Sa C E ta):=by
 intro pins s σ H D I h;obtain ⟨bm,N,nm,qn,bs,hdct,sn,sub,ab,col,dd,k0,k1,k2,k3,k5,mN,hC,hN,Sb,T,_⟩:=R7 I.ok.mod.dA hq
 refine wpAny_Raise_call_subT (C:=C) (nm:=nm) (q:=qn) (N:=N) (bs:=bs) (bm:=bm) (hdct:=hdct) (sn:=sn) (sub:=sub) (ab:=ab) (col:=col) (dd:=dd) (k0:=k0) (k1:=k1) (k2:=k2) (k3:=k3) (k5:=k5) FB (mN:=mN) (T.hasType FB.hasBase) (I.ok.hd hc)
  (by rw [hs];show (false || (backTo iT (starEach es X.env)).any (·.1))=false;rw [hp];rfl) Sb (Af I hg hm ⟨rfl,?_⟩ hd)
 have h1:=ha iT pins s σ H _ I h;rw [hs] at h1 ⊢;refine Calls.evalArgs_plain (aS h1 fun us s2 ⟨vs,H1,I1,r,hl,q⟩=>⟨rfl,by rw [←r.length];exact hl,I1.bk _ _ hC,hN.keeps I1.bk,T.keeps I1.bk,fun h' ea mk=>?_⟩)
 rw [L.xe];have nL:∀b o,X.s₀.heap.get? b=some o→b≠X.env.locals:=fun b o q=>dR (fh (cg q) I1.ok.above);have ns:∀b o,X.s₀.heap.get? b=some o→b∉cY X.outer→b∉cY X.stack:=fun b o q nb z=>by
  rw [L.jE,AA L.fr] at z;rcases cH.mp z with z | z;·exact nL b o q z
  ·exact nb z
 have nx:∀b:Addr,b∉X.ex:=fun b z=>by rw [L.ex] at z;cases z
 have ff:s2.heap.FunFrames (PySem.W.hideAll s2.heap (cY X.stack)) (X.env::X.outer):=by have z:=I1.stack;rw [←L.jE];exact PySem.W.funFrames_hide z fun env he a hf=>List.mem_filterMap.mpr ⟨env,he,hf⟩
 refine wpAny_leaves_madeW (base:=PySem.W.hideAll s2.heap (cY X.stack)) (h:=s2.heap) (by rw [I1.ok.frames,L.jE]) L.fr (fun b o q=>PySem.W.of_hideAll _ q) ff mk fun h2 t fl _ _ up=>?_
 refine ⟨ea,C,H1,_,t,rfl,⟨I1.os,I1.bare,fl,fun a o e1=>?_,fun b o e1 n nb=>?_,fun b o e1 nb=>?_,fun b o e1 n hb=>?_,I1.ok.m_,fun b o e1 n=>?_,I1.base.iK,I1.base.ie,I1.base.iL⟩,q⟩
 ·refine (I1.aC a o e1).gf (fun b u hb e2=>zK _ e2 fun z=>?_) (fun _ z=>z) fun _ _ z=>z
  have n0:=I1.xP b z;rcases hb with hb | hb
  ·subst hb
   rw [e1] at n0;cases n0
  ·rw [hb] at n0
   cases n0
 ·exact zK _ (I1.base.keep b o e1 n nb (nx b)) (ns b o e1 nb)
 ·obtain ⟨o',e2⟩:=I1.base.there b o e1 (nx b)
  exact ⟨o',zK _ e2 (ns b o e1 nb)⟩
 ·obtain ⟨l,e2⟩:=I1.base.slot b o e1 n hb (nx b)
  have l_:b∈cY X.stack:=by rw [L.jE,AA L.fr];exact fY _ hb
  obtain ⟨_,o2,e3,nf⟩:=I1.stack.mem l_;rw [e2] at e3;cases e3;obtain ⟨l2,e4⟩:=up b _ (mk.keeps _ _ e2) nf;exact ⟨l2,e4⟩
 ·obtain ⟨o',e2⟩:=I1.base.there b o e1 (nx b)
  exact I1.base.free b o e1 n (nx b)
end
section
variable {X:Cx} {k:Nat} {f C:Addr} {fd:FuncData} {ps:List Str} {sp:Sp} {fG:List V} {ds:List Value} {x m:Str} {p pos apos:Pos} {e o:Expr} {es:List Expr} {ta:TE} {t:TA}
variable {te:TX} {i:Nat} {pos':Pos}
end
section
variable {X:Cx} {pins:bg} {σ:St} {H:Hp} {s:Shared} {ea:Addr}
end
section
variable {M:Model} {A:Around} {E:aV} {h:Heap} {g:Array GenState} {d:Drawn} {t:Nat} {os:OsState} {e:Addr} {oe:Obj} {Q:Bool→Shared→Prop}
variable {nm q nm' q':Str} {C N D N':Addr} {bs bm bs' AB:List Value} {hdct afP:Bool} {sn sn':List Str} {sub afR:List Value} {ab ab':Bool} {col afT:Option Bool} {dd yb:Option Addr} {k0 k1 k2 k3 k5 j0 j1 j2 j3 j5:Option Value} {newId afU:String}
end
section
variable {X:Cx} {body:List Stmt} {b₀:Stmt} {afV:List Stmt} {np afW pos:Pos} {x n:Str} {D:Addr} {tb:TSX} {ts:TS} {ua:List Value} {newId:String} {i:Nat}
end
section
variable {P:Program} {w:World} {K:aB} {mg:dG} {base:Heap}
variable {x qual:Str} {st:Stmt} {f:Addr} {fd:FuncData} {N ps:List Str} {k:Nat} {sp:Sp}
theorem dW.DY(F:dW K x qual st f fd)(S:bG N ps (aN st))(len:∀vs H Q E,sp vs H Q E→vs.length=ps.length)
  (lC:∀(bq:Value) (A:Around) (outer:List Env) (s:Shared) (H:Hp) (vs:List V) (Q:VK) (E:XK),dI k (A.deeper (envOfC qual (aN st) s.heap.objs.size f bq))→sp vs H Q E→
   t_ (jJ (dO P w) P w K mg base N qual (aN st) f bq A outer s H E) E→
   ∃t,fb (jJ (dO P w) P w K mg base N qual (aN st) f bq A outer s H E) (gF st) t∧t {nx:=fun _ H'=>Q .bh H',rt:=Q} (start N vs) H):a_ P w K mg base (dO P w) (k+1) f fd ps sp:=by
 obtain ⟨oc,od,kV,doc,pm,an,bq,ct,gj,rfl,lk,gg⟩:=F.ex;exact DJ lk gg S len fun A outer s H vs Q E hr ky=>lC bq A outer s H vs Q E hr ky ⟨rfl,rfl,rfl,rfl⟩
theorem dW.eM(F:dW K x qual st f fd)(S:bG N ps (aN st))
  (lC:∀(bq:Value) (A:Around) (outer:List Env) (s:Shared) (H:Hp) (vs:List V) (Q:VK) (E:XK),dI k (A.deeper (envOfC qual (aN st) s.heap.objs.size f bq))→sp vs H Q E→
   t_ (jJ (dO P w) P w K mg base N qual (aN st) f bq A outer s H E) E→
   ∃t,fb (jJ (dO P w) P w K mg base N qual (aN st) f bq A outer s H E) (gF st) t∧t {nx:=fun _ H'=>Q .bh H',rt:=Q} (start N vs) H)
  (len:∀vs H Q E,sp vs H Q E→vs.length=ps.length:=by intro vs H Q E h;repeat first | (obtain ⟨rfl,_⟩:=h;rfl) | (subst h;rfl) | obtain ⟨_,h⟩:=h):a_ P w K mg base (dO P w) (k+1) f fd ps sp:=F.DY S len lC
end
structure qp (K:aB) (C:Addr):Prop where
 ci:PySem.W.hasDictIn K C=true
 ga:PySem.W.findIn K (.ref C) "__getattribute__"=some (some (.builtin "BaseException.__getattribute__"))
 gn:PySem.W.findIn K (.ref C) "__getattr__"=some none
 ca:PySem.W.findIn K (.ref C) "__class__"=some (some (.builtin "object.__class__"))
 mo:PySem.W.mroIn K C (.type "object")=some true
 mb:PySem.W.mroIn K C (.type "BaseException")=some true
section
variable {prog:Program} {w:World} {A:Around} {E:aV} {h:Heap} {g:Array GenState} {d:Drawn} {t:Nat} {os:OsState} {K:aB} {a C:Addr} {o:Obj}
theorem Sd{R:Result→Shared→Prop}(dA:K.In h)(c:qp K C)(hx:h.get? a=some o)(hc:o.cls=.ref C)(hq:R (.ok (.ret (.ref C))) ⟨h,g,d,t,os⟩) :
  codeAny (model prog w) A (.call (.builtin "getset_descriptor.__get__") ⟨[.builtin "object.__class__",.ref a,.ref C],[]⟩) R ⟨h,g,d,t,os⟩:=by
 have JI:(⟨h,g,d,t,os⟩:Shared).TypeIs (.builtin "object.__class__") "getset_descriptor":=Df;have L1:=PySem.W.looks_mroIn (M:=model prog w) dA c.mo;have ow:=F.owner_object_class;refine codeAny_call_builtin F.slot_gs_get.plain F.entry_gs_get (F.slot_gs_get.check _ _ _ _ _ _ _ _ JI (F.args_gs_get _ _ _) ?_)
 repeat (any_goals (first | assumption | (with_reducible refine xx hx ?_;rw [hc]) | (rw [ow];with_reducible refine L1.at ?_) | wp_step))
 refine ⟨Code.quiet_builtin _ (by decide +kernel),codeAny_builtin F.entry_object_class ?_⟩
 repeat (any_goals (first | assumption | (with_reducible refine xx hx ?_;rw [hc]) | wp_step))
variable {tk:Tok}
theorem Se{Q:Fin→Shared→Prop}(dA:K.In h)(c:qp K C)(hx:h.get? a=some o)(hc:o.cls=.ref C)(hq:Q (.done (.ret (.ref C))) ⟨h,g,d,t,os⟩) :
  wpAny (model prog w) A (Builtin.«object.__getattribute__» ⟨[.ref a,.str "__class__" tk],[]⟩) Q E ⟨h,g,d,t,os⟩:=by
 have JI:(⟨h,g,d,t,os⟩:Shared).TypeIs (.builtin "object.__class__") "getset_descriptor":=Df;have L1:=zQ (M:=model prog w) dA c.ca;have f5:=Df;have f6:=F.slot_gs_get.lookup;have f7:=F.slot_gs_set.lookup
 repeat (any_goals (first | assumption | (with_reducible refine xx hx ?_;rw [hc]) | with_reducible refine L1.at ?_ | wp_step))
 refine Sd dA c hx hc ?_
 repeat (any_goals (first | assumption | wp_step))
theorem Sf{M:Model}{nv:Value}{Q:Unit→Shared→Prop}(dA:K.In h)(c:qp K C)(hx:h.get? a=some o)(hc:o.cls=.ref C)(hq:Q () ⟨h,g,d,t,os⟩) :
  wpAny M A (checkBuiltinCall "BaseException.__getattribute__" ⟨[.ref a,nv],[]⟩) Q E ⟨h,g,d,t,os⟩:=by
 have hk:builtinKind "BaseException.__getattribute__"=some .slot:=by decide +kernel
 have hs:splitId "BaseException.__getattribute__"=some ("BaseException","__getattribute__"):=by decide +kernel
 have L1:=PySem.W.looks_mroIn (M:=M) dA c.mb;have ha:=F.args_bexc_ga (.ref a) nv;simp only [checkBuiltinCall,hk,hs];refine bI ?_;unfold isInstance
 repeat (first | (with_reducible refine xx hx ?_;rw [hc]) | with_reducible refine L1.at ?_ | wp_step)
 exact hq
theorem Sg{fill expr:Bool}{Q:aV}(dA:K.In h)(c:qp K C)(hx:h.get? a=some o)(hc:o.cls=.ref C)(hq:Q (.ref C) ⟨h,g,d,t,os⟩) :
  wpAny (model prog w) A (getAttrBy (.ref a) (.str "__class__" tk) fill expr) Q E ⟨h,g,d,t,os⟩:=by
 have f3:=F.attrBase_ValueError.ga.bind (.ref a);have z0:(expr && onTheHeap (Value.builtin "BaseException.__getattribute__"))=false:=by cases expr <;> rfl
 have z2:(Value.builtin "BaseException.__getattribute__" == Value.builtin "object.__getattribute__")=false:=by decide +kernel
 have z1:(onTheHeap (Value.ref C) && Value.builtin "BaseException.__getattribute__" == Value.builtin "object.__getattribute__")=false:=by rw [z2];rfl
 have L1:=zQ (M:=model prog w) dA c.ga;have L2:=zQ (M:=model prog w) dA c.gn
 repeat (any_goals (first | assumption | (with_reducible refine xx hx ?_;rw [hc]) | with_reducible refine L1.at ?_ | with_reducible refine L2.at ?_ | wp_step))
 refine codeAny_call_builtin F.attrBase_ValueError.ga.plain F.entry_bexc_ga (Sf dA c hx hc (Se dA c hx hc ?_))
 repeat (any_goals (first | assumption | wp_step))
theorem Sh{Q:Option Value→Shared→Prop}(dA:K.In h)(c:qp K C)(hx:h.get? a=some o)(hc:o.cls=.ref C)(hq:Q (some (.ref C)) ⟨h,g,d,t+1,os⟩) :
  wpAny (model prog w) A (getAttr? (.ref a) "__class__") Q E ⟨h,g,d,t,os⟩:=by
 unfold getAttr? getAttrBy?
 repeat (any_goals (first | assumption | with_reducible apply Sg dA c hx hc | wp_step))
theorem Si(c:qp K C):PySem.W.KitX K (.ref a) (.ref C) (ExcAt a C) where
 ty:=fun M h _ k=>by obtain ⟨oe,e1,e2,_⟩:=k;exact e2▸(PySem.W.Looks.ld e1).andThen .now
 it:=fun M h dA _=>by
  obtain ⟨cd,hc,_⟩:=PySem.W.any_some c.ci;unfold PySem.W.clsIn at hc
  split at hc
  ·rename_i look
   intro A' Q' E' s' k q;unfold isType loadHead;exact bI (wpAny_loadPart (k _ _ (dA _ _ look)) (cM q))
  ·cases hc
 ne:=fun h tp dd ak n sl dA Sj=>by
  obtain ⟨cd,hc,_⟩:=PySem.W.any_some c.ci;refine Bool.eq_false_iff.mpr fun q=>?_;have e:C=tp:=Value.ref.inj (lT.mp q);subst e;unfold PySem.W.clsIn at hc
  split at hc
  ·rename_i look
   have z:=(dA _ _ look).symm.trans Sj;cases z
  ·cases hc
 ca:=fun{prog w A E Q s} dA k z=>by obtain ⟨oe,e1,e2,_⟩:=k;obtain ⟨h,g,d,t,os⟩:=s;exact Sh dA c e1 e2 z
end
def AD(a:Addr)(h:Heap):Prop:=∃o ep,h.get? a=some o∧o.ExactDict∧o.data=.dict #[] ep∧(a == sysModules)=false
theorem AD.DZ{a:Addr}(e:AD a h):PySem.W.KitAt a "dict" h:=by obtain ⟨o,_,e,c,_⟩:=e;exact ⟨o,e,c.1⟩
def JJ(a:Addr):HO:=.ext (AD a)
inductive yc (K:aB) (H:Hp):V→Value→Prop where
 | of {x:V} {t:Value} (h:jH K H x t):yc K H x t
 | exc {a C:Addr} (e:H a=some (R6 a C)) (c:qp K C):yc K H (.ref a) (.ref C)
 | ub {a:Addr} (e:H a=some (JJ a)):yc K H (.ref a) (.type "dict")
def JK:V→Value
 | .ty n=>.type n
 | .ref a=>.ref a
 | _=>.none
def Sk:V→Bool
 | .ty _=>true
 | .ref _=>true
 | _=>false
def Sl(K:aB):List V→Hp→VK→Prop:=fun xs H Q=>∃x c t b,xs=[x,c]∧Sk c=true∧yc K H x t∧PySem.W.kitOne K t (JK c)=some b∧Q (.bl b) H
variable {X:Cx}
theorem iV(hK:X.K=K:=by rfl):ig X (.builtin "isinstance") (Sl K):=by
 intro pins s σ H xs us Q I r h;subst hK;obtain ⟨x,c,t,b,rfl,hc,ty,e,q⟩:=h;obtain ⟨u,cv,rfl,rx,rc⟩:=vals2 r;have ec:cv=JK c:=by
  cases c with
  | ty n=>exact rc
  | ref a=>exact rc
  | _=>cases hc
 subst ec;cases ty with
 | of ty=>exact Q0 I rx ty e fun tk=>⟨.bl b,H,I.tok tk,rfl,q⟩
 | @ub a ea=>cases rx;obtain ⟨k,_,_⟩:=(show da X.prog X.w H s.heap a (.ext (AD a)) from I.aC a _ ea);exact jz PySem.W.kitx_dict I.d_ k.DZ e (fun z=>nomatch z) fun tk=>⟨.bl b,H,I.tok tk,rfl,q⟩
 | @exc a C ea cc=>cases rx;obtain ⟨k,_,_⟩:=(show da X.prog X.w H s.heap a (.ext (ExcAt a C)) from I.aC a _ ea);exact jz (Si cc) I.d_ k e (fun z=>nomatch z) fun tk=>⟨.bl b,H,I.tok tk,rfl,q⟩
def g9:List V→List V→Bool
 | [],[]=>true
 | x::xs,y::ys=>nq x y && g9 xs ys
 | _,_=>false
def AE(K:aB)(neg:Bool):R2:=fun x y H Q=>∃a b xs ys,x=.ref a∧y=.ref b∧dH K H a xs∧dH K H b ys∧xs.all me=true∧ys.all me=true∧Q (.bl (if neg then !g9 xs ys else g9 xs ys)) H
theorem D3{A:Around}{s:Shared}:∀{xs ys:List V} {us vs:List Value},Vals xs us→Vals ys vs→xs.all me=true→ys.all me=true→
  ∃e:Nat→Bool,(∀j (h1:j<us.length) (h2:j<vs.length),SeqAt.EqAt A s us[j] vs[j] (e j))∧((List.range (min us.length vs.length)).all e && us.length == vs.length)=g9 xs ys
 | [],[],_,_,.nil,.nil,_,_=>⟨fun _=>true,fun j h1=>absurd h1 (ou _),by simp [g9]⟩
 | [],_::_,_,_,.nil,.cons _ _,_,_=>⟨fun _=>true,fun j h1=>absurd h1 (ou _),by simp [g9]⟩
 | _::_,[],_,_,.cons _ _,.nil,_,_=>⟨fun _=>true,fun j _ h2=>absurd h2 (ou _),by simp [g9]⟩
 | x::xs,y::ys,u::us,v::vs,.cons r1 t1,.cons r2 t2,f1,f2=>by
  rw [List.all_cons,xv] at f1 f2;obtain ⟨e,h,q⟩:=D3 (A:=A) (s:=s) t1 t2 f1.2 f2.2;refine ⟨fun j=>match j with | 0=>nq x y | k+1=>e k,fun j h1 h2=>?_,?_⟩
  ·cases j with
   | zero=>exact Au r1 r2 f1.1 f2.1
   | succ k=>exact h k (by simpa using h1) (by simpa using h2)
  ·have em:min (u::us).length (v::vs).length=min us.length vs.length+1:=by simp only [d8];lia
   rw [em,zU,List.all_cons,List.all_map];show (nq x y && (List.range (min us.length vs.length)).all e && ((us.length+1) == (vs.length+1)))=(nq x y && g9 xs ys);rw [←q];have eb:((us.length+1) == (vs.length+1))=(us.length == vs.length):=by rw [pJ,lT,lT];lia
   rw [eb,Bool.and_assoc]
theorem JL(hu:X.A.units<cLine):cP X (compareOp .Eq) (AE X.K false):=by
 intro pins s σ H x y v u Q I rx ry h;obtain ⟨a,b,xs,ys,rfl,rfl,h1,h2,f1,f2,q⟩:=h;cases rx;cases ry;obtain ⟨us,r1,t1,_⟩:=I.tuple h1;obtain ⟨vs,r2,t2,_⟩:=I.tuple h2;obtain ⟨e,he,eq⟩:=D3 (A:=X.A.in1) (s:=s) r1 r2 f1 f2;refine SeqAt.eq_tupleAt (e:=e) t1 t2 hu (fun j z1 z2=>by simpa using he j (by simpa using z1) (by simpa using z2)) ⟨.bl (g9 xs ys),H,I,?_,q⟩
 show _=Value.bool (g9 xs ys);rw [←eq];simp
theorem Sm(hu:X.A.units<cLine):cP X (compareOp .NotEq) (AE X.K true):=by
 intro pins s σ H x y v u Q I rx ry h;obtain ⟨a,b,xs,ys,rfl,rfl,h1,h2,f1,f2,q⟩:=h;cases rx;cases ry;obtain ⟨us,r1,t1,_⟩:=I.tuple h1;obtain ⟨vs,r2,t2,_⟩:=I.tuple h2;obtain ⟨e,he,eq⟩:=D3 (A:=X.A.in1) (s:=s) r1 r2 f1 f2;refine SeqAt.RcNeAt.tuples (e:=e) t1 t2 hu (fun j z1 z2=>by simpa using he j (by simpa using z1) (by simpa using z2)) _ _ _ _ ⟨.bl (!g9 xs ys),H,I,?_,q⟩
 show _=Value.bool (!g9 xs ys);rw [←eq];simp
theorem boot_isinstance:bootBuiltins "isinstance"=some (.builtin "isinstance"):=by decide +kernel
theorem boot_abs:bootBuiltins "abs"=some (.builtin "abs"):=by decide +kernel
theorem boot_min:bootBuiltins "min"=some (.builtin "min"):=by decide +kernel
theorem boot_int:bootBuiltins "int"=some (.type "int"):=by decide +kernel
theorem boot_bool:bootBuiltins "bool"=some (.type "bool"):=by decide +kernel
theorem boot_tuple:bootBuiltins "tuple"=some (.type "tuple"):=by decide +kernel
theorem boot_list:bootBuiltins "list"=some (.type "list"):=by decide +kernel
end L2
namespace My
open PySem L2
def jN(n:Int):Bool:=(List.range 32).all fun e=>decide (e<2) || decide (n<(e:Int)*(e:Int)) || decide (n % (e:Int)≠0)
variable {n d:Int}
theorem JM(h2:n≤997)(hd:2≤d)(hq:d*d≤n)(hm:n % d=0):jN n=false:=by
 have hd2:d<32:=by
  by_cases h:d<32;·exact h
  ·have:32*32≤d*d:=Int.mul_le_mul (by lia) (by lia) (by lia) (by lia)
   lia
 obtain ⟨k,rfl⟩:∃k:Nat,d=(k:Int):=⟨d.toNat,by lia⟩
 cases e:jN n with
 | false=>rfl
 | true=>
  have z:=xy.mp e k (fB.mpr (by lia))
  simp only [Bool.or_eq_true,decide_eq_true_eq] at z;rcases z with (z | z) | z;·lia
  ·lia
  ·exact absurd hm z
theorem Sn(hq:n<d*d)(hd:2≤d)(hm:∀e:Int,2≤e→e<d→n % e≠0):jN n=true:=by
 refine xy.mpr fun k _=>?_;simp only [Bool.or_eq_true,decide_eq_true_eq];by_cases h1:k<2;·exact .inl (.inl h1)
 ·by_cases h2:n<(k:Int)*(k:Int)
  ·exact .inl (.inr h2)
  ·refine .inr (hm k (by lia) ?_)
   by_cases h3:(k:Int)<d;·exact h3
   ·have:d*d≤(k:Int)*(k:Int):=Int.mul_le_mul (by lia) (by lia) (by lia) (by lia)
    lia
inductive Td where
 | a (w:Str)
 | b (w:Str) (n:Int)
def Td.vs:Td→List V
 | .a w=>[.str w]
 | .b w n=>[.str w,.int n]
def Td.yd:Td→Bool
 | .a w=>decide (w="fractions")
 | .b _ _=>false
def Td.kz:Td→Bool
 | .a _=>false
 | .b w n=>decide (w="wheel") && (decide (2≤n) && decide (n≤997) && jN n)
def Td.good(d:Td):Bool:=d.yd || d.kz
def Td.prime:Td→V
 | .a _=>.bh
 | .b _ n=>.int n
end My
namespace L2
open PySem PySem.Spec PyProof.Rows
abbrev Cx.cw (X:Cx) (N:List Str) (scope:Scope) (cl:List (Str×Addr)) (s₃:Shared) (H₃:Hp) (fp:List Addr):Cx:=
 {X with N:=N,s₀:=s₃,H₀:=H₃,env:=compEnvC scope cl s₃.heap.objs.size X.env,outer:=X.stack,stack:=X.stack,ex:=fp,fn:=fun _=>false,pn:=[],xe:=fun _ _=>False}
inductive oN (X:Cx):List Expr→TT→Prop where
 | nil:oN X [] (fun _ H Q=>Q true H)
 | one {c:Expr} {t:TT} (h:PT X c t):oN X [c] t
def jO(wi:TI)(ρ:St→St)(tt:TT)(te:TE):TE:=fun σ H Q=>wi σ H fun J H1=>∀D,H1 D=none→∃W:Nat→Nat→List V→Hp→Prop,(∃m,W 0 m [] (upd H1 D (.lst []))) ∧
 ∀i m ys Hc,W i m ys Hc→Hc D=some (.lst ys)∧((J.stop i Hc∧Q (.ref D) Hc)∨(J.go i Hc∧∀x H',J.fm i Hc x H'→tt (some x::ρ σ) H' fun b H2=>
  if b=true then te (some x::ρ σ) H2 fun y H3=>H3 D=some (.lst ys)∧ys.length<sizeLine∧∃m',m'<m∧W (i+1) m' (ys++[y]) (upd H3 D (.lst (ys++[y]))) else ∃m',m'<m∧W (i+1) m' ys H2))
section
variable {X:Cx} {N:List Str} {scope:Scope} {cl:List (Str×Addr)} {x:Str} {px pos:Pos} {iter elt:Expr} {ifs:List Expr} {wi:TI} {ρ:St→St} {tt:TT} {te:TE}
structure D4 (X:Cx) (N:List Str) (scope:Scope) (cl:List (Str×Addr)) (x:Str) (ρ:St→St):Prop where
 AF:closureFor scope X.env=pure cl
 kind:scope.kind=.function
 AG:∀y∈scope.names,y.2≠.cell
 names:∀y∈scope.names,y.2=.local→scope.names.lookup y.1=some .local
 sub:∀p∈cl,X.env.cells.lookup p.1=some p.2
 has:∀y,((relabel scope X.env).names.lookup y=some .cell∨(relabel scope X.env).names.lookup y=some .free)→∃c,cl.lookup y=some c
 n0:N[0]?=some x
 nd:N.Nodup
 hx:scope.names.lookup x=some .local
 AH:∀(σ:St) (j:Nat) (v:V),(ρ σ)[j]?=some (some v)→∃(i:Nat) (y:Str),N[j+1]?=some y∧X.N[i]?=some y∧σ[i]?=some (some v)∧oE X.env.scope y∧(X.env.kindOf y=some .cell∨X.env.kindOf y=some .free)∧((relabel scope X.env).names.lookup y=some .cell∨(relabel scope X.env).names.lookup y=some .free)
 len:∀σ:St,σ.length=X.N.length→(ρ σ).length+1=N.length
theorem JN{names:List (Str×NameKind)}(h:(names.all fun q=>(q.2 != .cell && q.2 != .free) || (cl.lookup q.1).isSome)=true) :
  ∀y,(names.lookup y=some .cell∨names.lookup y=some .free)→∃c,cl.lookup y=some c:=fun y hy=>by
 have key:∀k:NameKind,(k != .cell && k != .free)=false→names.lookup y=some k→∃c,cl.lookup y=some c:=fun k hk e=>by have z:=xy.mp h (y,k) (mQ e);rw [hk,Bool.false_or] at z;exact Option.isSome_iff_exists.mp z
 rcases hy with e | e;·exact key .cell rfl e
 ·exact key .free rfl e
theorem join_some{o:Option (Option V)}{v:V}(h:some o.join=some (some v)):o=some (some v):=by
 cases o with
 | none=>cases h
 | some o=>cases h;rfl
def AJ(X:Cx)(sc:Scope):List Str→List Nat→Prop
 | n::ns,i::is=>(X.N[i]?=some n∧oE X.env.scope n∧(X.env.kindOf n=some .cell∨X.env.kindOf n=some .free)∧((relabel sc X.env).names.lookup n=some .cell∨(relabel sc X.env).names.lookup n=some .free))∧AJ X sc ns is
 | _,[]=>True
 | [],_::_=>False
theorem D5{X:Cx}{sc:Scope}:∀{ns:List Str} {is:List Nat},AJ X sc ns is→∀(σ:St) (j:Nat) (v:V),(is.map fun i=>σ[i]?.join)[j]?=some (some v)→∃(i:Nat) (n:Str),ns[j]?=some n∧X.N[i]?=some n∧σ[i]?=some (some v)∧oE X.env.scope n∧(X.env.kindOf n=some .cell∨X.env.kindOf n=some .free)∧((relabel sc X.env).names.lookup n=some .cell∨(relabel sc X.env).names.lookup n=some .free)
 | _,[],_,_,_,_,e=>by cases e
 | [],_::_,h,_,_,_,_=>h.elim
 | n::_,i::_,h,_,0,_,e=>⟨i,n,rfl,h.1.1,join_some e,h.1.2⟩
 | _::_,_::_,h,σ,j+1,v,e=>D5 h.2 σ j v e
theorem fP(is:List Nat)(h1:closureFor scope X.env=pure cl)(h:AJ X scope N.tail is:=by repeat' first | exact True.intro | refine And.intro ⟨rfl,Or.inr (Or.inl rfl),.inl rfl,.inl rfl⟩ ?_)(h2:scope.kind=.function:=by rfl)(h3:∀y∈scope.names,y.2≠.cell:=by decide +kernel)(h4:∀y∈scope.names,y.2=.local→scope.names.lookup y.1=some .local:=by decide +kernel)(h5:∀p∈cl,X.env.cells.lookup p.1=some p.2:=by repeat' first | exact List.forall_mem_nil _ | refine List.forall_mem_cons.mpr ⟨rfl,?_⟩)(h6:((relabel scope X.env).names.all fun q=>(q.2 != .cell && q.2 != .free) || (cl.lookup q.1).isSome)=true:=by rfl)(h7:N[0]?=some x:=by rfl)(h8:N.Nodup:=by decide +kernel)(h9:scope.names.lookup x=some .local:=by rfl)(hr:∀σ:St,ρ σ=is.map fun i=>σ[i]?.join:=by exact fun _=>rfl)(hl:is.length+1=N.length:=by rfl):D4 X N scope cl x ρ:=
 ⟨h1,h2,h3,h4,h5,JN h6,h7,h8,h9,fun σ j v e=>by rw [hr] at e;rw [←List.getElem?_tail];exact D5 h σ j v e,fun σ _=>by rw [hr,aG];exact hl⟩
theorem iu(B:D4 X N scope cl x ρ)(hc:X.calm=true)(hi:PI X (.Name x px) iter wi)(ht:∀s₃ H₃ fp,oN (X.cw N scope cl s₃ H₃ fp) ifs tt)(he:∀s₃ H₃ fp,PE (X.cw N scope cl s₃ H₃ fp) elt te)
  (hs:∀x,foldedSetIterable iter X.env x=pure x:=by intro _;rfl):PE X (.ListComp elt [⟨.Name x px,iter,ifs,0⟩] scope pos) (jO wi ρ tt te):=by
 intro pins s σ H Q I h
 rw [eval_ListComp]
 refine Dg (use:=none) rfl hs B.AF B.kind B.names (aS (hi pins s σ H _ I h) fun v s1 h1=>aS h1 fun xZ s2 h2=>?_)
 obtain ⟨it,fp,tn,J,H2,rfl,I2,T,gY,f2,q2⟩:=h2
 have nD:H2 s2.heap.objs.size=none:=I2.aC.fresh (aE _)
 obtain ⟨W,⟨m0,w0⟩,turn⟩:=q2 _ nD
 refine oq (wpAny_newFunctionEnv B.AG (by intro y hy;simp at hy) (fun h₁ je jf=>?_) B.kind)
 dsimp only at je jf ⊢
 generalize hD:s2.heap.objs.size=D at nD w0 turn je jf ⊢
 generalize g_:({s2 with heap:=s2.heap.push {cls:=.type "list",dict:=none,data:=.seq ([]:List Value).toArray}}:Shared)=s3
 have I3:Inv X pins σ (upd H2 D (.lst [])) s3:=by
  subst hD g_
  exact I2.laid (t':=s2.toks) (fun b u e=>dy _ e) (aE _) ⟨cN _,[],_,.nil,fZ _ rfl⟩
 have e3:s3.heap=s2.heap.push {cls:=.type "list",dict:=none,data:=.seq ([]:List Value).toArray}:=by rw [←g_]
 have jg:∀b o,s2.heap.get? b=some o→s3.heap.get? b=some o:=fun b o e=>by rw [e3];exact dy _ e
 rw [←e3] at je jf ⊢
 have below:∀b o,s3.heap.get? b=some o→b≠s3.heap.objs.size:=fun b o e=>dR (cg e)
 have fQ:∀b o,s3.heap.get? b=some o→h₁.get? b=some o:=fun b o e=>jf.extBut b o (below b o e) (dy _ e)
 have lE:∀b∈fp,∃o,s2.heap.get? b=some o∧∀v,o.data≠.cell v:=T.obj _ _ gY
 have ye:∀b∈fp,b≠D:=fun b hb z=>by
  obtain ⟨o,e,_⟩:=lE b hb
  rw [z,←hD] at e
  exact absurd (cg e) (iF _)
 have fg:∀y c,cl.lookup y=some c→X.env.cells.lookup y=some c:=fun y c e=>B.sub (y,c) (mQ e)
 have yf:=I3.xP
 have eM:(X.cw N scope cl s3 (upd H2 D (.lst [])) fp).Ok:=by
  refine ⟨I.ok.mod,B.kind,I.ok.glob,I.ok.blt,aE _,fun a b c e1 e2=>I.ok.inj a b c (fg a c e1) (fg b c e2),fun y hy=>B.has y hy,(fun _ _ z _=>absurd z dZ),(fun _=>I.ok.hd hc),I.ok.frames,.inl rfl,fun b hb=>⟨?_,fun y c e z=>?_⟩,fun b o e=>?_,aj I.ok.jF I3.sz,fun b o e hb=>?_,fun b hb z=>?_,I3.stack,yf⟩
  ·obtain ⟨o,e,_⟩:=lE b hb
   exact below b o (jg b o e)
  ·exact (f2 b hb).2.2.2.2.1 y c (fg y c e) z
  ·exact I3.bs b o e
  ·rcases (f2 b hb).2.2.2.1 with z | z
   ·exact I.ok.pX b o e z
   ·exact absurd (fh (cg e) (aj I.ok.jF z)) (iF _)
  ·rcases cH.mp (I3.xO b z) with z | z
   ·exact (f2 b hb).2.1 z
   ·exact (f2 b hb).2.2.1 z
 have IB:∀tk:Nat,Inv (X.cw N scope cl s3 (upd H2 D (.lst [])) fp) [] (none::ρ σ) (upd H2 D (.lst [])) {s3 with heap:=h₁,toks:=tk}:=fun tk=>by
  refine ⟨eM,rfl,I3.bare,Un.kept fQ,⟨_,je,fun j y v e1 e2 e3=>?_⟩,fun y c e=>?_,?_,fun y c e=>I3.ko y c (fg y c e),(fun p hp=>nomatch hp),I3.aC.kept fQ,?_⟩
  ·cases j with
   | zero=>cases e2
   | succ j=>
    obtain ⟨i,y',a1,a2,a3,a4,a5,a6⟩:=B.AH σ j v e2
    have yg:N[j+1]?=some y:=e1
    rw [yg] at a1
    cases a1
    obtain ⟨m,hn,hl⟩:=I3.loc
    obtain ⟨u,r,l⟩:=hl i y v a2 a3 a4
    refine ⟨u,r,.inr ⟨a6,?_⟩⟩
    obtain ⟨c,ec⟩:=B.has y a6
    rcases l with ⟨k,_⟩ | ⟨_,c',oO,z⟩
    ·rcases a5 with q | q <;> (rw [k] at q;cases q)
    ·have:=fg y c ec
     rw [this] at oO
     cases oO
     obtain ⟨o,ho,hd⟩:=z
     exact ⟨c,ec,o,fQ _ _ ho,hd⟩
  ·obtain ⟨v,o,ho,hd⟩:=I3.cell y c (fg y c e)
   exact ⟨v,o,fQ _ _ ho,hd⟩
  ·exact I3.aC.fresh (aE _)
  ·show (none::ρ σ).length=N.length
   rw [d8]
   exact B.len σ I.len
 have fin:∀{σ':St} {H':Hp} {s':Shared},Inv (X.cw N scope cl s3 (upd H2 D (.lst [])) fp) [] σ' H' s'→Q (.ref D) H'→compPost (model X.prog X.w) X.A X.xe none (EP X pins σ Q) (.ref D) s3.heap.objs.size (.ok .next) s':=fun{σ' H' s'} J q=>by
  obtain ⟨m,hn,_⟩:=J.loc
  refine ⟨m,hn,fun h' jh=>⟨.ref D,H',?_,rfl,q⟩⟩
  have old:∀b o,s3.heap.get? b=some o→b≠s3.heap.objs.size:=below
  have u1:Un (cY X.stack) fp (upd H2 D (.lst [])) H' s3.heap h':=by
   refine ⟨fun b o e n hb hx=>?_,fun b o e n hb hx=>?_,J.base.free,fun b o e hx=>?_,J.base.iK,J.base.ie,J.base.iL⟩
   ·exact (jh.2 b (old b o e)).trans (J.base.keep b o e n hb hx)
   ·obtain ⟨sl,z⟩:=J.base.slot b o e n hb hx
    exact ⟨sl,(jh.2 b (old b o e)).trans z⟩
   ·obtain ⟨o',z⟩:=J.base.there b o e hx
    exact ⟨o',(jh.2 b (old b o e)).trans z⟩
  have yh:cL X.prog X.w H' h':=fun b u e=>by
   refine (J.aC b u e).gf (fun c v hc z=>(jh.2 c fun y=>?_).trans z) (fun _ z=>z) fun _ _ z=>z
   have fr:=J.free
   have y':c=s3.heap.objs.size:=y
   rcases hc with hc | hc
   ·rw [←hc,y'] at e
    exact absurd (fr.symm.trans e) (by simp)
   ·rw [y'] at hc
    exact absurd (fr.symm.trans hc) (by simp)
  refine I3.oF (s':={s' with heap:=h'}) (ch:=fp) (J.os) u1 yh J.bare fun b hb=>?_
  obtain ⟨g0,g1,g2,g3,g4,g5⟩:=f2 b hb
  exact ⟨g3,g1,g4,g5⟩
 have iP:∀{H':Hp},(∀b∈fp,H' b=none)→∀b∈fp,ni (X.cw N scope cl s3 (upd H2 D (.lst [])) fp) [] H' b:=fun hn b hb=>by
  refine ⟨hn b hb,?_,?_,.inl hb,fun y c e z=>(f2 b hb).2.2.2.2.1 y c (fg y c e) z,fun p hp=>nomatch hp⟩
  ·obtain ⟨o,e,_⟩:=lE b hb
   exact below b o (jg b o e)
  ·exact eM.pY b hb
 have loop:∀tk:Nat,codeAny (model X.prog X.w) X.A (.compLoop (.ListComp elt [⟨.Name x px,iter,ifs,0⟩] scope pos) 0 (.ref it) (.ref D) (compEnvC scope cl s3.heap.objs.size X.env))
   (compPost (model X.prog X.w) X.A X.xe none (EP X pins σ Q) (.ref D) s3.heap.objs.size) {s3 with heap:=h₁,toks:=tk}:=fun tk=>by
  refine codeAny_compLoop_tests (fun n s'=>∃i ys o H',Inv (X.cw N scope cl s3 (upd H2 D (.lst [])) fp) [] (o::ρ σ) H' s'∧tn i s'.heap∧(∀b∈fp,H' b=none)∧W i n ys H') ?_ m0
   ⟨0,[],none,_,IB tk,T.keep _ _ _ gY fun b hb o e=>fQ _ _ (jg _ _ e),fun b hb=>by rw [a9 (ye b hb)];exact (f2 b hb).1,w0⟩
  rintro n s4 ⟨i,ys,o,H4,I4,oP,oQ,w4⟩
  obtain ⟨JO,yi⟩:=turn i n ys H4 w4
  rcases yi with ⟨stop,qn⟩ | ⟨go,step⟩
  ·refine dw (T.done (X.cw N scope cl s3 (upd H2 D (.lst [])) fp) rfl rfl rfl hc i [] s4 _ H4 (fun _ _=>False) I4 (iP oQ) oP stop) (fun r s5 ⟨hr,I5⟩=>?_) fun _ _ z=>z.elim
   subst hr
   exact fin I5 qn
  ·refine dw (T.item (X.cw N scope cl s3 (upd H2 D (.lst [])) fp) rfl rfl rfl hc i [] s4 _ H4 (fun _ _=>False) I4 (iP oQ) oP go) (fun r s5 ⟨u,hr,h5⟩=>?_) fun _ _ z=>z.elim
   subst hr
   have z:letOwnedTupleGo (.Name x px) (.ref it) u=pure ():=rfl
   rw [z] at h5
   show wpAny _ _ ((pure ():Sem Unit) >>= fun _=>assign (.Name x px) (compEnvC scope cl s3.heap.objs.size X.env) u) _ _ s5
   refine bI (dw h5 (fun _ s5 ⟨y,H5,I5,r5,y5,iQ,qd⟩=>?_) fun _ _ z=>z.elim)
   have qe:=I5.pinned (iP qd) (T.obj _ _ iQ)
   have pg:PG (X.cw N scope cl s3 (upd H2 D (.lst [])) fp) (.Name x px) (bH 0):=eh (i:=0) B.nd B.n0 (.inl (ox B.hx)) (.inr (ox B.hx))
   have again:∀{σ7:St} {H7:Hp} {s7:Shared},Inv (X.cw N scope cl s3 (upd H2 D (.lst [])) fp) ([]++ma fp s5.heap) σ7 H7 s7→Inv (X.cw N scope cl s3 (upd H2 D (.lst [])) fp) [] σ7 H7 s7∧tn (i+1) s7.heap∧∀b∈fp,H7 b=none:=fun{σ7 H7 s7} I7=>by
    refine ⟨I7.tZ,T.keep _ _ _ iQ fun b hb o e=>(I7.pin (b,o) (fC _ (fC _ (oI hb e)))).1,fun b hb=>?_⟩
    obtain ⟨o,e,d⟩:=T.obj _ _ iQ b hb
    exact (I7.pin (b,o) (fC _ (fC _ (oI hb e)))).2.1
   refine dw (pg _ s5 _ H5 y u (fun σ2 H6=>σ2=some y::ρ σ∧H6=H5) qe r5 ⟨rfl,rfl⟩) (fun _ s6 ⟨σ6,H6,I6,q6⟩=>?_) fun _ _ z=>z.elim
   obtain ⟨rfl,rfl⟩:=q6
   have yj:=step y _ y5
   have tests:∀{lF:TT},oN (X.cw N scope cl s3 (upd H2 D (.lst [])) fp) ifs lF→∀{R:Bool→Hp→Prop},lF (some y::ρ σ) H6 R→wpAny (model X.prog X.w) X.A
     (forIn ifs true fun c r=>if r=true then do let ok ←isTrue c (compEnvC scope cl s3.heap.objs.size X.env) (eval c (compEnvC scope cl s3.heap.objs.size X.env));pure (ForInStep.yield ok) else pure (ForInStep.yield r))
     (fun ok s7=>∃H7,Inv (X.cw N scope cl s3 (upd H2 D (.lst [])) fp) ([]++ma fp s5.heap) (some y::ρ σ) H7 s7∧R ok H7) (fun _ _=>False) s6:=fun{lF} p {R} hR=>by
    cases p with
    | nil=>exact wpAny_tests_nil ⟨_,I6,hR⟩
    | one p=>exact wpAny_tests_one (p _ s6 _ _ _ I6 hR)
   refine dw (tests (ht s3 _ fp) yj) (fun ok s7 ⟨H7,I7,q7⟩=>?_) fun _ _ z=>z.elim
   cases ok with
   | false=>
    obtain ⟨m',ji,w7⟩:=q7
    obtain ⟨a1,a2,a3⟩:=again I7
    exact ⟨m',ji,i+1,ys,_,H7,a1,a2,a3,w7⟩
   | true=>
    refine dw (he s3 _ fp _ s7 _ H7 _ I7 q7) (fun ev s8 ⟨z,H8,I8,r8,yk,hz,m',ji,w8⟩=>?_) fun _ _ z=>z.elim
    refine dw (Av (X:=X.cw N scope cl s3 (upd H2 D (.lst [])) fp) _ s8 _ H8 (.ref D) [z] (.ref D) [ev] (fun _ H9=>H9=upd H8 D (.lst (ys++[z]))) I8 rfl (.cons r8 .nil) ⟨D,ys,z,rfl,rfl,yk,hz,rfl⟩) (fun _ s9 ⟨_,H9,I9,_,q9⟩=>?_) fun _ _ z=>z.elim
    subst q9
    obtain ⟨a1,a2,a3⟩:=again I9
    exact ⟨m',ji,i+1,ys++[z],_,_,a1,a2,a3,w8⟩
 have start:=loop (s3.toks+([]:List (Str×Value)).length)
 have es:({s3 with heap:=h₁,toks:=s3.toks+([]:List (Str×Value)).length}:Shared)={s2 with heap:=h₁,toks:=s2.toks+([]:List (Str×Value)).length}:=by rw [←g_]
 rw [es] at start
 exact Dh start (T.self _ 0 _ _ _ (T.keep _ _ _ gY fun b hb o e=>fQ _ _ (jg _ _ e)) start)
end
def a8(i:Int):Prop:=i.natAbs<2 ^ 2048
variable {i:Int}
theorem a8.log(h:a8 i):i.natAbs.log2<2048:=by
 by_cases z:i.natAbs=0;·rw [z];decide
 ·exact (Nat.log2_lt z).mpr h
def AK(i j:Int):Prop:=j≠0∧a8 j
def D6(i j:Int):Prop:=a8 i∧a8 j
theorem D6.ok{j:Int}(h:D6 i j):IntMulOk i j:=by
 have b:∀{k:Int},a8 k→Builtin.Int.intBits k≤2048:=fun{k} hk=>by
  have z:=hk.log;unfold Builtin.Int.intBits
  split <;> lia
 unfold IntMulOk;have e:Builtin.Int.intTooBig ((Builtin.Int.intBits i:Int)+(Builtin.Int.intBits j:Int))=false:=by
  unfold Builtin.Int.intTooBig;have h1:=b h.1;have h2:=b h.2;have h3:(4096:Int)≤bitsLine:=by decide +kernel
  exact eC (by lia)
 intro z;rw [xv] at z;have z2:=z.2;rw [show Builtin.Int.intTooBig ((Builtin.Int.intBits i:Int)+(Builtin.Int.intBits j:Int))=false from e] at z2;cases z2
theorem JP:∀{xs:List V} {us:List Value},xs.length=us.length→(∀(i:Nat) (x:V) (u:Value),xs[i]?=some x→us[i]?=some u→RelV x u)→Vals xs us
 | [],[],_,_=>.nil
 | [],_::_,h,_=>by simp at h
 | _::_,[],h,_=>by simp at h
 | x::xs,u::us,h,k=>.cons (k 0 x u rfl rfl) (JP (by simpa using h) fun i a b h1 h2=>k (i+1) a b (by simpa using h1) (by simpa using h2))
section
variable {X:Cx}
theorem yl:cP X (binaryOp .FloorDiv) (rI AK fun i j=>.int (i.fdiv j)):=qg fun _ _ _ _ _ _ _ hc q=>floordiv_int hc.1 q (.inl (PyProof.noPylong_of_log2 (fh hc.2.log (by decide))))
theorem eN:cP X (binaryOp .Mult) (rI D6 fun i j=>.int (i*j)):=qg fun _ _ _ _ _ _ _ hc q=>mul_int q hc.ok
def So(i j:Int):Prop:=0<j∧a8 j
theorem kA:cP X (binaryOp .FloorDiv) (rI So fun i j=>.int (i / j)):=qg fun i j _ _ _ _ _ hc q=>floordiv_int (Int.ne_of_gt hc.1) (by rw [zP i (Int.le_of_lt hc.1)];exact q) (.inl (PyProof.noPylong_of_log2 (fh hc.2.log (by decide))))
def allR(K:aB):List V→Hp→VK→Prop:=fun xs H Q=>∃(p:Addr) (bs:List Bool),xs=[.ref p]∧aZ K H p (bs.map V.bl)∧Q (.bl (bs.all id)) H
theorem JQ{K:aB}(hc:X.calm=true)(hK:X.K=K:=by rfl):ig X (.builtin "all") (allR K):=by
 intro pins s σ H xs us Q I r h;subst hK;obtain ⟨p,bs,rfl,hq,q⟩:=h;obtain ⟨u,rfl,ru⟩:=vals1 r;cases ru;obtain ⟨ak,rv,pl,hz⟩:=I.list hq;have fI:p≠s.heap.objs.size:=by obtain ⟨o,e,_⟩:=pl.isList;exact dR (cg e)
 have hl:ak.length=bs.length:=by rw [←rv.length,aG]
 refine call_all_walk (zO pl.isList ?_);refine ⟨s.heap.objs.size,_,_,_,_,_,fun i=>bs.getD i true,rfl,Walks.list (A:=X.A.in1) (show X.A.in1.handled=none from I.ok.hd hc) s.heap.objs.size p fI ak.toArray,⟨⟨_,fZ _ rfl,rfl,rfl⟩,pl.isList.push _⟩,fun i v s' Q' E' hv jI=>?_,fun h' tk hk=>?_⟩
 ·have iq:ak[i]?=some v:=by simpa using hv
  cases eb:bs[i]? with
  | none=>
   have:=rv.none_of (i:=i) (by rw [cB,eb];rfl)
   rw [this] at iq;cases iq
  | some b=>
   obtain ⟨u,hu,ru⟩:=rv.get (i:=i) (x:=V.bl b) (by rw [cB,eb];rfl)
   rw [hu] at iq;cases iq;cases ru;have e:bs.getD i true=b:=by rw [d9,eb];rfl
   have jj:Q' (bs.getD i true) s':=jI;rw [e] at jj;exact mO jj
 ·refine ⟨.bl (bs.all id),H,I.kept fun b o e=>hk b o (fun z=>?_) (dy _ e),?_,q⟩
  ·exact absurd (cg e) (by rw [gA.mp z];exact iF _)
  ·show Value.bool _=Value.bool _
   congr 1
   rw [df,hl];clear hk q rv pl hz hl hq
   induction bs with
   | nil=>rfl
   | cons b bs ih=>rw [d8,zU,List.all_cons,List.all_map,List.all_cons];show (b && (List.range bs.length).all fun i=>bs.getD i true)=(b && bs.all id);rw [ih]
def Sq:List V→Hp→VK→Prop:=fun xs H Q=>∃j:Int,xs=[.int j]∧∀p,H p=none→Q (.ref p) (upd H p (.k_ 0 j))
theorem JR:ig X (.type "range") Sq:=by intro pins s σ H xs us Q I r h;obtain ⟨j,rfl,q⟩:=h;obtain ⟨u,rfl,ru⟩:=vals1 r;obtain ⟨t,rfl⟩:=ru;refine call_range_1 ⟨.ref s.heap.objs.size,_,I.laid (o:=.k_ 0 j) (fun b o e=>dy _ e) (aE _) ⟨_,_,_,fZ _ rfl⟩,rfl,q _ (I.aC.fresh (aE _))⟩
def mh(n:Nat):List V:=(List.range n).map fun i:Nat=>V.int (i:Int)
def Sr:List V→Hp→VK→Prop:=fun xs H Q=>∃p n,xs=[.ref p]∧H p=some (.k_ 0 (n:Nat))∧n≤10000∧∀l,H l=none→Q (.ref l) (upd H l (.lst (mh n)))
theorem JS(hc:X.calm=true):ig X (.type "list") Sr:=by
 intro pins s σ H xs us Q I r h;obtain ⟨p,n,rfl,hp,hn,q⟩:=h;obtain ⟨u,rfl,ru⟩:=vals1 r;cases ru;obtain ⟨t,u,v,e⟩:=(show da X.prog X.w H s.heap p (.k_ 0 n) from I.aC p _ hp);refine call_list_range (n:=n) (I.ok.hd hc) e (small_one (by lia) (by lia) (by lia) (by lia)) (by rw [rangeSize_one];split <;> lia) (by lia) fun h' tk acc c hk hD hit=>?_
 refine ⟨.ref s.heap.objs.size,_,I.laid (o:=.lst (mh n)) (fun b o e=>hk b o e) (aE _) ⟨?_,acc.toList,c,?_,?_⟩,rfl,q _ (I.aC.fresh (aE _))⟩
 ·unfold mh
  rw [aG,cK];exact aj hn (by decide)
 ·refine JP ?_ fun i x u h1 h2=>?_
  ·unfold mh
   rw [aG,cK,zM,hit.1]
  ·have qr:acc[i]?=some u:=by simpa using h2
   obtain ⟨uc,e'⟩:=hit.2 i u qr;unfold mh at h1;rw [cB] at h1;have hi:i<n:=by have z:=(Array.getElem?_eq_some_iff.mp qr).1;rw [hit.1] at z;exact z
   rw [pL hi] at h1;cases h1;exact ⟨uc,by rw [e'];simp⟩
 ·rw [hD]
end
theorem boot_all:bootBuiltins "all"=some (.builtin "all"):=by decide +kernel
theorem JT:bootBuiltins "range"=some (.type "range"):=by decide +kernel
def D7:Expr→Bool
 | .Starred _ _=>false
 | _=>true
variable {e:Expr} {es:List Expr}
theorem Ss{env:Env}(h:D7 e=true):starEach (e::es) env=(false,eval e env)::starEach es env:=by cases e <;> first | rfl | cases h
theorem eA{X:Cx}{e:Expr}{es:List Expr}{te:TE}{t:TA}(hs:D7 e=true)(ha:PE X e te)(hr:PA X es t):PA X (e::es) (ql te t):=
 Q3 ha hr (Ss hs)
variable {X:Cx} {te:TE}
theorem aa{t:TA}(ha:PE X e te)(hr:PA X es t)(hs:D7 e=true:=by rfl):PA X (e::es) (ql te t):=eA hs ha hr
theorem D8{X:Cx}{pos:Pos}{i:Nat}{x:Str}{e:Expr}{te:TE}{pos':Pos}(hs:swapsWith e (some (.Name x pos')) pos.line X.env=pure false)(hf:X.fn x=true∨X.env.scope.names.lookup x=some .local)(hN:X.N.Nodup)(hi:X.N[i]?=some x)(hx:Loc X.env.scope x)(he:PE X e te) :
  PS X (.Assign [.Name x pos'] e pos) (qb te (bH i)):=Qf hN hi hx he hs hf
variable {pos pos':Pos} {x:Str}
theorem putL(i:Nat)(hN:X.N.Nodup)(he:PE X e te)(hs:swapsWith e (some (.Name x pos')) pos.line X.env=pure false:=by rfl)(hi:X.N[i]?=some x:=by rfl)(hx:X.env.scope.names.lookup x=some .local:=by rfl) :
  PS X (.Assign [.Name x pos'] e pos) (qb te (bH i)):=D8 hs (.inr hx) hN hi (.inl hx) he
theorem fJ(i:Nat)(hN:X.N.Nodup)(he:PE X e te)(hs:swapsWith e (some (.Name x pos')) pos.line X.env=pure false:=by rfl)(hf:X.fn x=true∨X.env.scope.names.lookup x=some .local:=by first | exact .inl rfl | exact .inr rfl | assumption)(hi:X.N[i]?=some x:=by rfl)(hx:X.env.scope.names.lookup x=some .cell:=by rfl) :
  PS X (.Assign [.Name x pos'] e pos) (qb te (bH i)):=D8 hs hf hN hi (.inr hx) he
def Su:V→List V→Hp→VK→Prop:=fun x xs H Q=>∃i:Int,x=.int i∧xs=[]∧Q (.int ((Builtin.Int.intBits i:Nat):Int)) H
theorem Sv:DK X "int.bit_length" Su:=by intro pins s σ H x xs v us Q I rx rv h;obtain ⟨i,rfl,rfl,q⟩:=h;have D9:=rv.zero;subst D9;obtain ⟨t,rfl⟩:=rx;exact call_int_bit_length ⟨.int ((Builtin.Int.intBits i:Nat):Int),H,I.tok _,⟨_,rfl⟩,q⟩
theorem Sx(h:a8 i):Builtin.Int.intBits i≤2048:=by
 have z:=h.log;unfold Builtin.Int.intBits
 split <;> lia
end L2
namespace My
open PySem L2
theorem D_(a b:Str):decide (V.str a=V.str b)=decide (a=b):=by
 by_cases h:a=b;·subst h;simp
 ·rw [eC h];exact eC fun e=>h (V.str.inj e)
theorem iW(a b:Int):decide (V.int a=V.int b)=decide (a=b):=by
 by_cases h:a=b;·subst h;simp
 ·rw [eC h];exact eC fun e=>h (V.int.inj e)
variable {K:aB}
theorem nC{T:String}:PySem.W.kitOne K (.type T) (.type T)=some true:=by unfold PySem.W.kitOne;rw [ai (beq_self_eq_true _)]
variable {H:Hp}
theorem aO{p:Addr}{o:HO}(h:H p=none):ag H (upd H p o):=fun b u e=>by rw [a9 (gX e h)];exact e
variable {i:Int}
theorem JU{α:Type}{xs:List α}(h0:0≤i)(h1:i<xs.length):∃v,d5 xs i=some v∧v∈xs:=by
 obtain ⟨k,rfl⟩:∃k:Nat,i=(k:Int):=⟨i.toNat,by lia⟩
 have hk:k<xs.length:=by lia
 exact ⟨xs[k],iS (by simp [hk]),dD _⟩
theorem jP(v:V):([(("prime":Str),v)]:List (Str×V)).lookup ("prime":Str)=some v:=by simp [List.lookup]
inductive Any (H:Hp):V→Prop where
 | bh:Any H .bh
 | bl (b:Bool):Any H (.bl b)
 | int (i:Int):Any H (.int i)
 | str (x:Str):Any H (.str x)
 | lst {a:Addr} {xs:List V} (e:H a=some (.lst xs)):Any H (.ref a)
 | tup {a:Addr} {xs:List V} (e:H a=some (.tup xs)):Any H (.ref a)
 | ub {a:Addr} (e:H a=some (JJ a)):Any H (.ref a)
def ud:V→Bool
 | .int _=>true
 | _=>false
def ue:V→Bool
 | .bl _=>true
 | _=>false
def AL(H:Hp):V→Bool
 | .ref a=>(match H a with | some (.tup _)=>true | _=>false)
 | _=>false
variable {v:V}
theorem Any.DZ(h:Any H v):∃T:String,yc K H v (.type T)∧PySem.W.kitOne K (.type T) (.type "int")=some (ud v || ue v)∧PySem.W.kitOne K (.type T) (.type "bool")=some (ue v) ∧
  PySem.W.kitOne K (.type T) (.type "tuple")=some (AL H v):=by
 cases h with
 | bh=>exact ⟨"NoneType",.of .bh,rfl,rfl,rfl⟩
 | bl b=>exact ⟨"bool",.of (.bl b),rfl,rfl,rfl⟩
 | int i=>exact ⟨"int",.of (.int i),rfl,rfl,rfl⟩
 | str x=>exact ⟨"str",.of (.str x),rfl,rfl,rfl⟩
 | lst e=>exact ⟨"list",.of (.lst e),rfl,rfl,by unfold AL;dsimp only;rw [e];rfl⟩
 | tup e=>exact ⟨"tuple",.of (.tup e),rfl,rfl,by unfold AL;dsimp only;rw [e];rfl⟩
 | ub e=>exact ⟨"dict",.ub e,rfl,rfl,by unfold AL;dsimp only;rw [e];rfl⟩
theorem Sy(h:ue v=true):ud v=false:=by cases v <;> first | rfl | cases h
theorem fK{m:Str}(e:(m == ("prime":Str))=false):([(("prime":Str),v)]:List (Str×V)).lookup m=none:=by simp [List.lookup,e]
theorem JV(m n:Nat):Nat.gcd n (m % n)=Nat.gcd m n:=by rw [Nat.gcd_comm n,←Nat.gcd_rec,Nat.gcd_comm]
theorem AM(a:Int):(if a<0 then -a else a)=(a.natAbs:Int):=by split <;> lia
def lowG(a b:Int):Int:=if b<0 then 0-(Int.gcd a b:Int) else (Int.gcd a b:Int)
variable {a b:Int}
theorem qt(h:b≠0):0<Int.gcd a b:=pM _ (j6.mpr h)
theorem Sz(h:b≠0)(m:a8 b):Int.gcd a b<2 ^ 2048:=fE (Nat.gcd_le_right _ (j6.mpr h)) m
theorem JW(h:b≠0)(m:a8 b):AK 0 (lowG a b):=by
 have h1:=qt (a:=a) h;have h2:=Sz (a:=a) h m;unfold lowG;refine ⟨by split <;> lia,?_⟩
 unfold a8
 split
 ·rw [show (0-(Int.gcd a b:Int)).natAbs=Int.gcd a b by lia];exact h2
 ·rw [Int.natAbs_natCast];exact h2
theorem a8.of_lt(h1:-(10 ^ 70)<i)(h2:i<10 ^ 70):a8 i:=by
 have h3:i.natAbs<2 ^ 240:=by lia
 exact fh h3 (tQ (by decide) (by decide))
def SA:Sp:=fun vs H Q _=>∃v:V,vs=[v]∧Any H v∧Q (.bl (ud v)) H
def SD:Sp:=fun vs H Q _=>∃a b:Int,vs=[.int a,.int b]∧a8 b∧Q (.int (Int.gcd a b:Int)) H
def SE:Sp:=fun vs H Q _=>∃n:Int,vs=[.int n]∧2≤n∧n≤997∧Q (.bl (jN n)) H
def SF:Sp:=fun vs H Q _=>∃(p:Addr) (d:Td),vs=[.ref p]∧H p=some (.tup d.vs)∧Q (.bl d.yd) H
def SG:Sp:=fun vs H Q _=>∃(p:Addr) (d:Td),vs=[.ref p]∧H p=some (.tup d.vs)∧Q (.bl d.kz) H
def SH(C N:Addr):Sp:=fun vs H Q E=>∃(x dx p:Addr) (d:Td),vs=[.ref x,.ref p]∧H x=some (.ins C dx [])∧H p=some (.tup d.vs) ∧
 (d.good=true→Q .bh (upd H x (.ins C dx [("prime",d.prime)])))∧(d.good=false→E (.ref N) none H)
def dj(C:Addr)(H:Hp)(x:Addr)(q:Int):Prop:=∃dx,H x=some (.ins C dx [("prime",if q=0 then .bh else .int q)])
variable {H':Hp} {q:Int}
theorem dj.mono{C:Addr}{x:Addr}(h:dj C H x q)(s:ag H H'):dj C H' x q:=by obtain ⟨dx,e⟩:=h;exact ⟨dx,s _ _ e⟩
def SI:Sp:=fun vs H Q _=>∃a b:Int,vs=[.int a,.int b]∧b≠0∧a8 b∧∀(q:Addr) (H':Hp),ag H H'→H' q=some (.tup [.int (a.fdiv (lowG a b)),.int (b.fdiv (lowG a b))])→Q (.ref q) H'
def AN(K:aB):Sp:=fun vs H Q _=>∃(a:Addr) (ns:List Int),vs=[.ref a]∧aZ K H a (ns.map V.int)∧ns.length≤63∧∀H',Q (.bl true) H'
theorem SJ(xs:List V)(k:Nat):jL xs none (some (k:Int))=xs.take k:=by unfold jL;rw [HT.Rf,HT.Rg,List.drop_zero,Nat.sub_zero];rw [List.take_eq_take_iff];lia
variable {u:Int}
theorem oR{v:Int}(hu:0<u)(h:0<u*v):0<v:=by
 by_cases z:0<v;·exact z
 ·have y:=oz (show v≤0 by lia) (show 0≤u by lia)
  rw [dE] at y;lia
theorem oS(h:∀d:Nat,(d:Int)∣a→(d:Int)∣b→d=1):Int.gcd a b=1:=h _ (mT ..) (lU ..)
variable {d:Nat}
theorem oT(h:Int.gcd a b=1)(h1:(d:Int)∣a)(h2:(d:Int)∣b):d=1:=by have z:(d:Int)∣((Int.gcd a b:Nat):Int):=Int.dvd_coe_gcd h1 h2;rw [h] at z;exact Nat.dvd_one.mp (Int.natCast_dvd_natCast.mp z)
variable {c:Int}
theorem qu(h:Int.gcd b c=1)(h1:(d:Int)∣b)(h2:(d:Int)∣a*c):(d:Int)∣a:=by
 have hc:Nat.Coprime d c.natAbs:=by have z:Nat.Coprime b.natAbs c.natAbs:=h;exact Nat.Coprime.coprime_dvd_left (Int.ofNat_dvd_left.mp h1) z
 have z:d∣a.natAbs*c.natAbs:=by rw [←b_];exact Int.ofNat_dvd_left.mp h2
 exact Int.ofNat_dvd_left.mpr (hc.dvd_of_dvd_mul_right z)
theorem oU(h1:Int.gcd a b=1)(h2:Int.gcd a c=1):Int.gcd a (b*c)=1:=by refine oS fun d x y=>?_;exact oT h1 x (qu (a:=b) (b:=a) (c:=c) h2 x y)
theorem iX(h:Int.gcd a b=1):Int.gcd b a=1:=by rw [Int.gcd_comm];exact h
theorem uf(h:Int.gcd a b=1)(h1:c∣a):Int.gcd c b=1:=oS fun d x y=>oT h (jA x h1) y
theorem ug(h:b≠0):Int.gcd (a / (Int.gcd a b:Int)) (b / (Int.gcd a b:Int))=1:=by have z:0<Int.gcd a b:=pM _ (j6.mpr h);exact Int.gcd_ediv_gcd_ediv_gcd z
structure cz (x m:Int):Prop where
 pos:1≤m
 jk:Int.gcd x m=1
variable {x m y n:Int}
theorem SK(a:cz x m)(b:cz y n) :
  cz ((x / (Int.gcd x n:Int))*(y / (Int.gcd y m:Int))) ((m / (Int.gcd y m:Int))*(n / (Int.gcd x n:Int))) ∧
   (x / (Int.gcd x n:Int))*(y / (Int.gcd y m:Int))*(m*n)=x*y*((m / (Int.gcd y m:Int))*(n / (Int.gcd x n:Int))):=by
 have m0:=a.pos;have n0:=b.pos;have p1:0<Int.gcd x n:=pM _ (j6.mpr (by lia))
 have p2:0<Int.gcd y m:=pM _ (j6.mpr (by lia))
 have c1:=ug (a:=x) (b:=n) (by lia)
 have c2:=ug (a:=y) (b:=m) (by lia)
 obtain ⟨x',ex⟩:=mT (a:=x) (b:=n);obtain ⟨n',en⟩:=lU (a:=x) (b:=n);obtain ⟨y',ey⟩:=mT (a:=y) (b:=m);obtain ⟨m',em⟩:=lU (a:=y) (b:=m);have ac:=a.jk;have bc:=b.jk;generalize Int.gcd x n=g at *;generalize Int.gcd y m=k at *;have g0:(g:Int)≠0:=by lia
 have k0:(k:Int)≠0:=by lia
 have gx:x / (g:Int)=x':=by rw [ex];exact f9 _ g0
 have gn:n / (g:Int)=n':=by rw [en];exact f9 _ g0
 have gy:y / (k:Int)=y':=by rw [ey];exact f9 _ k0
 have gm:m / (k:Int)=m':=by rw [em];exact f9 _ k0
 rw [gx,gn] at c1;rw [gy,gm] at c2;rw [gx,gn,gy,gm];have mp:0<m':=by
  have z:0<(k:Int)*m':=by rw [←em];lia
  exact oR (by lia) z
 have np:0<n':=by
  have z:0<(g:Int)*n':=by rw [←en];lia
  exact oR (by lia) z
 have xm:Int.gcd x' m'=1:=uf (iX (uf (iX ac) ⟨k,by rw [em,dS]⟩)) ⟨g,by rw [ex,dS]⟩
 have yn:Int.gcd y' n'=1:=uf (iX (uf (iX bc) ⟨g,by rw [en,dS]⟩)) ⟨k,by rw [ey,dS]⟩
 refine ⟨⟨oA mp np,?_⟩,?_⟩;·exact oU (iX (oU (iX xm) (iX c2))) (iX (oU (iX c1) (iX yn)))
 ·rw [ex,en,ey,em]
  simp only [iH,dS,xA]
theorem SO(a:cz x m)(b:cz y n)(h:Int.gcd m n=1):cz (x*n+y*m) (m*n):=by
 have m0:=a.pos;have n0:=b.pos;refine ⟨oA (by lia) (by lia),oU (oS fun d h1 h2=>?_) (oS fun d h1 h2=>?_)⟩
 ·have z:(d:Int)∣x*n:=(Int.dvd_add_left (jA h2 (pN ..))).mp h1
  exact oT a.jk (qu h h2 z) h2
 ·have z:(d:Int)∣y*m:=(Int.dvd_add_right (jA h2 (pN ..))).mp h1
  exact oT b.jk (qu (iX h) h2 z) h2
theorem SQ(a:cz x m)(b:cz y n)(g k:Nat)(eg:g=Int.gcd m n)(top:Int)(et:top=x*(n / (g:Int))+y*(m / (g:Int)))(ek:k=Int.gcd top (g:Int)) :
  cz (top / (k:Int)) (m / (g:Int)*(n / (k:Int)))∧top / (k:Int)*(m*n)=(x*n+y*m)*(m / (g:Int)*(n / (k:Int))):=by
 have m0:=a.pos
 have n0:=b.pos
 have gp:0<g:=by rw [eg];exact pM _ (j6.mpr (by lia))
 have kp:0<k:=by rw [ek];exact pM _ (j6.mpr (by lia))
 have c1:=ug (a:=m) (b:=n) (by lia)
 have c2:=ug (a:=top) (b:=(g:Int)) (by lia)
 rw [←eg] at c1
 rw [←ek] at c2
 obtain ⟨m',em⟩:=mT (a:=m) (b:=n)
 obtain ⟨n',en⟩:=lU (a:=m) (b:=n)
 obtain ⟨t',e1⟩:=mT (a:=top) (b:=(g:Int))
 obtain ⟨g',e2⟩:=lU (a:=top) (b:=(g:Int))
 rw [←eg] at em en
 rw [←ek] at e1 e2
 have g0:(g:Int)≠0:=by lia
 have k0:(k:Int)≠0:=by lia
 have dm:m / (g:Int)=m':=by rw [em];exact f9 _ g0
 have dn:n / (g:Int)=n':=by rw [en];exact f9 _ g0
 have dt:top / (k:Int)=t':=by rw [e1];exact f9 _ k0
 have dg:(g:Int) / (k:Int)=g':=by rw [e2];exact f9 _ k0
 have dk:n / (k:Int)=g'*n':=by rw [en,e2,iH];exact f9 _ k0
 rw [dm,dn] at c1 et
 rw [dt,dg] at c2
 rw [dt,dm,dk]
 have pos:∀{u v:Int},0<u→0<u*v→0<v:=fun hu hz=>oR hu hz
 have mp:0<m':=pos (u:=(g:Int)) (by lia) (by rw [←em];lia)
 have np:0<n':=pos (u:=(g:Int)) (by lia) (by rw [←en];lia)
 have SR:0<g':=pos (u:=(k:Int)) (by lia) (by rw [←e2];lia)
 have tm:Int.gcd top m'=1:=oS fun d h1 h2=>by
  rw [et] at h1
  have z:(d:Int)∣x*n':=(Int.dvd_add_left (jA h2 (pN ..))).mp h1
  exact oT a.jk (qu c1 h2 z) (jA h2 ⟨g,by rw [em,dS]⟩)
 have tn:Int.gcd top n'=1:=oS fun d h1 h2=>by
  rw [et] at h1
  have z:(d:Int)∣y*m':=(Int.dvd_add_right (jA h2 (pN ..))).mp h1
  exact oT b.jk (qu (iX c1) h2 z) (jA h2 ⟨g,by rw [en,dS]⟩)
 have tt:t'∣top:=⟨k,by rw [e1,dS]⟩
 refine ⟨⟨oA mp (oA SR np),oU (uf tm tt) (oU c2 (uf tn tt))⟩,?_⟩
 have q:(k:Int)*t'=x*n'+y*m':=by rw [←e1,et]
 have l:t'*(m*n)=(k:Int)*t'*(m'*(g'*n')*(g:Int)):=by
  rw [em,en]
  conv=>lhs;rw [show (g:Int)*n'=(k:Int)*g'*n' by rw [←e2]]
  simp only [iH,dS,xA]
 rw [l,q,em,en]
 simp only [Int.add_mul,iH,dS,xA]
def cj(x:Int):Prop:=x.natAbs≤10 ^ 300
theorem JX:(10:Nat) ^ 300<2 ^ 2048:=by decide +kernel
theorem cj.mid(h:cj x):a8 x:=fE h JX
theorem cj.over{g:Int}(h:cj x):cj (x / g):=aj (mU x g) h
theorem cj.neg(h:cj x):cj (-x):=by unfold cj;rw [pO];exact h
theorem cj.gcd(h:cj y)(z:y≠0):cj (Int.gcd x y:Int):=by unfold cj;rw [Int.natAbs_natCast];exact aj (Nat.gcd_le_right _ (j6.mpr z)) h
theorem AO(z:y≠0):(0:Int)<(Int.gcd x y:Int):=by have:=qt (a:=x) z;lia
def SS:Sp:=fun vs H Q _=>∃(p q:Addr) (x m y n:Int),vs=[.ref p,.ref q]∧H p=some (.tup [.int x,.int m])∧H q=some (.tup [.int y,.int n])∧cz x m∧cz y n∧cj x∧cj m∧cj y∧cj n ∧
 ∀(r:Addr) (H':Hp) (u d:Int),ag H H'→H' r=some (.tup [.int u,.int d])→cz u d→u*(m*n)=(x*n+y*m)*d→Q (.ref r) H'
def SU:Sp:=fun vs H Q _=>∃(p q:Addr) (x m y n:Int),vs=[.ref p,.ref q]∧H p=some (.tup [.int x,.int m])∧H q=some (.tup [.int y,.int n])∧cz x m∧cz y n∧cj x∧cj m∧cj y∧cj n ∧
 ∀(r:Addr) (H':Hp) (u d:Int),ag H H'→H' r=some (.tup [.int u,.int d])→cz u d→u*(m*n)=(x*n-y*m)*d→Q (.ref r) H'
def SV:Sp:=fun vs H Q _=>∃(p q:Addr) (x m y n:Int),vs=[.ref p,.ref q]∧H p=some (.tup [.int x,.int m])∧H q=some (.tup [.int y,.int n])∧cz x m∧cz y n∧cj x∧cj m∧cj y∧cj n ∧
 ∀(r:Addr) (H':Hp) (u d:Int),ag H H'→H' r=some (.tup [.int u,.int d])→cz u d→u*(m*n)=x*y*d→Q (.ref r) H'
theorem cz.neg(h:cz x m):cz (-x) m:=⟨h.pos,by rw [Int.neg_gcd];exact h.jk⟩
def kB(C:Addr)(fr:Int→Int→Int→Int→Int)(rm:Int→Int→Int):Sp:=fun vs H Q _=>∃(z:Addr) (q:Int) (v u:V),vs=[.ref z,v,u]∧dj C H z q ∧
  ((q=0∧∃(p r:Addr) (x m y n:Int),v=.ref p∧u=.ref r∧H p=some (.tup [.int x,.int m])∧H r=some (.tup [.int y,.int n])∧cz x m∧cz y n∧cj x∧cj m∧cj y∧cj n ∧
    ∀(r':Addr) (H':Hp) (a d:Int),ag H H'→H' r'=some (.tup [.int a,.int d])→cz a d→a*(m*n)=fr x m y n*d→Q (.ref r') H') ∨
   (2≤q∧∃i j:Int,v=.int i∧u=.int j∧0≤i∧i<1000∧Q (.int (rm i j % q)) H))
def aF(p:Int):Prop:=p=0∨(2≤p∧p≤997∧jN p=true)
inductive bC (B:Nat) (H:Hp):Int→V→Int→Int→Prop where
 | bA {p:Addr} {x m:Int} (e:H p=some (.tup [.int x,.int m])) (l:cz x m) (bx:x.natAbs≤B) (bm:m.natAbs≤B):bC B H 0 (.ref p) x m
 | rem {q i:Int} (h0:0≤i) (h1:i<q) (h2:q≤997):bC B H q (.int i) i 1
theorem bC.mono{B:Nat}(h:bC B H q v x m)(s:ag H H'):bC B H' q v x m:=by
 cases h with
 | bA e l bx bm=>exact .bA (s _ _ e) l bx bm
 | rem h0 h1 h2=>exact .rem h0 h1 h2
theorem SW(h:1≤b):∃u d:Int,a.fdiv (lowG a b)=u∧b.fdiv (lowG a b)=d∧cz u d∧u.natAbs≤a.natAbs∧d.natAbs≤b.natAbs:=by
 have hp:=qt (a:=a) (b:=b) (by lia)
 have e:lowG a b=(Int.gcd a b:Int):=by unfold lowG;rw [ao (by lia)]
 rw [e]
 refine ⟨a / (Int.gcd a b:Int),b / (Int.gcd a b:Int),zP _ (by lia),zP _ (by lia),⟨?_,ug (by lia)⟩,mU ..,mU ..⟩
 obtain ⟨b',eb⟩:=lU (a:=a) (b:=b)
 have z:b / (Int.gcd a b:Int)=b':=by
                       conv=>lhs;lhs;rw [eb]
                       exact f9 _ (by lia)
 rw [z]
 exact oR (u:=(Int.gcd a b:Int)) (by lia) (by rw [←eb];lia)
theorem uh{d T B:Int}(l:cz u d)(hB:0<B)(e:u*B=T*d):d≤B∧u.natAbs≤T.natAbs:=by
 have h0:=l.pos;have hd:d∣B:=by
  have z:((d.natAbs:Nat):Int)∣B:=qu (a:=B) (b:=d) (c:=u) (iX l.jk) (Int.natAbs_dvd.mpr (j7 d)) ⟨T*(d / (d.natAbs:Int)),by
   have q:(d.natAbs:Int)=d:=by lia
   rw [q,Int.ediv_self (by lia),d7,dS B u,e,dS]⟩
  exact Int.natAbs_dvd.mp z
 have hle:=xB hB hd;refine ⟨hle,?_⟩;have z:u.natAbs*B.natAbs=T.natAbs*d.natAbs:=by rw [←b_,e,b_]
 have z2:T.natAbs*d.natAbs≤T.natAbs*B.natAbs:=kZ _ (by lia)
 rw [←z] at z2;exact Nat.le_of_mul_le_mul_right z2 (by lia)
theorem JY(h1:2≤q)(h2:q≤997)(hp:jN q=true)(b1:1≤b)(b2:b<q):Int.gcd q b=1:=by
 have gp:0<Int.gcd q b:=pM _ (j6.mpr (by lia))
 by_cases g1:Int.gcd q b=1;·exact g1
 exfalso
 obtain ⟨k,ek⟩:=mT (a:=q) (b:=b);have hb:=xB (by lia) (lU (a:=q) (b:=b))
 generalize Int.gcd q b=g at *;have kp:0<k:=oR (u:=(g:Int)) (by lia) (by rw [←ek];lia)
 have k2:k≠1:=fun z=>by rw [z,d7] at ek;lia
 have no:∀d:Int,2≤d→d*d≤q→q % d=0→False:=fun d x y z=>by rw [JM h2 x y z] at hp;cases hp
 by_cases c:(g:Int)≤k;·exact no g (by lia) (by rw [ek];exact oz c (by lia)) (by rw [ek];exact Int.mul_emod_right ..)
 ·exact no k (by lia) (by rw [ek];exact Int.mul_le_mul_of_nonneg_right (by lia) (by lia)) (by rw [ek];exact Int.mul_emod_left ..)
structure nE (q b last lt now nt:Int):Prop where
 l:∃s,last=lt*b+s*q
 n:∃s,now=nt*b+s*q
 jk:Int.gcd last now=1
 pos:1≤now
 less:now≤last
variable {last nt:Int}
theorem nE.step{lt now:Int}(h:nE q b last lt now nt)(h1:1<now):nE q b now nt (last-last / now*now) (lt-last / now*nt)∧last-last / now*now<now:=by
 obtain ⟨⟨s,es⟩,⟨r,er⟩,c,p,le⟩:=h;have e:last-last / now*now=last % now:=by have z:=Di last now;rw [dS] at z;lia
 have lt1:=gU last (show 0<now by lia)
 have ge:=f_ last (show now≠0 by lia)
 have c':Int.gcd now (last % now)=1:=oS fun d x y=>oT c (by have z:=Di last now;rw [←z];exact tR y (jA x (Int.dvd_mul_right ..))) x
 have nz:last % now≠0:=fun z=>by rw [z,Int.gcd_zero_right] at c';lia
 refine ⟨⟨⟨r,er⟩,⟨s-last / now*r,?_⟩,by rw [e];exact c',by lia,by lia⟩,by lia⟩
 generalize last / now=f;rw [es,er,Int.sub_mul,Int.sub_mul,tS,iH,iH];lia
theorem nE.done{lt:Int}(h:nE q b last lt 1 nt)(hq:2≤q):(nt % q*b) % q=1:=by
 obtain ⟨s,e⟩:=h.n;have z:nt*b=1+(-s)*q:=by rw [tT];lia
 have y:nt % q*b % q=nt*b % q:=by rw [xC (nt % q) b,Int.emod_emod,←xC]
 rw [y,z,Int.add_mul_emod_self_right];exact pP (by lia) (by lia)
theorem nE.start(h1:2≤q)(h2:q≤997)(hp:jN q=true)(b1:1≤b)(b2:b<q):nE q b q 0 b 1:=
 ⟨⟨1,by lia⟩,⟨0,by lia⟩,JY h1 h2 hp b1 b2,b1,by lia⟩
end My
namespace L2
open PySem PySem.Spec PyProof.Rows
def JZ(K:aB):R2:=fun x y H Q=>(∃a xs i,x=.ref a∧y=.int i∧dH K H a xs∧Q (.bl false) H)∨(∃a xs i,x=.int i∧y=.ref a∧dH K H a xs∧Q (.bl false) H)∨AE K false x y H Q∨IE x y H Q
theorem J0{X:Cx}(hu:X.A.units<cLine):cP X (compareOp .Eq) (JZ X.K):=by
 intro pins s σ H x y v u Q I rx ry h;rcases h with ⟨a,xs,i,rfl,rfl,h1,q⟩ | ⟨a,xs,i,rfl,rfl,h1,q⟩ | h | h
 ·cases rx
  obtain ⟨t,rfl⟩:=ry;obtain ⟨us,r1,t1,_⟩:=I.tuple h1;exact SeqAt.RcAt.tuple_int i t t1 hu _ _ _ _ ⟨.bl false,H,I,rfl,q⟩
 ·cases ry
  obtain ⟨t,rfl⟩:=rx;obtain ⟨us,r1,t1,_⟩:=I.tuple h1;exact SeqAt.RcAt.int_tuple i t t1 hu _ _ _ _ ⟨.bl false,H,I,rfl,q⟩
 ·exact JL hu pins s σ H x y v u Q I rx ry h
 ·exact fo pins s σ H x y v u Q I rx ry h
end L2
namespace My
open PySem L2
def SX(N:Addr):Sp:=fun vs H Q E=>∃q b:Int,vs=[.int q,.int b]∧2≤q∧q≤997∧jN q=true∧0≤b∧b<q∧(b=0→E (.ref N) none H)∧(b≠0→∀r:Int,0≤r→r<q→(r*b) % q=1→Q (.int r) H)
def SY(N:Addr):Sp:=fun vs H Q E=>∃(p q:Addr) (x m y n:Int),vs=[.ref p,.ref q]∧H p=some (.tup [.int x,.int m])∧H q=some (.tup [.int y,.int n])∧cz x m∧cz y n∧cj x∧cj m∧cj y∧cj n ∧
 (y=0→E (.ref N) none H)∧(y≠0→∀(r:Addr) (H':Hp) (u d:Int),ag H H'→H' r=some (.tup [.int u,.int d])→cz u d→u*(m*y)=x*n*d→Q (.ref r) H')
def S0(N:Addr):Sp:=fun vs H Q E=>∃q i j:Int,vs=[.int q,.int i,.int j]∧2≤q∧q≤997∧jN q=true∧0≤i∧i<q∧0≤j∧j<q∧(j=0→E (.ref N) none H)∧(j≠0→∀r:Int,0≤r→r<q→(r*j) % q=i→Q (.int r) H)
variable {y n:Int}
theorem S1(l:cz y n)(h:0<y):cz n y:=⟨h,iX l.jk⟩
theorem S2(l:cz y n)(h:y<0):cz (-n) (-y):=⟨by lia,by rw [Int.neg_gcd,Int.gcd_neg];exact iX l.jk⟩
theorem S3{q i j r:Int}(hq:2≤q)(i0:0≤i)(i1:i<q)(h:(r*j) % q=1):(i*r % q*j) % q=i:=by
 have y:i*r % q*j % q=i*(r*j) % q:=by rw [xC (i*r % q) j,Int.emod_emod,←xC,iH]
 rw [y,xC,h,pP i0 i1,d7,pP i0 i1]
def AQ(C N:Addr):Sp:=fun vs H Q E=>∃(z:Addr) (q:Int) (v u:V),vs=[.ref z,v,u]∧dj C H z q ∧
  ((q=0∧∃(p r:Addr) (x m y n:Int),v=.ref p∧u=.ref r∧H p=some (.tup [.int x,.int m])∧H r=some (.tup [.int y,.int n])∧cz x m∧cz y n∧cj x∧cj m∧cj y∧cj n ∧
    (y=0→E (.ref N) none H)∧(y≠0→∀(r':Addr) (H':Hp) (a d:Int),ag H H'→H' r'=some (.tup [.int a,.int d])→cz a d→a*(m*y)=x*n*d→Q (.ref r') H')) ∨
   (2≤q∧∃i j:Int,v=.int i∧u=.int j∧q≤997∧jN q=true∧0≤i∧i<q∧0≤j∧j<q∧(j=0→E (.ref N) none H)∧(j≠0→∀r:Int,0≤r→r<q→(r*j) % q=i→Q (.int r) H)))
end My
namespace L2
open PySem PySem.Spec PyProof.Rows
structure jQ (K:aB) (x qual:Str) (st:Stmt) (i:Int) (f:Addr) (fd:FuncData):Prop where
 ex:∃(oc:Value) (od:Option Addr) (kV doc pm:Value) (an:Option Addr) (bq ct:Value) (gj:Array (Option Value)) (dT:Addr) (tk:Tok) (oV:Value) (oW:Option Addr) (n:Nat) (oX:Array (Option Value)),
  fd=PySem.W.fnOf x qual (jM st) (gF st) (aN st) (.ref dT) kV doc pm an bq ct∧K.lookup f=some ⟨oc,od,.func fd,gj⟩∧PySem.W.codeIn K bq qual=true∧K.lookup dT=some ⟨oV,oW,.seq #[.int i tk] n,oX⟩
 kp:PySem.W.keepIn K (.ref f)=true
section
variable {P:Program} {w:World} {K:aB} {mg:dG} {base:Heap}
variable {x qual:Str} {st:Stmt} {i:Int} {f:Addr} {fd:FuncData} {ps:List Str}
theorem jQ.DY{N:List Str}{k:Nat}{sp:Sp}(F:jQ K x qual st i f fd)(S:bG N ps (aN st))(len:∀vs H Q E,sp vs H Q E→vs.length=ps.length)
  (lC:∀(bq:Value) (A:Around) (outer:List Env) (s:Shared) (H:Hp) (vs:List V) (Q:VK) (E:XK),dI k (A.deeper (envOfC qual (aN st) s.heap.objs.size f bq))→sp vs H Q E→
   t_ (jJ (dO P w) P w K mg base N qual (aN st) f bq A outer s H E) E→
   ∃t,fb (jJ (dO P w) P w K mg base N qual (aN st) f bq A outer s H E) (gF st) t∧t {nx:=fun _ H'=>Q .bh H',rt:=Q} (start N vs) H):a_ P w K mg base (dO P w) (k+1) f fd ps sp:=by
 obtain ⟨oc,od,kV,doc,pm,an,bq,ct,gj,dT,tk,oV,oW,n,oX,rfl,lk,gg,ld⟩:=F.ex;exact DJ lk gg S len fun A outer s H vs Q E hr ky=>lC bq A outer s H vs Q E hr ky ⟨rfl,rfl,rfl,rfl⟩
theorem AR{dT:Addr}{oc:Value}{od an:Option Addr}{gj:Array (Option Value)}{kV doc pm bq ct:Value}{tk:Tok}{oV:Value}{oW:Option Addr}{n:Nat}{oX:Array (Option Value)}
  (l:K.lookup f=some ⟨oc,od,.func (PySem.W.fnOf x qual (jM st) (gF st) (aN st) (.ref dT) kV doc pm an bq ct),gj⟩)
  (c:PySem.W.codeIn K bq qual=true) (k:PySem.W.keepIn K (.ref f)=true) (ld:K.lookup dT=some ⟨oV,oW,.seq #[.int i tk] n,oX⟩):jQ K x qual st i f (PySem.W.fnOf x qual (jM st) (gF st) (aN st) (.ref dT) kV doc pm an bq ct):=
 ⟨⟨oc,od,kV,doc,pm,an,bq,ct,gj,dT,tk,oV,oW,n,oX,rfl,l,c,ld⟩,k⟩
theorem jQ.binds(F:jQ K x qual st i f fd)
  (h:∀(s:Shared) (dT:Addr) (kV doc pm:Value) (an:Option Addr) (bq ct:Value) (tk:Tok) (o:Obj) (n:Nat) (us:List Value),s.heap.get? dT=some o→o.data=.seq #[.int i tk] n→us.length=ps.length→
   BindsTo s (PySem.W.fnOf x qual (jM st) (gF st) (aN st) (.ref dT) kV doc pm an bq ct) ⟨us,[]⟩ (ps.zip us)):Binds K fd ps []:=by
 obtain ⟨oc,od,kV,doc,pm,an,bq,ct,gj,dT,tk,oV,oW,n,oX,rfl,lk,gg,ld⟩:=F.ex;intro s us X hl;rw [zS] at hl ⊢;exact h s dT kV doc pm an bq ct tk _ n us (X _ _ ld) rfl hl
theorem jQ.S4(F:jQ K x qual st i f fd)
  (h:∀(s:Shared) (dT:Addr) (kV doc pm:Value) (an:Option Addr) (bq ct:Value) (tk:Tok) (o:Obj) (n:Nat) (us:List Value),s.heap.get? dT=some o→o.data=.seq #[.int i tk] n→us.length+1=ps.length→
   BindsTo s (PySem.W.fnOf x qual (jM st) (gF st) (aN st) (.ref dT) kV doc pm an bq ct) ⟨us,[]⟩ (ps.zip (us++[.int i tk]))):∃v,Vals [V.int i] [v]∧Binds K fd ps [v]:=by
 obtain ⟨oc,od,kV,doc,pm,an,bq,ct,gj,dT,tk,oV,oW,n,oX,rfl,lk,gg,ld⟩:=F.ex;refine ⟨.int i tk,.cons ⟨tk,rfl⟩ .nil,fun s us X hl=>?_⟩;exact h s dT kV doc pm an bq ct tk _ n us (X _ _ ld) rfl (by simpa using hl)
theorem jQ.S6{y:Str}(F:jQ K x qual st i f fd)
  (h:∀(s:Shared) (dT:Addr) (kV doc pm:Value) (an:Option Addr) (bq ct:Value) (tk:Tok) (o:Obj) (n:Nat) (us ws:List Value),s.heap.get? dT=some o→o.data=.seq #[.int i tk] n→ws.length=1→us.length+1=ps.length→
   BindsTo s (PySem.W.fnOf x qual (jM st) (gF st) (aN st) (.ref dT) kV doc pm an bq ct) ⟨us,[y].zip ws⟩ (ps.zip (us++ws))) :
  ∀(s:Shared) (us ws:List Value),K.In s.heap→ws.length=1→us.length+1=ps.length→BindsTo s fd ⟨us,[y].zip ws⟩ (ps.zip (us++ws)):=by
 obtain ⟨oc,od,kV,doc,pm,an,bq,ct,gj,dT,tk,oV,oW,n,oX,rfl,lk,gg,ld⟩:=F.ex;intro s us ws X hw hl;exact h s dT kV doc pm an bq ct tk _ n us ws (X _ _ ld) rfl hw hl
end
section
variable {X:Cx} {CX:iR} {k:Nat} {f C:Addr} {fd:FuncData} {ps:List Str} {y:Str} {sp:Sp} {E:XK} {m:Str} {pos apos Jb:Pos} {e e' o:Expr} {ta:TE} {t tk:TA}
def Ea(K:aB):R2:=fun x y H Q=>AE K true x y H Q∨IF x y H Q
theorem S7(hu:X.A.units<cLine):cP X (compareOp .NotEq) (Ea X.K):=by
 intro pins s σ H x y v u Q I rx ry h;rcases h with h | h;·exact Sm hu pins s σ H x y v u Q I rx ry h
 ·exact kq pins s σ H x y v u Q I rx ry h
end
end L2
namespace My
open PySem L2
def jn(a b:Int):Int:=a.fdiv (lowG a b)
def jo(a b:Int):Int:=b.fdiv (lowG a b)
variable {a b:Int}
theorem J1(hb:b≠0):cz (jn a b) (jo a b)∧jn a b*b=a*jo a b∧(jn a b).natAbs≤a.natAbs∧(jo a b).natAbs≤b.natAbs:=by
 have gp:=qt (a:=a) hb;have c:=ug (a:=a) hb;obtain ⟨a',ea⟩:=mT (a:=a) (b:=b);obtain ⟨b',eb⟩:=lU (a:=a) (b:=b);unfold jn jo lowG;generalize Int.gcd a b=g at *;have g0:(g:Int)≠0:=by lia
 have ga:a / (g:Int)=a':=by rw [ea];exact f9 _ g0
 have gb:b / (g:Int)=b':=by rw [eb];exact f9 _ g0
 rw [ga,gb] at c;have la:a'.natAbs≤a.natAbs:=by rw [←ga];exact mU ..
 have lb:b'.natAbs≤b.natAbs:=by rw [←gb];exact mU ..
 have cr:a'*b=a*b':=by rw [ea,eb];simp only [iH,dS,xA]
 by_cases h:b<0
 ·have d1:(0-(g:Int))∣a:=⟨-a',by rw [ea,oB,Int.neg_mul_neg]⟩
  have d2:(0-(g:Int))∣b:=⟨-b',by rw [eb,oB,Int.neg_mul_neg]⟩
  rw [ai h,zV d1,zV d2,oB,Int.ediv_neg,Int.ediv_neg,ga,gb];refine ⟨⟨?_,by rw [Int.neg_gcd,Int.gcd_neg];exact c⟩,?_,?_,?_⟩
  ·have z:0 < -b':=oR (u:=(g:Int)) (by lia) (by rw [lV,←eb];lia)
   lia
  ·rw [tT,lV,cr]
  ·rw [pO];exact la
  ·rw [pO];exact lb
 ·rw [ao h,zV ⟨a',ea⟩,zV ⟨b',eb⟩,ga,gb]
  have z:0<b':=oR (u:=(g:Int)) (by lia) (by rw [←eb];lia)
  exact ⟨⟨by lia,c⟩,cr,la,lb⟩
theorem J2(a:Int):jn a 1=a∧jo a 1=1:=by
 unfold jn jo lowG;rw [zW,ao (by decide)]
 exact ⟨Int.fdiv_one a,Int.fdiv_one 1⟩
def S8(N:Addr):Sp:=fun vs H Q E=>∃a b:Int,vs=[.int a,.int b]∧a8 b∧(b=0→E (.ref N) none H)∧(b≠0→∀(r:Addr) (H':Hp),ag H H'→H' r=some (.tup [.int (jn a b),.int (jo a b)])→Q (.ref r) H')
def mi(q b:Int):Prop:=if q=0 then b=0 else b % q=0
def uj(H:Hp)(q:Int)(v:V)(a b:Int):Prop:=
 (q=0∧∃r:Addr,v=.ref r∧H r=some (.tup [.int (jn a b),.int (jo a b)]))∨(2≤q∧∃r:Int,v=.int r∧0≤r∧r<q∧(r*(b % q)) % q=a % q)
theorem uj.mono{H H':Hp}{q:Int}{v:V}(h:uj H q v a b)(s:ag H H'):uj H' q v a b:=by
 rcases h with ⟨h,r,e,h2⟩ | h;·exact .inl ⟨h,r,e,s _ _ h2⟩
 ·exact .inr h
def S9(C N:Addr):Sp:=fun vs H Q E=>∃(z:Addr) (q a b:Int),vs=[.ref z,.int a,.int b]∧dj C H z q∧aF q∧a8 b ∧
 (mi q b→E (.ref N) none H)∧(¬mi q b→∀(v:V) (H':Hp),ag H H'→uj H' q v a b→Q v H')
end My
namespace L2
open PySem PySem.Spec PyProof.Rows
section
variable {X:Cx}
end
end L2
namespace My
open PySem L2
inductive mj (H:Hp):Int→V→Int→Int→Prop where
 | bA {p:Addr} {u d t b:Int} (e:H p=some (.tup [.int u,.int d])) (l:cz u d) (hb:b≠0) (h:u*b=t*d):mj H 0 (.ref p) t b
 | rem {q r t b:Int} (q2:2≤q) (h0:0≤r) (h1:r<q) (g:Int.gcd q b=1) (h:q∣r*b-t):mj H q (.int r) t b
variable {B:Nat} {H:Hp} {q x m:Int} {v:V}
theorem bC.AS(h:bC B H q v x m)(hq:aF q):mj H q v x m:=by
 cases h with
 | bA e l bx bm=>exact .bA e l (by have:=l.pos;lia) rfl
 | rem h0 h1 h2=>
  have q2:2≤q:=(hq.resolve_left (by lia)).1
  exact .rem q2 h0 h1 (by rw [zW]) ⟨0,by lia⟩
variable {t b:Int}
theorem J3{u d:Int}(l:cz u d)(hb:b≠0)(e:u*b=t*d):u.natAbs≤t.natAbs∧d.natAbs≤b.natAbs:=by
 have h3:=l.pos;by_cases c:0<b
 ·obtain ⟨z1,z2⟩:=uh l c e
  lia
 ·have e':u*(-b)=(-t)*d:=by rw [lV,e,tT]
  obtain ⟨z1,z2⟩:=uh l (show 0 < -b by lia) e'
  lia
variable {a c:Int}
theorem AU(h:c≠0)(e:a*c=b*c):a=b:=zX h e
theorem S_(h:Int.gcd q c=1)(d:q∣c-t):Int.gcd q t=1:=by
 refine oS fun e h1 h2=>oT h h1 ?_;have z:=tR (jA h1 d) h2;rw [show c-t+t=c by lia] at z
 exact z
theorem J4(q2:2≤q)(g:Int.gcd q c=1)(d:q∣a*c):q∣a:=by
 have qq:((q.natAbs:Nat):Int)=q:=by lia
 have z:=qu (a:=a) (b:=q) (c:=c) (d:=q.natAbs) g (by rw [qq];exact j7 q) (by rw [qq];exact d)
 rw [qq] at z;exact z
theorem J5(a q:Int):∃w,a % q+q*w=a:=⟨a / q,Di a q⟩
section
variable {C N z:Addr} {q:Int} {v u:V} {t b t' b':Int} {H:Hp} {Q:VK} {E:XK}
theorem afZ(hw:dj C H z q)(hq:aF q)(hv:mj H q v t b)(hu:mj H q u t' b')(b1:cj t)(b2:cj b)(b3:cj t')(b4:cj b')
  (k:∀(v':V) (H':Hp),ag H H'→mj H' q v' (t*b'+t'*b) (b*b')→Q v' H'):kB C (fun x m y n=>x*n+y*m) (fun i j=>i+j) [.ref z,v,u] H Q E:=by
 refine ⟨z,q,v,u,rfl,hw,?_⟩;cases hv with
 | bA e l hb h=>
  cases hu with
  | bA e' l' oY h'=>
   rename_i p x m p' y n
   obtain ⟨c1,c2⟩:=J3 l hb h;obtain ⟨c3,c4⟩:=J3 l' oY h';refine .inl ⟨rfl,_,_,x,m,y,n,rfl,rfl,e,e',l,l',aj c1 b1,aj c2 b2,aj c3 b3,aj c4 b4,fun r' H' a d s' er la ea=>k _ H' s' (.bA er la (Int.mul_ne_zero hb oY) ?_)⟩;have m0:=l.pos;have n0:=l'.pos;refine AU (c:=m*n) (Int.mul_ne_zero (by lia) (by lia)) ?_
   grind
  | rem q2 h0 h1 g h=>lia
 | rem q2 h0 h1 g h=>
  cases hu with
  | bA e' l' oY h'=>lia
  | rem Ta AW oZ g' h'=>
   rename_i i j
   have q3:q≤997:=(hq.resolve_left (by lia)).2.1
   refine .inr ⟨q2,i,j,rfl,rfl,h0,by lia,k _ H (ag.refl H) (.rem q2 (f_ _ (by lia)) (gU _ (by lia)) (oU g g') ?_)⟩
   obtain ⟨k1,e1⟩:=h;obtain ⟨k2,e2⟩:=h';obtain ⟨w,ew⟩:=J5 (i+j) q;exact ⟨k1*b'+k2*b-w*(b*b'),by grind⟩
theorem J6(nz:¬q∣b):¬mi q b:=fun h=>nz (by
  unfold mi at h;by_cases z:q=0;·rw [ai z] at h;rw [h];exact gB q
  ·rw [ao z] at h;exact Int.dvd_of_emod_eq_zero h)
theorem J7{u d u' d':Int}(l:cz u d)(l':cz u' d')(e:u*d'=u'*d):u=u'∧d=d':=by
 have h1:=l.pos;have h2:=l'.pos;have a:=(uh l (show 0<d' by lia) e).1
 have c:=(uh l' (show 0<d by lia) e.symm).1
 have dd:d=d':=by lia
 subst dd;exact ⟨AU (show d≠0 by lia) e,rfl⟩
theorem Tb(hv:mj H q v t b)(hu:mj H q u t' b')(e:t*b'=t'*b) :
  (∃p p' x m,v=.ref p∧u=.ref p'∧H p=some (.tup [.int x,.int m])∧H p'=some (.tup [.int x,.int m]))∨(∃i:Int,v=.int i∧u=.int i):=by
 cases hv with
 | bA e1 l hb h=>
  cases hu with
  | bA e2 l' oY h'=>
   rename_i p x m p' y n
   have z:x*n=y*m:=by refine AU (c:=b*b') (Int.mul_ne_zero hb oY) ?_;grind
   obtain ⟨rfl,rfl⟩:=J7 l l' z;exact .inl ⟨_,_,_,_,rfl,rfl,e1,e2⟩
  | rem q2 h0 h1 g h=>lia
 | rem q2 h0 h1 g h=>
  cases hu with
  | bA e' l' oY h'=>lia
  | rem Ta AW oZ g' h'=>
   rename_i i j
   have d:q∣(i-j)*(b*b'):=by obtain ⟨k1,e1⟩:=h;obtain ⟨k2,e2⟩:=h';exact ⟨k1*b'-k2*b,by grind⟩
   have d2:=J4 q2 (oU g g') d;have ij:i=j:=by
    obtain ⟨k,ek⟩:=d2;by_cases z:k=0;·rw [z,dE] at ek;lia
    ·exfalso
     rcases Int.lt_or_gt_of_ne z with z | z
     ·have:=oz (show k≤-1 by lia) (show 0≤q by lia)
      lia
     ·have:=oz (show 1≤k by lia) (show 0≤q by lia)
      lia
   subst ij;exact .inr ⟨_,rfl,rfl⟩
theorem Tc(x m:Int):g9 [V.int x,V.int m] [V.int x,V.int m]=true:=by show ((x == x) && ((m == m) && true))=true;simp
end
theorem bC.cm{H':Hp}{D:Addr}{ys:List V}(h:bC B H q v x m)(eD:H D=some (.lst ys))(k:∀b o,b≠D→H b=some o→H' b=some o):bC B H' q v x m:=by
 cases h with
 | bA e l bx bm=>refine .bA (k _ _ (fun z=>?_) e) l bx bm;rw [z,eD] at e;cases e
 | rem h0 h1 h2=>exact .rem h0 h1 h2
end My
namespace L2
open PySem PySem.Spec PyProof.Rows
structure nF (J:It) (xs:List V) (H1:Hp):Prop where
 go:∀i Hc,ag H1 Hc→i<xs.length→J.go i Hc
 fm:∀i Hc x H',ag H1 Hc→J.fm i Hc x H'→H'=Hc∧(i<xs.length→xs[i]?=some x)
 stop:∀i Hc,ag H1 Hc→xs.length≤i→J.stop i Hc
variable {K:aB} {a:Addr} {xs:List V} {H1:Hp}
theorem mq(h:aZ K H1 a xs):nF (tY K a) xs H1 where
 go:=fun i Hc s hi=>⟨xs,xs[i],s.seq h,by simp [hi]⟩
 fm:=fun i Hc x H' s y=>⟨y.1,fun _=>y.2 xs (s.seq h)⟩
 stop:=fun i Hc s hi=>⟨xs,s.seq h,hi⟩
theorem ym{lo:Int}{n:Nat}:nF (l9 lo n) ((List.range n).map fun i:Nat=>V.int (lo+(i:Int))) H1 where
 go:=fun i Hc s hi=>by
  have hi:i<n:=by simpa using hi
  exact hi
 fm:=fun i Hc x H' s y=>⟨y.1,fun hi=>by
  have hi:i<n:=by simpa using hi
  rw [y.2];simp [hi]⟩
 stop:=fun i Hc s hi=>by
  have hi:n≤i:=by simpa using hi
  exact hi
variable {H:Hp} {D:Addr}
theorem jq{H':Hp}{o:HO}(s:ag H H')(n:H D=none):ag H (upd H' D o):=fun b u e=>by rw [a9 (gX e n)];exact s b u e
variable {te:TE} {Q:VK}
theorem J8{J:It}{ρσ:St}(js:nF J xs H1)(nD:H1 D=none)(hn:xs.length<sizeLine)
  (P:Nat→V→Hp→Prop) (mono:∀i y H H' ys,P i y H→H D=some (.lst ys)→(∀b o,b≠D→H b=some o→H' b=some o)→P i y H')
  (step:∀i x,xs[i]?=some x→∀(Hc:Hp) (R:VK),ag H1 Hc→(∃ys,Hc D=some (.lst ys))→(∀y H3,ag Hc H3→P i y H3→R y H3)→te (some x::ρσ) Hc R)
  (fin:∀ys Hc,ag H1 Hc→ys.length=xs.length→(∀i y,ys[i]?=some y→P i y Hc)→Hc D=some (.lst ys)→Q (.ref D) Hc) :
  ∃W:Nat→Nat→List V→Hp→Prop,(∃m,W 0 m [] (upd H1 D (.lst []))) ∧
   ∀i m ys Hc,W i m ys Hc→Hc D=some (.lst ys)∧((J.stop i Hc∧Q (.ref D) Hc)∨(J.go i Hc∧∀x H',J.fm i Hc x H'→
    if true=true then te (some x::ρσ) H' fun y H3=>H3 D=some (.lst ys)∧ys.length<sizeLine∧∃m',m'<m∧W (i+1) m' (ys++[y]) (upd H3 D (.lst (ys++[y]))) else ∃m',m'<m∧W (i+1) m' ys H')):=by
 refine ⟨fun i m ys Hc=>m=xs.length-i∧i≤xs.length∧Hc D=some (.lst ys)∧ag H1 Hc∧ys.length=i∧∀j y,ys[j]?=some y→P j y Hc,⟨_,rfl,cN _,az,jq (ag.refl H1) nD,rfl,fun j y e=>by simp at e⟩,?_⟩
 rintro i m ys Hc ⟨rfl,hi,eD,sH,el,hP⟩;refine ⟨eD,?_⟩;by_cases cI:i<xs.length
 ·refine .inr ⟨js.go i Hc sH cI,fun x H' hy=>?_⟩
  obtain ⟨rfl,hx⟩:=js.fm i Hc x H' sH hy;rw [ai rfl];refine step i x (hx cI) _ _ sH ⟨ys,eD⟩ fun y H3 s3 hp=>?_;have e3:=s3 _ _ eD;refine ⟨e3,by lia,xs.length-(i+1),by lia,rfl,cI,az,jq (sH.trans s3) nD,by simp [el],fun j y' e=>?_⟩
  have cm:∀b o,b≠D→H3 b=some o→upd H3 D (.lst (ys++[y])) b=some o:=fun b o nb e=>by rw [a9 nb];exact e
  by_cases hj:j<i
  ·have e':ys[j]?=some y':=by rw [ic (by lia)] at e;exact e
   refine mono j y' H' _ ys (hP j y' e') eD fun b o nb e=>?_;exact cm b o nb (s3 _ _ e)
  ·have hj:j=i:=by have:=(b6.mp e).1;simp at this;lia
   subst hj;have e':y'=y:=by rw [gS (by lia),el,mV] at e;simpa using e.symm
   subst e';exact mono _ _ H3 _ ys hp e3 cm
 ·have e:i=xs.length:=by lia
  subst e;exact .inl ⟨js.stop _ Hc sH (aE _),fin ys Hc sH el hP eD⟩
variable {wi:TI} {ρ:St→St} {σ:St}
theorem Eb(hE:∀R:It→Hp→Prop,(∀J H1,ag H H1→nF J xs H1→R J H1)→wi σ H R)(hn:xs.length<sizeLine)
  (P:Addr→Nat→V→Hp→Prop) (mono:∀D i y H H' ys,P D i y H→H D=some (.lst ys)→(∀b o,b≠D→H b=some o→H' b=some o)→P D i y H')
  (step:∀D i x,xs[i]?=some x→∀(Hc:Hp) (R:VK),ag H Hc→(∃ys,Hc D=some (.lst ys))→(∀y H3,ag Hc H3→P D i y H3→R y H3)→te (some x::ρ σ) Hc R)
  (fin:∀D ys Hc,ag H Hc→ys.length=xs.length→(∀i y,ys[i]?=some y→P D i y Hc)→Hc D=some (.lst ys)→Q (.ref D) Hc):jO wi ρ (fun _ H Q=>Q true H) te σ H Q:=by
 refine hE _ fun J H1 s1 js=>?_;intro D nD;exact J8 (ρσ:=ρ σ) (te:=te) (Q:=Q) js nD hn (P D) (mono D) (fun i x hx Hc R sc=>step D i x hx Hc R (s1.trans sc)) (fun ys Hc sc=>fin D ys Hc (s1.trans sc))
theorem dB{g:TG}{D:Ends}(h:te σ H fun x H1=>g x σ H1 D.nx):qb te g D σ H:=h
theorem gH{a b:TS}{D:Ends}(h:a {D with nx:=fun σ H=>b D σ H} σ H):Du a b D σ H:=h
section
variable {X:Cx} {N:List Str} {scope:Scope} {cl:List (Str×Addr)} {x:Str} {px pos:Pos} {iter elt:Expr} {ifs:List Expr} {wi:TI} {ρ:St→St} {tt:TT} {te:TE}
theorem AX{y:Str}{py J9:Pos}{i0:Nat}(B:D4 X N scope cl x ρ)(hc:X.calm=true)(hN:X.N.Nodup)(Te:X.N[i0]?=some y)(hy:Loc X.env.scope y)(hi:PI X (.Name x px) iter wi)(ht:∀s₃ H₃ fp,oN (X.cw N scope cl s₃ H₃ fp) ifs tt)(he:∀s₃ H₃ fp,PE (X.cw N scope cl s₃ H₃ fp) elt te)
  (Tf:swapsWith (.ListComp elt [⟨.Name x px,iter,ifs,0⟩] scope pos) (some (.Name y py)) J9.line X.env=pure true:=by rfl) (hf:X.fn y=true∨X.env.scope.names.lookup y=some .local:=by first | exact .inl rfl | exact .inr rfl | assumption)
  (hs:∀x,foldedSetIterable iter X.env x=pure x:=by intro _;rfl):PS X (.Assign [.Name y py] (.ListComp elt [⟨.Name x px,iter,ifs,0⟩] scope pos) J9) (qb (jO wi ρ tt te) (bH i0)):=by
 intro pins s σ H D0 I h
 have h:jO wi ρ tt te σ H (fun v H1=>D0.nx (σ.set i0 (some v)) H1):=h
 rw [exec_Assign_Name_used _ _ _ _ Tf]
 refine bI (wpAny_standAt (bI ?_))
 show wpAny _ X.A (do let _ ←comprehension (.ListComp elt [⟨.Name x px,iter,ifs,0⟩] scope pos) scope X.env _ (newList []) false (eval iter X.env) (some (assign (.Name y py) X.env))) _ _ s
 refine bI (dw (Q:=fun _ s'=>SP X pins D0 .next s') ?_ (fun _ s' hq=>cM (cM hq)) fun _ _ e=>e)
 refine Dg (use:=some (assign (.Name y py) X.env)) rfl hs B.AF B.kind B.names (aS (hi pins s σ H _ I h) fun v s1 h1=>aS h1 fun xZ s2 h2=>?_)
 obtain ⟨it,fp,tn,J,H2,rfl,I2,T,gY,f2,q2⟩:=h2
 have nD:H2 s2.heap.objs.size=none:=I2.aC.fresh (aE _)
 obtain ⟨W,⟨m0,w0⟩,turn⟩:=q2 _ nD
 refine oq (wpAny_newFunctionEnv B.AG (by intro y hy;simp at hy) (fun h₁ je jf=>?_) B.kind)
 dsimp only at je jf ⊢
 generalize hD:s2.heap.objs.size=D at nD w0 turn je jf ⊢
 generalize g_:({s2 with heap:=s2.heap.push {cls:=.type "list",dict:=none,data:=.seq ([]:List Value).toArray}}:Shared)=s3
 have I3:Inv X pins σ (upd H2 D (.lst [])) s3:=by
  subst hD g_
  exact I2.laid (t':=s2.toks) (fun b u e=>dy _ e) (aE _) ⟨cN _,[],_,.nil,fZ _ rfl⟩
 have e3:s3.heap=s2.heap.push {cls:=.type "list",dict:=none,data:=.seq ([]:List Value).toArray}:=by rw [←g_]
 have jg:∀b o,s2.heap.get? b=some o→s3.heap.get? b=some o:=fun b o e=>by rw [e3];exact dy _ e
 rw [←e3] at je jf ⊢
 have below:∀b o,s3.heap.get? b=some o→b≠s3.heap.objs.size:=fun b o e=>dR (cg e)
 have fQ:∀b o,s3.heap.get? b=some o→h₁.get? b=some o:=fun b o e=>jf.extBut b o (below b o e) (dy _ e)
 have lE:∀b∈fp,∃o,s2.heap.get? b=some o∧∀v,o.data≠.cell v:=T.obj _ _ gY
 have ye:∀b∈fp,b≠D:=fun b hb z=>by
  obtain ⟨o,e,_⟩:=lE b hb
  rw [z,←hD] at e
  exact absurd (cg e) (iF _)
 have fg:∀y c,cl.lookup y=some c→X.env.cells.lookup y=some c:=fun y c e=>B.sub (y,c) (mQ e)
 have yf:=I3.xP
 have eM:(X.cw N scope cl s3 (upd H2 D (.lst [])) fp).Ok:=by
  refine ⟨I.ok.mod,B.kind,I.ok.glob,I.ok.blt,aE _,fun a b c e1 e2=>I.ok.inj a b c (fg a c e1) (fg b c e2),fun y hy=>B.has y hy,(fun _ _ z _=>absurd z dZ),(fun _=>I.ok.hd hc),I.ok.frames,.inl rfl,fun b hb=>⟨?_,fun y c e z=>?_⟩,fun b o e=>?_,aj I.ok.jF I3.sz,fun b o e hb=>?_,fun b hb z=>?_,I3.stack,yf⟩
  ·obtain ⟨o,e,_⟩:=lE b hb
   exact below b o (jg b o e)
  ·exact (f2 b hb).2.2.2.2.1 y c (fg y c e) z
  ·exact I3.bs b o e
  ·rcases (f2 b hb).2.2.2.1 with z | z
   ·exact I.ok.pX b o e z
   ·exact absurd (fh (cg e) (aj I.ok.jF z)) (iF _)
  ·rcases cH.mp (I3.xO b z) with z | z
   ·exact (f2 b hb).2.1 z
   ·exact (f2 b hb).2.2.1 z
 have IB:∀tk:Nat,Inv (X.cw N scope cl s3 (upd H2 D (.lst [])) fp) [] (none::ρ σ) (upd H2 D (.lst [])) {s3 with heap:=h₁,toks:=tk}:=fun tk=>by
  refine ⟨eM,rfl,I3.bare,Un.kept fQ,⟨_,je,fun j y v e1 e2 e3=>?_⟩,fun y c e=>?_,?_,fun y c e=>I3.ko y c (fg y c e),(fun p hp=>nomatch hp),I3.aC.kept fQ,?_⟩
  ·cases j with
   | zero=>cases e2
   | succ j=>
    obtain ⟨i,y',a1,a2,a3,a4,a5,a6⟩:=B.AH σ j v e2
    have yg:N[j+1]?=some y:=e1
    rw [yg] at a1
    cases a1
    obtain ⟨m,hn,hl⟩:=I3.loc
    obtain ⟨u,r,l⟩:=hl i y v a2 a3 a4
    refine ⟨u,r,.inr ⟨a6,?_⟩⟩
    obtain ⟨c,ec⟩:=B.has y a6
    rcases l with ⟨k,_⟩ | ⟨_,c',oO,z⟩
    ·rcases a5 with q | q <;> (rw [k] at q;cases q)
    ·have:=fg y c ec
     rw [this] at oO
     cases oO
     obtain ⟨o,ho,hd⟩:=z
     exact ⟨c,ec,o,fQ _ _ ho,hd⟩
  ·obtain ⟨v,o,ho,hd⟩:=I3.cell y c (fg y c e)
   exact ⟨v,o,fQ _ _ ho,hd⟩
  ·exact I3.aC.fresh (aE _)
  ·show (none::ρ σ).length=N.length
   rw [d8]
   exact B.len σ I.len
 have Ec:∀b o,s3.heap.get? b=some o→b≠s3.heap.objs.size:=below
 have fin:∀{σ':St} {H':Hp} {s':Shared},Inv (X.cw N scope cl s3 (upd H2 D (.lst [])) fp) [] σ' H' s'→D0.nx (σ.set i0 (some (.ref D))) H'→compPost (model X.prog X.w) X.A X.xe (some (assign (.Name y py) X.env)) (fun _ s'=>SP X pins D0 .next s') (.ref D) s3.heap.objs.size (.ok .next) s':=fun{σ' H' s'} J q=>by
  obtain ⟨m,hn,_⟩:=J.loc
  have hn:s'.heap.Ns s3.heap.objs.size m:=hn
  have JC:H' s3.heap.objs.size=none:=J.free
  have u1:Un (cY X.stack) fp (upd H2 D (.lst [])) H' s3.heap s'.heap:=by
   refine ⟨fun b o e n hb hx=>J.base.keep b o e n hb hx,fun b o e n hb hx=>J.base.slot b o e n hb hx,J.base.free,fun b o e hx=>J.base.there b o e hx,J.base.iK,J.base.ie,J.base.iL⟩
  have IX:Inv X pins σ H' s':=I3.oF (ch:=fp) (J.os) u1 J.aC J.bare fun b hb=>by
   obtain ⟨g0,g1,g2,g3,g4,g5⟩:=f2 b hb
   exact ⟨g3,g1,g4,g5⟩
  have nl:X.env.locals≠s3.heap.objs.size:=by
   obtain ⟨m3,⟨o3,_,_,e3,_⟩,_⟩:=I3.loc
   exact Ec _ _ e3
  have nc:∀z c,X.env.cells.lookup z=some c→c≠s3.heap.objs.size:=fun z c e=>by
   obtain ⟨v3,o3,e3,_⟩:=I3.cell z c e
   exact Ec _ _ e3
  refine wpAny_assign_Name (Ig (v:=.ref D) IX hN Te hy rfl (fun md Ed Ee=>?_) hf)
  obtain ⟨a,Ee,ha⟩:=Ee
  have na:s3.heap.objs.size≠a:=by
   rcases ha with rfl | e
   ·exact fun z=>nl z.symm
   ·exact fun z=>nc _ _ e z.symm
  refine ⟨m,hn.sameBut Ee na,fun h' jh=>⟨σ.set i0 (some (.ref D)),H',?_,q⟩⟩
  have u2:Un (cY X.stack) [s3.heap.objs.size] H' H' md.heap h':=by
   refine ⟨fun b o e n hb hx=>(jh.2 b (by simpa using hx)).trans e,fun b o e n hb hx=>⟨o.slots,(jh.2 b (by simpa using hx)).trans e⟩,fun b o e n hx=>n,fun b o e hx=>⟨o,(jh.2 b (by simpa using hx)).trans e⟩,fun b xs z=>z,fun b o u z=>z,fun b ps z=>⟨#[],by simpa using z⟩⟩
  have yh:cL X.prog X.w H' h':=fun b u e=>by
   refine (Ed.aC b u e).gf (fun c v hc z=>(jh.2 c fun y=>?_).trans z) (fun _ z=>z) fun _ _ z=>z
   have y':c=s3.heap.objs.size:=y
   rcases hc with hc | hc
   ·rw [←hc,y',JC] at e
    cases e
   ·rw [y',JC] at hc
    cases hc
  refine Ed.oF (s':={md with heap:=h'}) (ch:=[s3.heap.objs.size]) rfl u2 yh Ed.bare fun b hb=>?_
  have eb:b=s3.heap.objs.size:=by simpa using hb
  subst eb
  refine ⟨.inr I3.sz,fun z=>nl z.symm,fun z c e=>nc z c e,fun p hp=>?_⟩
  exact Ec _ _ (I3.pin p hp).1
 have iP:∀{H':Hp},(∀b∈fp,H' b=none)→∀b∈fp,ni (X.cw N scope cl s3 (upd H2 D (.lst [])) fp) [] H' b:=fun hn b hb=>by
  refine ⟨hn b hb,?_,?_,.inl hb,fun y c e z=>(f2 b hb).2.2.2.2.1 y c (fg y c e) z,fun p hp=>nomatch hp⟩
  ·obtain ⟨o,e,_⟩:=lE b hb
   exact below b o (jg b o e)
  ·exact eM.pY b hb
 have loop:∀tk:Nat,codeAny (model X.prog X.w) X.A (.compLoop (.ListComp elt [⟨.Name x px,iter,ifs,0⟩] scope pos) 0 (.ref it) (.ref D) (compEnvC scope cl s3.heap.objs.size X.env))
   (compPost (model X.prog X.w) X.A X.xe (some (assign (.Name y py) X.env)) (fun _ s'=>SP X pins D0 .next s') (.ref D) s3.heap.objs.size) {s3 with heap:=h₁,toks:=tk}:=fun tk=>by
  refine codeAny_compLoop_tests (fun n s'=>∃i ys o H',Inv (X.cw N scope cl s3 (upd H2 D (.lst [])) fp) [] (o::ρ σ) H' s'∧tn i s'.heap∧(∀b∈fp,H' b=none)∧W i n ys H') ?_ m0
   ⟨0,[],none,_,IB tk,T.keep _ _ _ gY fun b hb o e=>fQ _ _ (jg _ _ e),fun b hb=>by rw [a9 (ye b hb)];exact (f2 b hb).1,w0⟩
  rintro n s4 ⟨i,ys,o,H4,I4,oP,oQ,w4⟩
  obtain ⟨JO,yi⟩:=turn i n ys H4 w4
  rcases yi with ⟨stop,qn⟩ | ⟨go,step⟩
  ·refine dw (T.done (X.cw N scope cl s3 (upd H2 D (.lst [])) fp) rfl rfl rfl hc i [] s4 _ H4 (fun _ _=>False) I4 (iP oQ) oP stop) (fun r s5 ⟨hr,I5⟩=>?_) fun _ _ z=>z.elim
   subst hr
   exact fin I5 qn
  ·refine dw (T.item (X.cw N scope cl s3 (upd H2 D (.lst [])) fp) rfl rfl rfl hc i [] s4 _ H4 (fun _ _=>False) I4 (iP oQ) oP go) (fun r s5 ⟨u,hr,h5⟩=>?_) fun _ _ z=>z.elim
   subst hr
   have z:letOwnedTupleGo (.Name x px) (.ref it) u=pure ():=rfl
   rw [z] at h5
   show wpAny _ _ ((pure ():Sem Unit) >>= fun _=>assign (.Name x px) (compEnvC scope cl s3.heap.objs.size X.env) u) _ _ s5
   refine bI (dw h5 (fun _ s5 ⟨y,H5,I5,r5,y5,iQ,qd⟩=>?_) fun _ _ z=>z.elim)
   have qe:=I5.pinned (iP qd) (T.obj _ _ iQ)
   have pg:PG (X.cw N scope cl s3 (upd H2 D (.lst [])) fp) (.Name x px) (bH 0):=eh (i:=0) B.nd B.n0 (.inl (ox B.hx)) (.inr (ox B.hx))
   have again:∀{σ7:St} {H7:Hp} {s7:Shared},Inv (X.cw N scope cl s3 (upd H2 D (.lst [])) fp) ([]++ma fp s5.heap) σ7 H7 s7→Inv (X.cw N scope cl s3 (upd H2 D (.lst [])) fp) [] σ7 H7 s7∧tn (i+1) s7.heap∧∀b∈fp,H7 b=none:=fun{σ7 H7 s7} I7=>by
    refine ⟨I7.tZ,T.keep _ _ _ iQ fun b hb o e=>(I7.pin (b,o) (fC _ (fC _ (oI hb e)))).1,fun b hb=>?_⟩
    obtain ⟨o,e,d⟩:=T.obj _ _ iQ b hb
    exact (I7.pin (b,o) (fC _ (fC _ (oI hb e)))).2.1
   refine dw (pg _ s5 _ H5 y u (fun σ2 H6=>σ2=some y::ρ σ∧H6=H5) qe r5 ⟨rfl,rfl⟩) (fun _ s6 ⟨σ6,H6,I6,q6⟩=>?_) fun _ _ z=>z.elim
   obtain ⟨rfl,rfl⟩:=q6
   have yj:=step y _ y5
   have tests:∀{lF:TT},oN (X.cw N scope cl s3 (upd H2 D (.lst [])) fp) ifs lF→∀{R:Bool→Hp→Prop},lF (some y::ρ σ) H6 R→wpAny (model X.prog X.w) X.A
     (forIn ifs true fun c r=>if r=true then do let ok ←isTrue c (compEnvC scope cl s3.heap.objs.size X.env) (eval c (compEnvC scope cl s3.heap.objs.size X.env));pure (ForInStep.yield ok) else pure (ForInStep.yield r))
     (fun ok s7=>∃H7,Inv (X.cw N scope cl s3 (upd H2 D (.lst [])) fp) ([]++ma fp s5.heap) (some y::ρ σ) H7 s7∧R ok H7) (fun _ _=>False) s6:=fun{lF} p {R} hR=>by
    cases p with
    | nil=>exact wpAny_tests_nil ⟨_,I6,hR⟩
    | one p=>exact wpAny_tests_one (p _ s6 _ _ _ I6 hR)
   refine dw (tests (ht s3 _ fp) yj) (fun ok s7 ⟨H7,I7,q7⟩=>?_) fun _ _ z=>z.elim
   cases ok with
   | false=>
    obtain ⟨m',ji,w7⟩:=q7
    obtain ⟨a1,a2,a3⟩:=again I7
    exact ⟨m',ji,i+1,ys,_,H7,a1,a2,a3,w7⟩
   | true=>
    refine dw (he s3 _ fp _ s7 _ H7 _ I7 q7) (fun ev s8 ⟨z,H8,I8,r8,yk,hz,m',ji,w8⟩=>?_) fun _ _ z=>z.elim
    refine dw (Av (X:=X.cw N scope cl s3 (upd H2 D (.lst [])) fp) _ s8 _ H8 (.ref D) [z] (.ref D) [ev] (fun _ H9=>H9=upd H8 D (.lst (ys++[z]))) I8 rfl (.cons r8 .nil) ⟨D,ys,z,rfl,rfl,yk,hz,rfl⟩) (fun _ s9 ⟨_,H9,I9,_,q9⟩=>?_) fun _ _ z=>z.elim
    subst q9
    obtain ⟨a1,a2,a3⟩:=again I9
    exact ⟨m',ji,i+1,ys++[z],_,_,a1,a2,a3,w8⟩
 have start:=loop (s3.toks+([]:List (Str×Value)).length)
 have es:({s3 with heap:=h₁,toks:=s3.toks+([]:List (Str×Value)).length}:Shared)={s2 with heap:=h₁,toks:=s2.toks+([]:List (Str×Value)).length}:=by rw [←g_]
 rw [es] at start
 exact Dh start (T.self _ 0 _ _ _ (T.keep _ _ _ gY fun b hb o e=>fQ _ _ (jg _ _ e)) start)
end
def Ef(K:aB)(l1 l2:Addr):It:=
  ⟨fun i H=>∃xs ys x y,aZ K H l1 xs∧aZ K H l2 ys∧xs[i]?=some x∧ys[i]?=some y,
   fun i H v H'=>∃T x y,H T=none∧v=.ref T∧H'=upd H T (.tup [x,y])∧∀xs ys,aZ K H l1 xs→aZ K H l2 ys→xs[i]?=some x∧ys[i]?=some y,
   fun i H=>∃xs ys,aZ K H l1 xs∧aZ K H l2 ys∧(xs.length≤i∨ys.length≤i)⟩
theorem Tg{P:Program}{w:World}{elts:List Expr}{k:Nat}{pos:Pos}{z TI TO i1 i2 l1 l2:Addr}(D:ZipApart z TI TO i1 i2 l1 l2):Turn P w K (.Tuple elts k pos) (Ef K l1 l2) [z,TI,TO,i1,i2] z
  (fun i h=>IsZip h z TI TO .none∧IsPair h TI (.ref i1) (.ref i2)∧(∃a b,IsPair h TO a b)∧h.IsListIter i1 l1 i∧h.IsListIter i2 l2 i) where
 mem:=by simp
 obj:=fun i h st b hb=>by
  obtain ⟨hz,nG,⟨a,c,o4⟩,h1,h2⟩:=st;simp only [cH,j8,j9] at hb;rcases hb with rfl | rfl | rfl | rfl | rfl;·exact ⟨_,hz,fun v z=>by cases z⟩
  ·exact ⟨_,nG,fun v z=>by cases z⟩
  ·exact ⟨_,o4,fun v z=>by cases z⟩
  ·obtain ⟨o,e,c,d⟩:=h1
   exact ⟨o,e,fun v z=>by rw [d] at z;cases z⟩
  ·obtain ⟨o,e,c,d⟩:=h2
   exact ⟨o,e,fun v z=>by rw [d] at z;cases z⟩
 keep:=fun i h h' st k=>by obtain ⟨hz,nG,⟨a,c,o4⟩,h1,h2⟩:=st;exact ⟨k _ (by simp) _ hz,k _ (by simp) _ nG,⟨a,c,k _ (by simp) _ o4⟩,h1.at fun o e=>k _ (by simp) o e,h2.at fun o e=>k _ (by simp) o e⟩
 item:=by
  intro X hP hw hK hc i pins s σ H E I hf st hg;subst hP hw hK;obtain ⟨hz,nG,⟨a,c,o4⟩,h1,h2⟩:=st;obtain ⟨xs,ys,x,y,jR,jj,hx,hy⟩:=hg;obtain ⟨ak,rv,p,_⟩:=I.list jR;obtain ⟨J_,AY,p',_⟩:=I.list jj;obtain ⟨u,hu,ru⟩:=rv.get hx;obtain ⟨u',AZ,Th⟩:=AY.get hy;refine wpAny_pyNext_zip_item D hz nG o4 h1 h2 p.isList p'.isList (x:=u) (y:=u') (by simpa using hu) (by simpa using AZ) fun h' g1 g2 g3 g4 g5 g6 g7=>⟨_,rfl,?_⟩
  refine wpAny_letOwnedTupleGo_zip g1 fun mw q1 sb=>?_;have yo:H s.heap.objs.size=none:=I.aC.fresh (aE _);have lt:∀b o,s.heap.get? b=some o→b≠s.heap.objs.size:=fun b o e=>dR (cg e);have keep:∀b o,b∉[z,TI,TO,i1,i2]→s.heap.get? b=some o→mw.get? b=some o:=fun b o nb e=>by simp only [cH,j8,j9,not_or] at nb;exact sb.extBut _ _ nb.1 (g7 b o nb.1 nb.2.2.1 nb.2.2.2.1 nb.2.2.2.2 e)
  have Ti:z≠s.heap.objs.size:=lt _ _ hz;have pT:IsPair mw s.heap.objs.size u u':=sb.extBut _ _ Ti.symm g5;have lG:∀{b:Addr} {o:HO} (e:H b=some o),upd H s.heap.objs.size (.tup [x,y]) b=some o:=fun e=>by rw [a9 (gX e yo)];exact e
  have aC:cL X.prog X.w (upd H s.heap.objs.size (.tup [x,y])) mw:=fun b o e=>by
   by_cases hb:b=s.heap.objs.size
   ·subst hb
    rw [az] at e;cases e;exact ⟨by show 2≤sizeLine;decide,[u,u'],.cons ru (.cons Th .nil),⟨_,pT,rfl,_,rfl⟩⟩
   ·rw [a9 hb] at e
    refine (I.aC b o e).gf (fun c v dN q=>keep c v (fun m=>?_) q) (fun c q=>lG q) fun c xs q=>lG q;have nn:=(hf c m).1;rcases dN with rfl | dN;·rw [nn] at e;cases e
    ·rw [nn] at dN;cases dN
  have u1:Un (cY X.stack) [z,TI,TO,i1,i2] H (upd H s.heap.objs.size (.tup [x,y])) s.heap mw:=
   ⟨fun b o e n _ hx=>keep b o hx e,fun b o e n _ hx=>⟨o.slots,keep b o hx e⟩,fun b o e n hx=>by rw [a9 (lt b o e)];exact n,fun b o e hx=>⟨o,keep b o hx e⟩,fun b xs e=>lG e,fun b o u e=>lG e,fun b ps e=>⟨#[],by rw [lG e];simp⟩⟩
  refine ⟨.ref s.heap.objs.size,upd H s.heap.objs.size (.tup [x,y]),I.oF (s':={s with heap:=mw}) (ch:=[z,TI,TO,i1,i2]) rfl u1 aC I.bare (fun b hb=>?_),rfl,⟨_,x,y,yo,rfl,rfl,fun as bs ha hb=>⟨by rw [I.xT ha jR];exact hx,by rw [I.xT hb jj];exact hy⟩⟩,?_,fun b hb=>?_⟩
  ·obtain ⟨f0,f1,f2,f3,f4,f5⟩:=hf b hb
   exact ⟨f3,f1,f4,f5⟩
  ·exact ⟨q1,sb.extBut _ _ D.TIz (g7 _ _ D.TIz D.TITO D.TIi1 D.TIi2 nG),⟨_,_,sb.extBut _ _ D.TOz g2⟩,g3.extBut sb.extBut D.i1z,g4.extBut sb.extBut D.i2z⟩
  ·have nb:b≠s.heap.objs.size:=by
    simp only [cH,j8,j9] at hb;rcases hb with rfl | rfl | rfl | rfl | rfl;·exact lt _ _ hz
    ·exact lt _ _ nG
    ·exact lt _ _ o4
    ·obtain ⟨o,e,_⟩:=h1;exact lt _ _ e
    ·obtain ⟨o,e,_⟩:=h2;exact lt _ _ e
   rw [a9 nb];exact (hf b hb).1
 done:=by
  intro X hP hw hK hc i pins s σ H E I hf st hg;subst hP hw hK;obtain ⟨hz,nG,⟨a,c,o4⟩,h1,h2⟩:=st;obtain ⟨xs,ys,jR,jj,hx⟩:=hg;obtain ⟨ak,rv,p,_⟩:=I.list jR;obtain ⟨J_,AY,p',_⟩:=I.list jj;have hl:=rv.length;have Ka:=AY.length;refine wpAny_pyNext_zip_end (I.ok.hd hc) D hz nG o4 h1 h2 p.isList p'.isList (hx.imp (fun h=>by simp;lia) fun h=>by simp;lia) fun h' g=>⟨rfl,?_⟩
  have keep:∀b o,b∉[z,TI,TO,i1,i2]→s.heap.get? b=some o→h'.get? b=some o:=fun b o nb e=>by simp only [cH,j8,j9,not_or] at nb;exact g b o nb.1 nb.2.2.1 nb.2.2.2.1 nb.2.2.2.2 e
  have aC:cL X.prog X.w H h':=fun b o e=>by
   refine (I.aC b o e).gf (fun c v dN q=>keep c v (fun m=>?_) q) (fun c q=>q) fun c xs q=>q;have nn:=(hf c m).1;rcases dN with rfl | dN;·rw [nn] at e;cases e
   ·rw [nn] at dN;cases dN
  have u1:Un (cY X.stack) [z,TI,TO,i1,i2] H H s.heap h':=
   ⟨fun b o e n _ hx=>keep b o hx e,fun b o e n _ hx=>⟨o.slots,keep b o hx e⟩,fun b o e n hx=>n,fun b o e hx=>⟨o,keep b o hx e⟩,fun b xs e=>e,fun b o u e=>e,fun b ps e=>⟨#[],by rw [e];simp⟩⟩
  refine I.oF (s':={s with heap:=h'}) (ch:=[z,TI,TO,i1,i2]) rfl u1 aC I.bare fun b hb=>?_;obtain ⟨f0,f1,f2,f3,f4,f5⟩:=hf b hb;exact ⟨f3,f1,f4,f5⟩
 self:=fun _ _ _ _ _ st h=>wpAny_pyIter_zip st.1 h
theorem boot_zip:bootBuiltins "zip"=some (.type "zip"):=by decide +kernel
def Tj(K:aB)(ta:TA):TI:=fun σ H R=>ta σ H fun vs H1=>∃l1 l2,vs=[.ref l1,.ref l2]∧(∃xs,aZ K H1 l1 xs)∧(∃ys,aZ K H1 l2 ys)∧R (Ef K l1 l2) H1
section
variable {X:Cx}
theorem A0{elts:List Expr}{k:Nat}{t7:Pos}{a b:Expr}{ta:TA}{p pos:Pos}(hg:Gl X "zip")(hm:X.mg "zip"=none)(ha:PA X [a,b] ta)(hs:starEach [a,b] X.env=[(false,eval a X.env),(false,eval b X.env)]:=by rfl)(l_:starEach [b] X.env=[(false,eval b X.env)]:=by rfl) :
  PI X (.Tuple elts k t7) (.Call (.Name "zip" p) [a,b] [] pos) (Tj X.K ta):=by
 intro pins s σ H R I h;refine Call_ (oG I hg hm boot_zip (tN (aS (ha pos pins s σ H _ I h) fun us s1 ⟨vs,H1,I1,r1,q1⟩=>?_) (by rw [hs,l_]) (by rw [l_];rfl)))
 obtain ⟨l1,l2,e,⟨xs,jR⟩,⟨ys,jj⟩,q⟩:=q1;subst e;cases r1 with
 | cons r rr=>
  cases rr with
  | cons r' rr=>
   cases rr;cases r;cases r';obtain ⟨ak,rv,p1,_⟩:=I1.list jR;obtain ⟨J_,AY,p2,_⟩:=I1.list jj;have b1:l1<s1.heap.objs.size:=by obtain ⟨o,e,_⟩:=p1.isList;exact cg e
   have b2:l2<s1.heap.objs.size:=by obtain ⟨o,e,_⟩:=p2.isList;exact cg e
   refine call_zip_2 p1.isList p2.isList fun h' z1 z2 z3 z4 z5 z6 z7=>?_;refine wpAny_pyIter_zip (s:={s1 with heap:=h'}) z1 ?_;have D:ZipApart (s1.heap.objs.size+4) (s1.heap.objs.size+2) (s1.heap.objs.size+3) s1.heap.objs.size (s1.heap.objs.size+1) l1 l2:=by constructor <;> (intro h;have h:@Eq Nat _ _:=h;have b1:@LT.lt Nat _ l1 s1.heap.objs.size:=b1;have b2:@LT.lt Nat _ l2 s1.heap.objs.size:=b2;lia)
   refine ⟨_,_,_,_,H1,rfl,I1.kept (t':=s1.toks) z7,Tg D,⟨z1,z2,⟨_,_,z3⟩,z4,z5⟩,fun b hb=>?_,q⟩;have le:s1.heap.objs.size≤b:=by
    simp only [cH,j8,j9] at hb;rcases hb with rfl | rfl | rfl | rfl | rfl;·exact xD ..
    ·exact xD ..
    ·exact xD ..
    ·exact aE _
    ·exact xD ..
   exact I1.qc le (I1.aC.fresh le)
end
section
variable {prog:Program} {w:World} {A:Around} {R:Result→Shared→Prop} {s:Shared}
theorem Tn{elt target iter:Expr}{ifs:List Expr}{scope:Scope}{pos:Pos}{it acc:Value}{env:Env}(I:Nat→Shared→Prop)
  (turn:∀n s,I n s→wpAny (model prog w) A (pyNext it) (fun r s₁=>match r with
   | none=>R (.ok .next) s₁
   | some v=>wpAny (model prog w) A (letOwnedTupleGo target it v) (fun _ s₁=>wpAny (model prog w) A (assign target env v) (fun _ s₂=>
     wpAny (model prog w) A (forIn ifs true fun c r=>if r=true then do let ok ←isTrue c env (eval c env);pure (ForInStep.yield ok) else pure (ForInStep.yield r)) (fun ok s₃=>
      if ok=true then wpAny (model prog w) A (eval elt env) (fun x s₄=>
       wpAny (model prog w) A (call (.builtin "list.append") [acc,x]) (fun _ s₅=>∃m,m<n∧I m s₅) (notedBy (model prog w) A env fun e s'=>R (.error e) s') s₄) (notedBy (model prog w) A env fun e s'=>R (.error e) s') s₃
      else ∃m,m<n∧I m s₃) (notedBy (model prog w) A env fun e s'=>R (.error e) s') s₂) (notedBy (model prog w) A env fun e s'=>R (.error e) s') s₁) (notedBy (model prog w) A env fun e s'=>R (.error e) s') s₁) (notedBy (model prog w) A env fun e s'=>R (.error e) s') s)
  (n:Nat) (h:I n s):codeAny (model prog w) A (.compLoop (.ListComp elt [⟨target,iter,ifs,0⟩] scope pos) 0 it acc env) R s:=by
 refine codeAny_loop rfl I (fun n s hI=>?_) n h
 show wpAny _ A ((compTurn (.ListComp elt [⟨target,iter,ifs,0⟩] scope pos) 0 it acc env).onRaise (fun x=>do noteFrame x env;theTreesLotGoes x)) _ _ s
 refine wpAny_noted ?_
 rw [compTurn_list]
 refine bI (wpAny_standAt (bI (dw (turn n s hI) (fun r s₁ h₁=>?_) fun _ _ h'=>h')))
 cases r with
 | none=>exact cM h₁
 | some v=>
  refine bI (dw h₁ (fun _ s₁ h₁=>?_) fun _ _ h'=>h')
  refine bI (dw h₁ (fun _ s₂ h₂=>bI (dw h₂ (fun ok s₃ h₃=>?_) fun _ _ h'=>h')) fun _ _ h'=>h')
  cases ok with
  | false=>exact cM ⟨rfl,h₃⟩
  | true=>
   exact bI (bI (dw h₃ (fun x s₄ h₄=>bI (dw h₄ (fun _ s₅ h₅=>cM (cM ⟨rfl,h₅⟩)) fun _ _ h'=>h')) fun _ _ h'=>h'))
end
def Eg(K:aB)(wi:TI)(ρ:St→St)(tt:TT)(te:TE):TE:=fun σ H Q=>wi σ H fun J H1=>∀D,H1 D=none→∃W:Nat→Nat→List V→Hp→Prop,(∃m,W 0 m [] (upd H1 D (.lst []))) ∧
 ∀i m ys Hc,W i m ys Hc→Hc D=some (.lst ys)∧((J.stop i Hc∧Q (.ref D) Hc)∨(J.go i Hc∧∀v H',J.fm i Hc v H'→∃T x1 x2,v=.ref T∧dH K H' T [x1,x2]∧tt (some x1::some x2::ρ σ) H' fun b H2=>
  if b=true then te (some x1::some x2::ρ σ) H2 fun y H3=>H3 D=some (.lst ys)∧ys.length<sizeLine∧∃m',m'<m∧W (i+1) m' (ys++[y]) (upd H3 D (.lst (ys++[y]))) else ∃m',m'<m∧W (i+1) m' ys H2))
section
variable {X:Cx} {N:List Str} {scope:Scope} {cl:List (Str×Addr)} {x y:Str} {px py pos tp:Pos} {yq:Nat} {iter elt:Expr} {ifs:List Expr} {wi:TI} {ρ:St→St} {tt:TT} {te:TE}
structure Kb (X:Cx) (N:List Str) (scope:Scope) (cl:List (Str×Addr)) (x y:Str) (ρ:St→St):Prop where
 AF:closureFor scope X.env=pure cl
 kind:scope.kind=.function
 AG:∀y∈scope.names,y.2≠.cell
 names:∀y∈scope.names,y.2=.local→scope.names.lookup y.1=some .local
 sub:∀p∈cl,X.env.cells.lookup p.1=some p.2
 has:∀y,((relabel scope X.env).names.lookup y=some .cell∨(relabel scope X.env).names.lookup y=some .free)→∃c,cl.lookup y=some c
 n0:N[0]?=some x
 n1:N[1]?=some y
 nd:N.Nodup
 hx:scope.names.lookup x=some .local
 hy:scope.names.lookup y=some .local
 AH:∀(σ:St) (j:Nat) (v:V),(ρ σ)[j]?=some (some v)→∃(i:Nat) (y:Str),N[j+1+1]?=some y∧X.N[i]?=some y∧σ[i]?=some (some v)∧oE X.env.scope y∧(X.env.kindOf y=some .cell∨X.env.kindOf y=some .free)∧((relabel scope X.env).names.lookup y=some .cell∨(relabel scope X.env).names.lookup y=some .free)
 len:∀σ:St,σ.length=X.N.length→(ρ σ).length+1+1=N.length
theorem A1(is:List Nat)(h1:closureFor scope X.env=pure cl)(h:AJ X scope N.tail.tail is:=by repeat' first | exact True.intro | refine And.intro ⟨rfl,Or.inr (Or.inl rfl),.inl rfl,.inl rfl⟩ ?_)(h2:scope.kind=.function:=by rfl)(h3:∀y∈scope.names,y.2≠.cell:=by decide +kernel)(h4:∀y∈scope.names,y.2=.local→scope.names.lookup y.1=some .local:=by decide +kernel)(h5:∀p∈cl,X.env.cells.lookup p.1=some p.2:=by repeat' first | exact List.forall_mem_nil _ | refine List.forall_mem_cons.mpr ⟨rfl,?_⟩)(h6:((relabel scope X.env).names.all fun q=>(q.2 != .cell && q.2 != .free) || (cl.lookup q.1).isSome)=true:=by rfl)(h7:N[0]?=some x:=by rfl)(To:N[1]?=some y:=by rfl)(h8:N.Nodup:=by decide +kernel)(h9:scope.names.lookup x=some .local:=by rfl)(Tp:scope.names.lookup y=some .local:=by rfl)(hr:∀σ:St,ρ σ=is.map fun i=>σ[i]?.join:=by exact fun _=>rfl)(hl:is.length+1+1=N.length:=by rfl):Kb X N scope cl x y ρ:=
 ⟨h1,h2,h3,h4,h5,JN h6,h7,To,h8,h9,Tp,fun σ j v e=>by rw [hr] at e;rw [←List.getElem?_tail,←List.getElem?_tail];exact D5 h σ j v e,fun σ _=>by rw [hr,aG];exact hl⟩
theorem A2(B:Kb X N scope cl x y ρ)(hc:X.calm=true)(hi:PI X (.Tuple [.Name x px,.Name y py] yq tp) iter wi)(ht:∀s₃ H₃ fp,oN (X.cw N scope cl s₃ H₃ fp) ifs tt)(he:∀s₃ H₃ fp,PE (X.cw N scope cl s₃ H₃ fp) elt te)
  (hs:∀x,foldedSetIterable iter X.env x=pure x:=by intro _;rfl):PE X (.ListComp elt [⟨.Tuple [.Name x px,.Name y py] yq tp,iter,ifs,0⟩] scope pos) (Eg X.K wi ρ tt te):=by
 intro pins s σ H Q I h
 rw [eval_ListComp]
 refine Dg (use:=none) rfl hs B.AF B.kind B.names (aS (hi pins s σ H _ I h) fun v s1 h1=>aS h1 fun xZ s2 h2=>?_)
 obtain ⟨it,fp,tn,J,H2,rfl,I2,T,gY,f2,q2⟩:=h2
 have nD:H2 s2.heap.objs.size=none:=I2.aC.fresh (aE _)
 obtain ⟨W,⟨m0,w0⟩,turn⟩:=q2 _ nD
 refine oq (wpAny_newFunctionEnv B.AG (by intro y hy;simp at hy) (fun h₁ je jf=>?_) B.kind)
 dsimp only at je jf ⊢
 generalize hD:s2.heap.objs.size=D at nD w0 turn je jf ⊢
 generalize g_:({s2 with heap:=s2.heap.push {cls:=.type "list",dict:=none,data:=.seq ([]:List Value).toArray}}:Shared)=s3
 have I3:Inv X pins σ (upd H2 D (.lst [])) s3:=by
  subst hD g_
  exact I2.laid (t':=s2.toks) (fun b u e=>dy _ e) (aE _) ⟨cN _,[],_,.nil,fZ _ rfl⟩
 have e3:s3.heap=s2.heap.push {cls:=.type "list",dict:=none,data:=.seq ([]:List Value).toArray}:=by rw [←g_]
 have jg:∀b o,s2.heap.get? b=some o→s3.heap.get? b=some o:=fun b o e=>by rw [e3];exact dy _ e
 rw [←e3] at je jf ⊢
 have below:∀b o,s3.heap.get? b=some o→b≠s3.heap.objs.size:=fun b o e=>dR (cg e)
 have fQ:∀b o,s3.heap.get? b=some o→h₁.get? b=some o:=fun b o e=>jf.extBut b o (below b o e) (dy _ e)
 have lE:∀b∈fp,∃o,s2.heap.get? b=some o∧∀v,o.data≠.cell v:=T.obj _ _ gY
 have ye:∀b∈fp,b≠D:=fun b hb z=>by
  obtain ⟨o,e,_⟩:=lE b hb
  rw [z,←hD] at e
  exact absurd (cg e) (iF _)
 have fg:∀y c,cl.lookup y=some c→X.env.cells.lookup y=some c:=fun y c e=>B.sub (y,c) (mQ e)
 have yf:=I3.xP
 have eM:(X.cw N scope cl s3 (upd H2 D (.lst [])) fp).Ok:=by
  refine ⟨I.ok.mod,B.kind,I.ok.glob,I.ok.blt,aE _,fun a b c e1 e2=>I.ok.inj a b c (fg a c e1) (fg b c e2),fun y hy=>B.has y hy,(fun _ _ z _=>absurd z dZ),(fun _=>I.ok.hd hc),I.ok.frames,.inl rfl,fun b hb=>⟨?_,fun y c e z=>?_⟩,fun b o e=>?_,aj I.ok.jF I3.sz,fun b o e hb=>?_,fun b hb z=>?_,I3.stack,yf⟩
  ·obtain ⟨o,e,_⟩:=lE b hb
   exact below b o (jg b o e)
  ·exact (f2 b hb).2.2.2.2.1 y c (fg y c e) z
  ·exact I3.bs b o e
  ·rcases (f2 b hb).2.2.2.1 with z | z
   ·exact I.ok.pX b o e z
   ·exact absurd (fh (cg e) (aj I.ok.jF z)) (iF _)
  ·rcases cH.mp (I3.xO b z) with z | z
   ·exact (f2 b hb).2.1 z
   ·exact (f2 b hb).2.2.1 z
 have IB:∀tk:Nat,Inv (X.cw N scope cl s3 (upd H2 D (.lst [])) fp) [] (none::none::ρ σ) (upd H2 D (.lst [])) {s3 with heap:=h₁,toks:=tk}:=fun tk=>by
  refine ⟨eM,rfl,I3.bare,Un.kept fQ,⟨_,je,fun j y v e1 e2 e3=>?_⟩,fun y c e=>?_,?_,fun y c e=>I3.ko y c (fg y c e),(fun p hp=>nomatch hp),I3.aC.kept fQ,?_⟩
  ·cases j with
   | zero=>cases e2
   | succ j=>
   cases j with
   | zero=>cases e2
   | succ j=>
    obtain ⟨i,y',a1,a2,a3,a4,a5,a6⟩:=B.AH σ j v e2
    have yg:N[j+1+1]?=some y:=e1
    rw [yg] at a1
    cases a1
    obtain ⟨m,hn,hl⟩:=I3.loc
    obtain ⟨u,r,l⟩:=hl i y v a2 a3 a4
    refine ⟨u,r,.inr ⟨a6,?_⟩⟩
    obtain ⟨c,ec⟩:=B.has y a6
    rcases l with ⟨k,_⟩ | ⟨_,c',oO,z⟩
    ·rcases a5 with q | q <;> (rw [k] at q;cases q)
    ·have:=fg y c ec
     rw [this] at oO
     cases oO
     obtain ⟨o,ho,hd⟩:=z
     exact ⟨c,ec,o,fQ _ _ ho,hd⟩
  ·obtain ⟨v,o,ho,hd⟩:=I3.cell y c (fg y c e)
   exact ⟨v,o,fQ _ _ ho,hd⟩
  ·exact I3.aC.fresh (aE _)
  ·show (none::none::ρ σ).length=N.length
   rw [d8,d8]
   exact B.len σ I.len
 have fin:∀{σ':St} {H':Hp} {s':Shared},Inv (X.cw N scope cl s3 (upd H2 D (.lst [])) fp) [] σ' H' s'→Q (.ref D) H'→compPost (model X.prog X.w) X.A X.xe none (EP X pins σ Q) (.ref D) s3.heap.objs.size (.ok .next) s':=fun{σ' H' s'} J q=>by
  obtain ⟨m,hn,_⟩:=J.loc
  refine ⟨m,hn,fun h' jh=>⟨.ref D,H',?_,rfl,q⟩⟩
  have old:∀b o,s3.heap.get? b=some o→b≠s3.heap.objs.size:=below
  have u1:Un (cY X.stack) fp (upd H2 D (.lst [])) H' s3.heap h':=by
   refine ⟨fun b o e n hb hx=>?_,fun b o e n hb hx=>?_,J.base.free,fun b o e hx=>?_,J.base.iK,J.base.ie,J.base.iL⟩
   ·exact (jh.2 b (old b o e)).trans (J.base.keep b o e n hb hx)
   ·obtain ⟨sl,z⟩:=J.base.slot b o e n hb hx
    exact ⟨sl,(jh.2 b (old b o e)).trans z⟩
   ·obtain ⟨o',z⟩:=J.base.there b o e hx
    exact ⟨o',(jh.2 b (old b o e)).trans z⟩
  have yh:cL X.prog X.w H' h':=fun b u e=>by
   refine (J.aC b u e).gf (fun c v hc z=>(jh.2 c fun y=>?_).trans z) (fun _ z=>z) fun _ _ z=>z
   have fr:=J.free
   have y':c=s3.heap.objs.size:=y
   rcases hc with hc | hc
   ·rw [←hc,y'] at e
    exact absurd (fr.symm.trans e) (by simp)
   ·rw [y'] at hc
    exact absurd (fr.symm.trans hc) (by simp)
  refine I3.oF (s':={s' with heap:=h'}) (ch:=fp) (J.os) u1 yh J.bare fun b hb=>?_
  obtain ⟨g0,g1,g2,g3,g4,g5⟩:=f2 b hb
  exact ⟨g3,g1,g4,g5⟩
 have iP:∀{H':Hp},(∀b∈fp,H' b=none)→∀b∈fp,ni (X.cw N scope cl s3 (upd H2 D (.lst [])) fp) [] H' b:=fun hn b hb=>by
  refine ⟨hn b hb,?_,?_,.inl hb,fun y c e z=>(f2 b hb).2.2.2.2.1 y c (fg y c e) z,fun p hp=>nomatch hp⟩
  ·obtain ⟨o,e,_⟩:=lE b hb
   exact below b o (jg b o e)
  ·exact eM.pY b hb
 have loop:∀tk:Nat,codeAny (model X.prog X.w) X.A (.compLoop (.ListComp elt [⟨.Tuple [.Name x px,.Name y py] yq tp,iter,ifs,0⟩] scope pos) 0 (.ref it) (.ref D) (compEnvC scope cl s3.heap.objs.size X.env))
   (compPost (model X.prog X.w) X.A X.xe none (EP X pins σ Q) (.ref D) s3.heap.objs.size) {s3 with heap:=h₁,toks:=tk}:=fun tk=>by
  refine Tn (fun n s'=>∃i ys o o2 H',Inv (X.cw N scope cl s3 (upd H2 D (.lst [])) fp) [] (o::o2::ρ σ) H' s'∧tn i s'.heap∧(∀b∈fp,H' b=none)∧W i n ys H') ?_ m0
   ⟨0,[],none,none,_,IB tk,T.keep _ _ _ gY fun b hb o e=>fQ _ _ (jg _ _ e),fun b hb=>by rw [a9 (ye b hb)];exact (f2 b hb).1,w0⟩
  rintro n s4 ⟨i,ys,o,o2,H4,I4,oP,oQ,w4⟩
  obtain ⟨JO,yi⟩:=turn i n ys H4 w4
  rcases yi with ⟨stop,qn⟩ | ⟨go,step⟩
  ·refine dw (T.done (X.cw N scope cl s3 (upd H2 D (.lst [])) fp) rfl rfl rfl hc i [] s4 _ H4 (fun _ _=>False) I4 (iP oQ) oP stop) (fun r s5 ⟨hr,I5⟩=>?_) fun _ _ z=>z.elim
   subst hr
   exact fin I5 qn
  ·refine dw (T.item (X.cw N scope cl s3 (upd H2 D (.lst [])) fp) rfl rfl rfl hc i [] s4 _ H4 (fun _ _=>False) I4 (iP oQ) oP go) (fun r s5 ⟨u,hr,h5⟩=>?_) fun _ _ z=>z.elim
   subst hr
   refine dw h5 (fun _ s5 ⟨y0,H5,I5,r5,y5,iQ,qd⟩=>?_) fun _ _ z=>z.elim
   obtain ⟨Tt,x1,x2,e0,Tq,yj⟩:=step y0 _ y5
   subst e0
   have qe:=I5.pinned (iP qd) (T.obj _ _ iQ)
   have pg:PG (X.cw N scope cl s3 (upd H2 D (.lst [])) fp) (.Tuple [.Name x px,.Name y py] yq tp) (Iv X.K 2 (Dw (bH 0) (Dw (bH 1) Iu))):=
    xW (X:=X.cw N scope cl s3 (upd H2 D (.lst [])) fp) hc (l8 (eh (i:=0) B.nd B.n0 (.inl (ox B.hx)) (.inr (ox B.hx))) (l8 (eh (i:=1) B.nd B.n1 (.inl (ox B.hy)) (.inr (ox B.hy))) xV))
   have again:∀{σ7:St} {H7:Hp} {s7:Shared},Inv (X.cw N scope cl s3 (upd H2 D (.lst [])) fp) ([]++ma fp s5.heap) σ7 H7 s7→Inv (X.cw N scope cl s3 (upd H2 D (.lst [])) fp) [] σ7 H7 s7∧tn (i+1) s7.heap∧∀b∈fp,H7 b=none:=fun{σ7 H7 s7} I7=>by
    refine ⟨I7.tZ,T.keep _ _ _ iQ fun b hb o e=>(I7.pin (b,o) (fC _ (fC _ (oI hb e)))).1,fun b hb=>?_⟩
    obtain ⟨o,e,d⟩:=T.obj _ _ iQ b hb
    exact (I7.pin (b,o) (fC _ (fC _ (oI hb e)))).2.1
   refine dw (pg _ s5 _ H5 (.ref Tt) u (fun σ2 H6=>σ2=some x1::some x2::ρ σ∧H6=H5) qe r5 ⟨Tt,_,rfl,Tq,rfl,_,_,rfl,_,_,rfl,rfl,rfl,rfl⟩) (fun _ s6 ⟨σ6,H6,I6,q6⟩=>?_) fun _ _ z=>z.elim
   obtain ⟨rfl,rfl⟩:=q6
   have tests:∀{lF:TT},oN (X.cw N scope cl s3 (upd H2 D (.lst [])) fp) ifs lF→∀{R:Bool→Hp→Prop},lF (some x1::some x2::ρ σ) H6 R→wpAny (model X.prog X.w) X.A
     (forIn ifs true fun c r=>if r=true then do let ok ←isTrue c (compEnvC scope cl s3.heap.objs.size X.env) (eval c (compEnvC scope cl s3.heap.objs.size X.env));pure (ForInStep.yield ok) else pure (ForInStep.yield r))
     (fun ok s7=>∃H7,Inv (X.cw N scope cl s3 (upd H2 D (.lst [])) fp) ([]++ma fp s5.heap) (some x1::some x2::ρ σ) H7 s7∧R ok H7) (fun _ _=>False) s6:=fun{lF} p {R} hR=>by
    cases p with
    | nil=>exact wpAny_tests_nil ⟨_,I6,hR⟩
    | one p=>exact wpAny_tests_one (p _ s6 _ _ _ I6 hR)
   refine dw (tests (ht s3 _ fp) yj) (fun ok s7 ⟨H7,I7,q7⟩=>?_) fun _ _ z=>z.elim
   cases ok with
   | false=>
    obtain ⟨m',ji,w7⟩:=q7
    obtain ⟨a1,a2,a3⟩:=again I7
    exact ⟨m',ji,i+1,ys,_,_,H7,a1,a2,a3,w7⟩
   | true=>
    refine dw (he s3 _ fp _ s7 _ H7 _ I7 q7) (fun ev s8 ⟨z,H8,I8,r8,yk,hz,m',ji,w8⟩=>?_) fun _ _ z=>z.elim
    refine dw (Av (X:=X.cw N scope cl s3 (upd H2 D (.lst [])) fp) _ s8 _ H8 (.ref D) [z] (.ref D) [ev] (fun _ H9=>H9=upd H8 D (.lst (ys++[z]))) I8 rfl (.cons r8 .nil) ⟨D,ys,z,rfl,rfl,yk,hz,rfl⟩) (fun _ s9 ⟨_,H9,I9,_,q9⟩=>?_) fun _ _ z=>z.elim
    subst q9
    obtain ⟨a1,a2,a3⟩:=again I9
    exact ⟨m',ji,i+1,ys++[z],_,_,_,a1,a2,a3,w8⟩
 have start:=loop (s3.toks+([]:List (Str×Value)).length)
 have es:({s3 with heap:=h₁,toks:=s3.toks+([]:List (Str×Value)).length}:Shared)={s2 with heap:=h₁,toks:=s2.toks+([]:List (Str×Value)).length}:=by rw [←g_]
 rw [es] at start
 exact Dh start (T.self _ 0 _ _ _ (T.keep _ _ _ gY fun b hb o e=>fQ _ _ (jg _ _ e)) start)
end
section
variable {X:Cx}
def anyR(K:aB):List V→Hp→VK→Prop:=fun xs H Q=>∃(p:Addr) (bs:List Bool),xs=[.ref p]∧aZ K H p (bs.map V.bl)∧Q (.bl (bs.any id)) H
theorem Tr(hc:X.calm=true)(hK:X.K=K:=by rfl):ig X (.builtin "any") (anyR K):=by
 intro pins s σ H xs us Q I r h;subst hK;obtain ⟨p,bs,rfl,hq,q⟩:=h;obtain ⟨u,rfl,ru⟩:=vals1 r;cases ru;obtain ⟨ak,rv,pl,hz⟩:=I.list hq;have fI:p≠s.heap.objs.size:=by obtain ⟨o,e,_⟩:=pl.isList;exact dR (cg e)
 have hl:ak.length=bs.length:=by rw [←rv.length,aG]
 refine call_any_walk (zO pl.isList ?_);refine ⟨s.heap.objs.size,_,_,_,_,_,fun i=>bs.getD i false,rfl,Walks.list (A:=X.A.in1) (show X.A.in1.handled=none from I.ok.hd hc) s.heap.objs.size p fI ak.toArray,⟨⟨_,fZ _ rfl,rfl,rfl⟩,pl.isList.push _⟩,fun i v s' Q' E' hv jI=>?_,fun h' tk hk=>?_⟩
 ·have iq:ak[i]?=some v:=by simpa using hv
  cases eb:bs[i]? with
  | none=>
   have:=rv.none_of (i:=i) (by rw [cB,eb];rfl)
   rw [this] at iq;cases iq
  | some b=>
   obtain ⟨u,hu,ru⟩:=rv.get (i:=i) (x:=V.bl b) (by rw [cB,eb];rfl)
   rw [hu] at iq;cases iq;cases ru;have e:bs.getD i false=b:=by rw [d9,eb];rfl
   have jj:Q' (bs.getD i false) s':=jI;rw [e] at jj;exact mO jj
 ·refine ⟨.bl (bs.any id),H,I.kept fun b o e=>hk b o (fun z=>?_) (dy _ e),?_,q⟩
  ·exact absurd (cg e) (by rw [gA.mp z];exact iF _)
  ·show Value.bool _=Value.bool _
   congr 1
   rw [df,hl];clear hk q rv pl hz hl hq
   induction bs with
   | nil=>rfl
   | cons b bs ih=>rw [d8,zU,xE,List.any_map,xE];show (b || (List.range bs.length).any fun i=>bs.getD i false)=(b || bs.any id);rw [ih]
def Ts(K:aB):List V→Hp→VK→Prop:=fun xs H Q=>∃(p:Addr) (ns:List Int),xs=[.ref p]∧aZ K H p (ns.map V.int)∧Q (.int ns.sum) H
theorem Tu:∀(ns:List Int),preSum (fun i=>ns.getD i 0) ns.length=ns.sum:=by
 intro ns;have key:∀k,k≤ns.length→preSum (fun i=>ns.getD i 0) k=(ns.take k).sum:=by
  intro k
  induction k with
  | zero=>intro _;rfl
  | succ k ih=>
   intro hk;show preSum (fun i=>ns.getD i 0) k+ns.getD k 0=_;rw [ih (by lia),List.take_add_one,zY]
   have e:ns[k]?=some ns[k]:=by simp [show k<ns.length by lia]
   rw [d9,e];simp
 rw [key ns.length (aE _),k4]
theorem Ke(hc:X.calm=true)(hK:X.K=K:=by rfl):ig X (.builtin "sum") (Ts K):=by
 intro pins s σ H xs us Q I r h;subst hK;obtain ⟨p,ns,rfl,hq,q⟩:=h;obtain ⟨u,rfl,ru⟩:=vals1 r;cases ru;obtain ⟨ak,rv,pl,hz⟩:=I.list hq;have fI:p≠s.heap.objs.size:=by obtain ⟨o,e,_⟩:=pl.isList;exact dR (cg e)
 have hl:ak.length=ns.length:=by rw [←rv.length,aG]
 refine call_sum_walkG (zO pl.isList ?_);refine ⟨s.heap.objs.size,_,_,_,_,_,fun i=>ns.getD i 0,rfl,Walks.list (A:=X.A.in1) (show X.A.in1.handled=none from I.ok.hd hc) s.heap.objs.size p fI ak.toArray,⟨⟨_,fZ _ rfl,rfl,rfl⟩,pl.isList.push _⟩,?_,fun i v hv=>?_,fun h' tk t' hk=>?_⟩
 ·intro b hb
  rw [Heap.size_push];simp only [cH,j8,j9] at hb;rcases hb with rfl | rfl;·exact zR _
  ·obtain ⟨o,e,_⟩:=pl.isList
   exact Nat.lt_succ_of_lt (cg e)
 ·have iq:ak[i]?=some v:=by simpa using hv
  cases eb:ns[i]? with
  | none=>
   have:=rv.none_of (i:=i) (by rw [cB,eb];rfl)
   rw [this] at iq;cases iq
  | some b=>
   obtain ⟨u,hu,ru⟩:=rv.get (i:=i) (x:=V.int b) (by rw [cB,eb];rfl)
   rw [hu] at iq;cases iq;obtain ⟨t,rfl⟩:=ru;exact ⟨t,by show Value.int b t=Value.int (ns.getD i 0) t;rw [d9,eb];rfl⟩
 ·refine ⟨.int ns.sum,H,I.kept fun b o e=>hk b o (fun z=>?_) (dy _ e),⟨t',?_⟩,q⟩
  ·exact absurd (cg e) (by rw [gA.mp z];exact iF _)
  ·congr 1
   rw [df,hl];exact Tu ns
end
theorem boot_any:bootBuiltins "any"=some (.builtin "any"):=by decide +kernel
theorem boot_sum:bootBuiltins "sum"=some (.builtin "sum"):=by decide +kernel
section
variable {M:Model} {A:Around} {E:aV} {s:Shared}
end
section
variable {X:Cx} {N:List Str} {scope:Scope} {cl:List (Str×Addr)} {x:Str} {px pos:Pos} {iter elt:Expr} {ifs:List Expr} {wi:TI} {ρ:St→St} {tt:TT} {te:TE}
end
def qv(K:aB)(H:Hp):Nat→V→V→Prop
 | 0,v,u=>v=u∧me v=true
 | n+1,v,u=>(v=u∧me v=true)∨∃a b xs ys,v=.ref a∧u=.ref b∧((aZ K H a xs∧aZ K H b ys)∨(dH K H a xs∧dH K H b ys))∧xs.length=ys.length∧∀(j:Nat) (x y:V),xs[j]?=some x→ys[j]?=some y→qv K H n x y
theorem Eh{v:V}(h:me v=true):nq v v=true:=by
 cases v with
 | bh=>rfl
 | bl b=>show (b == b)=true;simp
 | int i=>show (i == i)=true;simp
 | str x=>show (x == x)=true;simp
 | _=>cases h
theorem all_range(n:Nat):(List.range n).all (fun _=>true)=true:=by simp
section
variable {X:Cx} {pins:bg} {σ:St} {H:Hp} {s:Shared}
theorem Ei(I:Inv X pins σ H s):∀(n:Nat) (A:Around) (v u:V) (a b:Value),qv X.K H n v u→RelV v a→RelV u b→A.units+n<cLine→SeqAt.EqAt A s a b true
 | 0,A,v,u,a,b,h,ra,rb,hu=>by obtain ⟨rfl,hf⟩:=h;have z:=Au (A:=A) (s:=s) ra rb hf hf;rw [Eh hf] at z;exact z
 | n+1,A,v,u,a,b,h,ra,rb,hu=>by
  rcases h with ⟨rfl,hf⟩ | ⟨p,q,xs,ys,rfl,rfl,hs,hl,hi⟩
  ·have z:=Au (A:=A) (s:=s) ra rb hf hf
   rw [Eh hf] at z;exact z
  ·cases ra
   cases rb;by_cases pq:p=q
   ·subst pq
    exact SeqAt.EqAt.same _
   rcases hs with ⟨h1,h2⟩ | ⟨h1,h2⟩
   ·obtain ⟨us,r1,t1,_⟩:=I.list h1
    obtain ⟨vs,r2,t2,_⟩:=I.list h2;have l1:=r1.length;have l2:=r2.length;have z:=SeqAt.RcAt.lists (A:=A) (e:=fun _=>true) t1.isList t2.isList (by simp;lia) (by lia) (fun j z1 z2=>by
     have Ej:j<us.length:=by simpa using z1
     have Ek:j<vs.length:=by simpa using z2
     obtain ⟨x,ex⟩:∃x,xs[j]?=some x:=⟨xs[j],by simp [show j<xs.length by lia]⟩
     obtain ⟨y,ey⟩:∃y,ys[j]?=some y:=⟨ys[j],by simp [show j<ys.length by lia]⟩
     obtain ⟨x',m8,rx⟩:=r1.get ex;obtain ⟨y',qw,ry⟩:=r2.get ey;have e1:us.toArray[j]=x':=by simpa using (b6.mp m8).2
     have e2:vs.toArray[j]=y':=by simpa using (b6.mp qw).2
     rw [e1,e2];exact Ei I n A.in1 x y x' y' (hi j x y ex ey) rx ry (by rw [Around.in1_units];lia))
    rw [all_range] at z;exact SeqAt.EqAt.of_refs pq z
   ·obtain ⟨us,r1,t1,_⟩:=I.tuple h1
    obtain ⟨vs,r2,t2,_⟩:=I.tuple h2;have l1:=r1.length;have l2:=r2.length;have z:=SeqAt.RcAt.tuples (A:=A) (e:=fun _=>true) t1 t2 (by lia) (fun j z1 z2=>by
     have Ej:j<us.length:=by simpa using z1
     have Ek:j<vs.length:=by simpa using z2
     obtain ⟨x,ex⟩:∃x,xs[j]?=some x:=⟨xs[j],by simp [show j<xs.length by lia]⟩
     obtain ⟨y,ey⟩:∃y,ys[j]?=some y:=⟨ys[j],by simp [show j<ys.length by lia]⟩
     obtain ⟨x',m8,rx⟩:=r1.get ex;obtain ⟨y',qw,ry⟩:=r2.get ey;have e1:us.toArray[j]=x':=by simpa using (b6.mp m8).2
     have e2:vs.toArray[j]=y':=by simpa using (b6.mp qw).2
     rw [e1,e2];exact Ei I n A.in1 x y x' y' (hi j x y ex ey) rx ry (by rw [Around.in1_units];lia))
    have e3:(us.toArray.size == vs.toArray.size)=true:=by simp;lia
    rw [all_range,e3] at z;exact SeqAt.EqAt.of_refs pq z
end
section
variable {X:Cx}
def Tv(K:aB)(n:Nat)(r:Bool):R2:=fun x y H Q=>∃a b xs ys,x=.ref a∧y=.ref b∧aZ K H a xs∧aZ K H b ys∧xs.length=ys.length∧(∀(j:Nat) (x y:V),xs[j]?=some x→ys[j]?=some y→qv K H n x y)∧Q (.bl r) H
end
section
variable {X:Cx} {N:List Str} {scope:Scope} {cl:List (Str×Addr)} {x:Str} {px pos:Pos} {iter elt:Expr} {ifs:List Expr} {wi:TI} {ρ:St→St} {tt:TT} {te:TE}
end
structure El (J:It) (zs:List (V×V)) (H1:Hp):Prop where
 go:∀i Hc,ag H1 Hc→i<zs.length→J.go i Hc
 fm:∀i Hc v H',ag H1 Hc→J.fm i Hc v H'→∃T x y,v=.ref T∧Hc T=none∧H'=upd Hc T (.tup [x,y])∧(i<zs.length→zs[i]?=some (x,y))
 stop:∀i Hc,ag H1 Hc→zs.length≤i→J.stop i Hc
theorem A3{b:Addr}{ys:List V}(h1:aZ K H1 a xs)(h2:aZ K H1 b ys):El (Ef K a b) (xs.zip ys) H1 where
 go:=fun i Hc s hi=>by
  have hi:i<min xs.length ys.length:=by simpa using hi
  exact ⟨xs,ys,xs[i],ys[i],s.seq h1,s.seq h2,by simp [show i<xs.length by lia],by simp [show i<ys.length by lia]⟩
 fm:=fun i Hc v H' s y=>by obtain ⟨T,x,y,nT,ev,eH,hx⟩:=y;obtain ⟨e1,e2⟩:=hx xs ys (s.seq h1) (s.seq h2);exact ⟨T,x,y,ev,nT,eH,fun _=>by rw [zZ];exact ⟨e1,e2⟩⟩
 stop:=fun i Hc s hi=>by
  have hi:min xs.length ys.length≤i:=by simpa using hi
  exact ⟨xs,ys,s.seq h1,s.seq h2,by lia⟩
theorem Ki{zs:List (V×V)}(hE:∀R:It→Hp→Prop,(∀J H1,ag H H1→El J zs H1→R J H1)→wi σ H R)(hn:zs.length<sizeLine)
  (P:Nat→V→Prop)
  (step:∀i x y,zs[i]?=some (x,y)→∀(Hc:Hp) (R:VK),ag H Hc→(∀v H3,ag Hc H3→P i v→R v H3)→te (some x::some y::ρ σ) Hc R)
  (fin:∀D vs Hc,ag H Hc→vs.length=zs.length→(∀(i:Nat) (v:V),vs[i]?=some v→P i v)→Hc D=some (.lst vs)→Q (.ref D) Hc):Eg K wi ρ (fun _ H Q=>Q true H) te σ H Q:=by
 refine hE _ fun J H1 s1 js=>?_;intro D nD;refine ⟨fun i m vs Hc=>m=zs.length-i∧i≤zs.length∧Hc D=some (.lst vs)∧ag H1 Hc∧vs.length=i∧∀(j:Nat) (v:V),vs[j]?=some v→P j v,⟨_,rfl,cN _,az,jq (ag.refl H1) nD,rfl,fun j y e=>by simp at e⟩,?_⟩
 rintro i m vs Hc ⟨rfl,hi,eD,sH,el,hP⟩;refine ⟨eD,?_⟩;by_cases cI:i<zs.length
 ·refine .inr ⟨js.go i Hc sH cI,fun v H' hy=>?_⟩
  obtain ⟨T,x,y,ev,nT,eH,hx⟩:=js.fm i Hc v H' sH hy;subst ev eH;refine ⟨T,x,y,rfl,.of az,?_⟩;dsimp only;rw [ai rfl];have sT:ag Hc (upd Hc T (.tup [x,y])):=fun b o e=>by rw [a9 (gX e nT)];exact e
  refine step i x y (hx cI) _ _ (s1.trans (sH.trans sT)) fun w H3 s3 hp=>?_;have e3:=s3 _ _ (sT _ _ eD);refine ⟨e3,by lia,zs.length-(i+1),by lia,rfl,cI,az,jq (sH.trans (sT.trans s3)) nD,by simp [el],fun j v' e=>?_⟩
  by_cases hj:j<i;·exact hP j v' (by rw [ic (by lia)] at e;exact e)
  ·have hj:j=i:=by have:=(b6.mp e).1;simp at this;lia
   subst hj;have e':v'=w:=by rw [gS (by lia),el,mV] at e;simpa using e.symm
   subst e';exact hp
 ·have e:i=zs.length:=by lia
  subst e;exact .inl ⟨js.stop _ Hc sH (aE _),fin D vs Hc (s1.trans sH) el hP eD⟩
theorem qx(hE:∀R:It→Hp→Prop,(∀J H1,ag H H1→nF J xs H1→R J H1)→wi σ H R)(hn:xs.length<sizeLine)
  (P:Addr→Nat→V→Hp→Prop) (mono:∀D i y H H' ys,P D i y H→H D=some (.lst ys)→(∀b o,b≠D→H b=some o→H' b=some o)→P D i y H')
  (step:∀D i x,xs[i]?=some x→∀(Hc:Hp) (R:VK),ag H Hc→(∃ys,Hc D=some (.lst ys))→(∀y H3,ag Hc H3→P D i y H3→R y H3)→te (some x::ρ σ) Hc R)
  (fin:∀D ys Hc,H D=none→ag H Hc→ys.length=xs.length→(∀(i:Nat) (y:V),ys[i]?=some y→P D i y Hc)→Hc D=some (.lst ys)→Q (.ref D) Hc):jO wi ρ (fun _ H Q=>Q true H) te σ H Q:=by
 refine hE _ fun J H1 s1 js=>?_;intro D nD;have hD:H D=none:=by
  cases e:H D with
  | none=>rfl
  | some o=>rw [s1 _ _ e] at nD;cases nD
 exact J8 (ρσ:=ρ σ) (te:=te) (Q:=Q) js nD hn (P D) (mono D) (fun i x hx Hc R sc=>step D i x hx Hc R (s1.trans sc)) (fun ys Hc sc=>fin D ys Hc hD (s1.trans sc))
section
variable {X:Cx} {K:aB}
theorem Em(hK:X.K=K:=by rfl):t8 X (Jv K):=by subst hK;exact a7
theorem nH(hK:X.K=K:=by rfl):t8 X (Ju K):=by subst hK;exact bW
def Tx(K:aB):List V→Hp→VK→Prop:=fun xs H Q=>∃p ys,xs=[.ref p]∧(aZ K H p ys∨dH K H p ys)∧Q (.int (ys.length:Int)) H
theorem Kj(hK:X.K=K:=by rfl):ig X (.builtin "len") (Tx K):=by subst hK;exact di
def Tz(K:aB):List V→Hp→VK→Prop:=fun xs H Q=>∃p ys,xs=[.ref p]∧(aZ K H p ys∨dH K H p ys)∧∀l,H l=none→Q (.ref l) (upd H l (.lst ys))
theorem TB(hK:X.K=K:=by rfl):ig X (.type "list") (Tz K):=by subst hK;exact oM
end
end L2
namespace My
open PySem L2
variable {te:TE} {σ:St} {H:Hp} {Q:VK}
theorem yr{r:List V→Hp→VK→Prop}(h:te σ H fun x H1=>r [x] H1 Q):Ap r (ql te oK) σ H Q:=h
theorem jr{D:Ends}(h:te σ H D.rt):Ip te D σ H:=h
theorem TC{t:TA}(h:te σ H fun x H1=>t σ H1 fun xs H2=>(x::xs).length≤sizeLine∧∀p,H2 p=none→Q (.ref p) (upd H2 p (.tup (x::xs)))):IY (ql te t) σ H Q:=h
def Kk(ts us:List Int):Int:=(List.zipWith (· * ·) ts us).sum
variable {i:Nat}
theorem TF{ts us:List Int}{x y:V}(h:((ts.map V.int).zip (us.map V.int))[i]?=some (x,y)):∃t u:Int,x=.int t∧y=.int u∧ts[i]?=some t∧us[i]?=some u:=by rw [zZ] at h;obtain ⟨h1,h2⟩:=h;rw [cB] at h1 h2;obtain ⟨t,e1,e2⟩:=Option.map_eq_some_iff.mp h1;obtain ⟨u,e3,e4⟩:=Option.map_eq_some_iff.mp h2;exact ⟨t,u,e2.symm,e4.symm,e1,e3⟩
theorem um{vs:List V}{ws:List Int}(hl:vs.length=ws.length)(h:∀(i:Nat) (v:V),vs[i]?=some v→∃w,ws[i]?=some w∧v=.int w):vs=ws.map V.int:=by
 refine List.ext_getElem? fun i=>?_;rw [cB];by_cases hi:i<vs.length
 ·obtain ⟨w,e1,e2⟩:=h i vs[i] (by simp [hi])
  rw [e1,show vs[i]?=some vs[i] by simp [hi],e2]
  rfl
 ·rw [xF (by lia),xF (by lia)]
  rfl
def Kl(H0 H:Hp)(v:V)(ts:List Int)(B:Int):Prop:=∃tp l:Addr,v=.ref tp∧H tp=some (.tup [.ref l,.int B])∧H l=some (.lst (ts.map V.int))∧H0 l=none
variable {m:Int}
theorem TH{b:Int}(hb:1≤b)(hm:1≤m):1≤b / (Int.gcd b m:Int)*m∧m∣b / (Int.gcd b m:Int)*m∧b∣b / (Int.gcd b m:Int)*m∧(b / (Int.gcd b m:Int)*m).natAbs≤b.natAbs*m.natAbs:=by
 have gp:=qt (a:=b) (b:=m) (by lia)
 obtain ⟨b',eb⟩:=mT (a:=b) (b:=m);obtain ⟨m',em⟩:=lU (a:=b) (b:=m);generalize Int.gcd b m=g at *;have g0:(g:Int)≠0:=by lia
 have gb:b / (g:Int)=b':=by rw [eb];exact f9 _ g0
 rw [gb];have b0:0<b':=oR (u:=(g:Int)) (by lia) (by rw [←eb];lia)
 have mp:0<b'*m:=oA b0 (by lia)
 refine ⟨by lia,pN ..,⟨m',?_⟩,?_⟩
 ·rw [em,eb]
  simp only [iH,dS,xA]
 ·rw [b_]
  refine pQ _ ?_;rw [←gb];exact mU ..
variable {α:Type}
theorem pick{β:Type}{xs:List α}{R:Nat→α→β→Prop}(h:∀(i:Nat) (x:α),xs[i]?=some x→∃w,R i x w):∃ws:List β,ws.length=xs.length∧∀(i:Nat) (x:α) (w:β),xs[i]?=some x→ws[i]?=some w→R i x w:=by
 refine ⟨List.ofFn fun i:Fin xs.length=>Classical.choose (h i.1 xs[i.1] (by simp)),by simp,fun i x w hx hw=>?_⟩
 have hi:i<xs.length:=(b6.mp hx).1;have ex:xs[i]=x:=(b6.mp hx).2;rw [List.getElem?_ofFn,dif_pos hi] at hw;have hw:=Option.some.inj hw;rw [←hw];have z:=Classical.choose_spec (h i xs[i] (by simp [hi]))
 rw [←ex];exact z
variable {q:Int}
theorem yt{b c:Int}(hq:aF q)(h1:¬q∣b)(h2:¬q∣c):¬q∣b*c:=fun h=>by
 rcases hq with rfl | ⟨q2,q3,q4⟩
 ·have z:=j_.mp h
  rcases mW.mp z with z | z;·exact h1 (by rw [z];exact j7 0)
  ·exact h2 (by rw [z];exact j7 0)
 ·have k1:=f_ c (show q≠0 by lia)
  have k2:=gU c (show 0<q by lia)
  have k3:c % q≠0:=fun z=>h2 (Int.dvd_of_emod_eq_zero z);have g:=JY q2 q3 q4 (show 1≤c % q by lia) k2
  obtain ⟨w,ew⟩:=J5 c q;exact h1 (J4 q2 (S_ g ⟨-w,by rw [lV];lia⟩) h)
def cT(q:Int)(b:Int):Prop:=(q=0→1≤b)∧(q≠0→b=1)
variable {B:Nat} {v:V} {x:Int}
theorem bC.bot(h:bC B H q v x m)(hq:aF q):cT q m:=by
 cases h with
 | bA e l bx bm=>exact ⟨fun _=>l.pos,fun z=>absurd rfl z⟩
 | rem h0 h1 h2=>exact ⟨fun _=>by lia,fun _=>rfl⟩
theorem TJ{c:TT}{t u:TS}{D:Ends}(h:c σ H fun b H1=>if b=true then t D σ H1 else u D σ H1):xU c t u D σ H:=h
theorem TK{Q:Bool→Hp→Prop}(h:te σ H fun x H1=>∃c,x=.bl c∧Q c H1):tB te σ H Q:=h
theorem En{vs:List V}{b:Bool}(h:∀(i:Nat) (v:V),vs[i]?=some v→v=.bl b):vs=(List.replicate vs.length b).map V.bl:=by
 refine List.ext_getElem? fun i=>?_;rw [cB];by_cases hi:i<vs.length
 ·rw [show vs[i]?=some vs[i] by simp [hi],h i vs[i] (by simp [hi])]
  simp [hi]
 ·rw [xF (by lia),xF (by simp;lia)]
  rfl
theorem TL(n:Nat):(List.replicate n false).any id=false:=by simp
theorem Km(n:Nat):(List.replicate n true).all id=true:=by simp
theorem Eo{n:Nat}(h:((List.range n).map fun i:Nat=>V.int (0+(i:Int)))[i]?=some v):i<n∧v=.int (i:Int):=by
 have cf:i<n:=by have:=(b6.mp h).1;simpa using this
 refine ⟨cf,?_⟩;rw [cB] at h;simp [cf] at h;exact h.symm
variable {H':Hp} {b:Addr}
theorem none_of(s:ag H H')(h:H' b=none):H b=none:=by
 cases e:H b with
 | none=>rfl
 | some o=>rw [s _ _ e] at h;cases h
variable {K:aB} {u:V}
theorem Kn{t b t' b':Int}(hv:mj H q v t b)(hu:mj H q u t' b')(e:t*b'=t'*b)(n:Nat):qv K H (n+1) v u:=by
 rcases Tb hv hu e with ⟨p,p',x,m,rfl,rfl,e1,e2⟩ | ⟨i,rfl,rfl⟩
 ·refine .inr ⟨p,p',_,_,rfl,rfl,.inr ⟨.of e1,.of e2⟩,rfl,fun j x y h1 h2=>?_⟩
  rw [h1] at h2;cases h2;have hf:me x=true:=by
   match j,h1 with
   | 0,h1=>cases h1;rfl
   | 1,h1=>cases h1;rfl
   | j+2,h1=>cases h1
  cases n with
  | zero=>exact ⟨rfl,hf⟩
  | succ n=>exact .inl ⟨rfl,hf⟩
 ·exact .inl ⟨rfl,rfl⟩
def o1:Int×Int:=(0,1)
theorem getD_at{α:Type}{xs:List α}{d:α}(hi:i<xs.length):xs.getD i d=xs[i]:=by
 rw [d9,show xs[i]?=some xs[i] by simp [hi]]
 rfl
def gI(q:Int)(p t:Int×Int):Prop:=q∣p.1*t.2-t.1*p.2
def ah:Nat→(Nat→Int)→Int
 | 0,_=>0
 | n+1,f=>f 0+ah n fun i=>f (i+1)
theorem bZ:∀{n:Nat} {f g:Nat→Int},(∀i,i<n→f i=g i)→ah n f=ah n g
 | 0,f,g,_=>rfl
 | n+1,f,g,h=>by unfold ah;rw [h 0 (by lia),bZ fun i hi=>h (i+1) (by lia)]
theorem jS:∀(n:Nat) (f g:Nat→Int),ah n (fun i=>f i+g i)=ah n f+ah n g
 | 0,f,g=>rfl
 | n+1,f,g=>by show f 0+g 0+ah n (fun i=>f (i+1)+g (i+1))=(f 0+ah n fun i=>f (i+1))+(g 0+ah n fun i=>g (i+1));rw [jS n];lia
theorem cU(c:Int):∀(n:Nat) (f:Nat→Int),c*ah n f=ah n fun i=>c*f i
 | 0,f=>by unfold ah;rw [dE]
 | n+1,f=>by unfold ah;rw [tS,cU c n]
theorem nI:∀(n:Nat),ah n (fun _=>0)=0
 | 0=>rfl
 | n+1=>by unfold ah;rw [nI n];rfl
theorem Ep:∀(n m:Nat) (F:aX),ah n (fun i=>ah m fun j=>F i j)=ah m fun j=>ah n fun i=>F i j
 | 0,m,F=>by show (0:Int)=_;rw [show (fun j=>ah 0 fun i=>F i j)=fun _=>(0:Int) from rfl,nI]
 | n+1,m,F=>by show (ah m fun j=>F 0 j)+ah n (fun i=>ah m fun j=>F (i+1) j)=ah m fun j=>F 0 j+ah n fun i=>F (i+1) j;rw [Ep n m,←jS]
theorem A4:∀(n j:Nat) (f:Nat→Int),j<n→ah n (fun i=>if i=j then f i else 0)=f j
 | n+1,0,f,_=>by
  show (if (0:Nat)=0 then f 0 else 0)+ah n (fun i=>if i+1=0 then f (i+1) else 0)=f 0
  rw [ai rfl,show (fun i=>if i+1=0 then f (i+1) else 0)=fun _=>(0:Int) from funext fun i=>ao (by lia),nI]
  lia
 | n+1,j+1,f,h=>by
  show (if (0:Nat)=j+1 then f 0 else 0)+ah n (fun i=>if i+1=j+1 then f (i+1) else 0)=f (j+1)
  rw [ao (by lia),show (fun i=>if i+1=j+1 then f (i+1) else 0)=fun i=>if i=j then (fun i=>f (i+1)) i else 0 from funext fun i=>by by_cases z:i=j <;> simp [z],A4 n j (fun i=>f (i+1)) (by lia)]
  lia
theorem yu(hB:1≤B){a:Int}(h:uj H q v a 1)(hq:aF q)(ha:a=0∨a=1):bC B H q v a 1:=by
 rcases h with ⟨rfl,r,rfl,e⟩ | ⟨q2,r,rfl,r0,r1,er⟩
 ·rw [(J2 a).1,(J2 a).2] at e
  exact .bA e ⟨by decide,zW ..⟩ (by rcases ha with rfl | rfl <;> simp [hB]) (by simpa using hB)
 ·have q3:q≤997:=by rcases hq with z | ⟨_,z,_⟩ <;> lia
  rw [pP (show (0:Int)≤1 by decide) (show (1:Int)<q by lia),d7,pP r0 r1] at er
  have ea:a % q=a:=pP (by lia) (by lia)
  rw [ea] at er;subst er;exact .rem r0 r1 q3
theorem A5(hq:aF q):¬mi q 1:=fun h=>by
 unfold mi at h;rcases hq with rfl | ⟨q2,q3,q4⟩;·rw [ai rfl] at h;lia
 ·rw [ao (by lia),pP (by lia) (by lia)] at h;lia
theorem cT.mul{a b:Int}(h1:cT q a)(h2:cT q b):cT q (a*b):=⟨fun z=>by
  have:=oA (show 0<a by have:=h1.1 z;lia) (show 0<b by have:=h2.1 z;lia)
  lia,fun z=>by rw [h1.2 z,h2.2 z];rfl⟩
theorem cT.one:cT q 1:=⟨fun _=>by decide,fun _=>rfl⟩
theorem Ko(k m:Nat)(A:Nat→Int)(B:aX)(R:Nat→Int):(ah k fun j=>(ah m fun l=>A l*B l j)*R j)=ah m fun l=>A l*ah k fun j=>B l j*R j:=by
 have e1:(fun j=>(ah m fun l=>A l*B l j)*R j)=fun j=>ah m fun l=>A l*(B l j*R j):=funext fun j=>by rw [dS,cU];exact bZ fun l _=>by rw [dS,iH]
 rw [e1,Ep];exact bZ fun l _=>(cU ..).symm
def er(P:Addr)(H:Hp):Hp:=fun b=>if b=P then none else H b
variable {P:Addr}
theorem gJ:ag (er P H) H:=fun b o e=>by
 unfold er at e
 split at e
 ·cases e
 ·exact e
theorem nJ(h:b≠P):er P H b=H b:=ao h
variable {o:HO}
theorem qy(h:b≠P)(e:H b=some o):er P H b=some o:=by rw [nJ h];exact e
theorem nK(s:ag H H'):ag (er P H) (er P H'):=fun b o e=>by
 unfold er at e ⊢
 split at e
 ·cases e
 ·rename_i h
  rw [ao h];exact s _ _ e
theorem Kp:er P (upd H P o)=er P H:=funext fun b=>by
 unfold er
 split
 ·rfl
 ·rename_i h
  exact a9 h
def cJ(H:Hp)(P a:Addr):Prop:=∃x y:Int,H P=some (.lst [.ref a,.int x,.int y])∧0≤x∧0≤y
variable {a:Addr}
theorem cJ.mono(h:cJ H P a)(s:ag H H'):cJ H' P a:=by obtain ⟨x,y,e,h1,h2⟩:=h;exact ⟨x,y,s _ _ e,h1,h2⟩
variable {D:Addr}
theorem cJ.upd(h:cJ H P a)(n:D≠P):cJ (L2.upd H D o) P a:=by obtain ⟨x,y,e,h1,h2⟩:=h;exact ⟨x,y,by rw [a9 n.symm];exact e,h1,h2⟩
theorem cJ.ne(h:cJ H P a)(n:H D=none):D≠P:=fun z=>by obtain ⟨x,y,e,_⟩:=h;rw [z,e] at n;cases n
def aQ(P:Addr)(H H':Hp):Prop:=ag (er P H) (er P H')
theorem aQ.refl(H:Hp):aQ P H H:=ag.refl _
theorem aQ.trans{H2:Hp}(s:aQ P H H')(t:aQ P H' H2):aQ P H H2:=ag.trans s t
theorem aQ.of(s:ag H H'):aQ P H H':=nK s
theorem aQ.mx:aQ P H (upd H P o):=by unfold aQ;rw [Kp];exact ag.refl _
theorem aQ.but(s:aQ P H H')(n:H D=none):aQ P H (upd H' D o):=fun b u e=>by
 have e0:=s b u e;have nb:b≠P:=fun z=>by unfold er at e;rw [ai z] at e;cases e
 rw [nJ nb] at e e0 ⊢;rw [a9 (gX e n)];exact e0
theorem aQ.at(s:aQ P H H')(nb:b≠P)(e:H b=some o):H' b=some o:=by have z:=s b o (qy nb e);rw [nJ nb] at z;exact z
def bK(B:Nat)(H:Hp)(q:Int)(a:Addr)(ps:aR):Prop:=∃vs:List V,H a=some (.lst vs)∧vs.length=ps.length∧∀(i:Nat) (v:V) (p:Int×Int),vs[i]?=some v→ps[i]?=some p→bC B H q v p.1 p.2
variable {ps:aR}
theorem bK.mono(h:bK B H q a ps)(s:ag H H'):bK B H' q a ps:=by obtain ⟨vs,e,l,k⟩:=h;exact ⟨vs,s _ _ e,l,fun i v p h1 h2=>(k i v p h1 h2).mono s⟩
variable {B':Nat}
theorem bC.weak(h:bC B H q v x m)(hb:B≤B'):bC B' H q v x m:=by
 cases h with
 | bA e l bx bm=>exact .bA e l (aj bx hb) (aj bm hb)
 | rem h0 h1 h2=>exact .rem h0 h1 h2
theorem bK.weak(h:bK B H q a ps)(hb:B≤B'):bK B' H q a ps:=by obtain ⟨vs,e,l,k⟩:=h;exact ⟨vs,e,l,fun i v p h1 h2=>(k i v p h1 h2).weak hb⟩
theorem af0(hq:aF q)(h1:bK B H q a ps)(h2:bK B' H q b ps)(n:Nat):qv K H (n+2) (.ref a) (.ref b):=by
 obtain ⟨vs,e1,l1,f1⟩:=h1;obtain ⟨us,e2,l2,f2⟩:=h2;refine .inr ⟨a,b,vs,us,rfl,rfl,.inl ⟨.of e1,.of e2⟩,by lia,fun j x y hx hy=>?_⟩
 have hj:j<ps.length:=by rw [←l1];exact (b6.mp hx).1
 exact Kn ((f1 j x ps[j] hx (by simp [hj])).AS hq) ((f2 j y ps[j] hy (by simp [hj])).AS hq) rfl n
variable {R:VK}
theorem TM(hq:aF q){r:Bool}(h1:bK B H q a ps)(h2:bK B' H q b ps)(k:R (.bl r) H):Tv K 1 r (.ref a) (.ref b) H R:=by
 obtain ⟨vs,e1,l1,f1⟩:=h1;obtain ⟨us,e2,l2,f2⟩:=h2;refine ⟨a,b,vs,us,rfl,rfl,.of e1,.of e2,by lia,fun j x y hx hy=>?_,k⟩
 have hj:j<ps.length:=by rw [←l1];exact (b6.mp hx).1
 exact Kn ((f1 j x ps[j] hx (by simp [hj])).AS hq) ((f2 j y ps[j] hy (by simp [hj])).AS hq) rfl 0
theorem Kq(hv:bC B H q v x m)(hu:bC B' H q u 0 1)(k:R (.bl (decide (x=0))) H):JZ K v u H R:=by
 cases hv with
 | bA e l bx bm=>
  cases hu with
  | bA e' l' _ _=>
   refine .inr (.inr (.inl ⟨_,_,_,_,rfl,rfl,.of e,.of e',rfl,rfl,?_⟩));have z:(g9 [V.int x,V.int m] [V.int 0,V.int 1])=decide (x=0):=by
    show ((x == 0) && ((m == 1) && true))=_;by_cases hx:x=0
    ·subst hx
     have:=l.jk;rw [Int.gcd_zero_left] at this;have:=l.pos;have:m=1:=by lia
     subst this;rfl
    ·rw [eC hx,show (x == 0)=false from tL.mpr hx]
     rfl
   show R (.bl (g9 [V.int x,V.int m] [V.int 0,V.int 1])) H;rw [z];exact k
  | rem h0 h1 h2=>lia
 | rem h0 h1 h2=>
  cases hu with
  | bA=>lia
  | rem AW oZ qr=>
   refine .inr (.inr (.inr ⟨by simp [DF],?_⟩))
   rw [iW];exact k
def qz(ps:aR):Nat→Nat
 | 0=>0
 | n+1=>if (ps.getD n o1).1=0 then qz ps n else n+1
theorem Kr(ps:aR):∀n,qz ps n≤n
 | 0=>aE _
 | n+1=>by
  unfold qz
  split
  ·exact aj (Kr ps n) (Nat.le_succ n)
  ·exact aE _
def Er(ps:aR):List (Int×Int):=ps.take (qz ps ps.length)
end My
namespace L2
open PySem PySem.Spec PyProof.Rows
def TN(K:aB):R2:=fun x y H Q=>∃a b xs,x=.ref a∧y=.ref b∧aZ K H a xs∧H b=some (.lst [])∧(∀v∈xs,∃i,v=.int i)∧Q (.bl (!xs.isEmpty)) H
theorem TQ{X:Cx}(hu:X.A.units+64<cLine):cP X (compareOp .NotEq) (TN X.K):=by
 intro pins s σ H x y v u Q I rx ry h;obtain ⟨a,b,xs,rfl,rfl,h1,h2,_,q⟩:=h;cases rx;cases ry;obtain ⟨us,r1,t1,_⟩:=I.list h1;obtain ⟨vs,r2,t2,_⟩:=I.list (aZ.of h2);have l1:=r1.length;have l2:=r2.length;cases xs with
 | nil=>
  refine SeqAt.RcNeAt.lists (e:=fun _=>true) t1.isList t2.isList (by simp at l1 l2 ⊢;lia) (by lia) (fun j z1 z2=>?_) _ _ _ _ ?_
  ·simp at l1
   have:us=[]:=List.length_eq_zero_iff.mp l1.symm;subst this;simp at z1
  ·rw [all_range]
   exact ⟨.bl false,H,I,rfl,q⟩
 | cons w ws=>
  refine SeqAt.RcNeAt.lists_lengths t1.isList t2.isList ?_ (by lia) _ _ _ _ ⟨.bl true,H,I,rfl,q⟩
  simp at l1 l2 ⊢;lia
end L2
namespace My
open PySem L2
def lH(q:Int):Td:=if q=0 then .a "fractions" else .b "wheel" q
variable {q:Int}
theorem TR(hq:aF q):(lH q).good=true:=by
 unfold lH;rcases hq with rfl | ⟨h1,h2,h3⟩;·rw [ai rfl];simp [Td.good,Td.yd]
 ·rw [ao (by lia)];simp [Td.good,Td.yd,Td.kz,h1,h2,h3]
theorem yv:lH 0=.a "fractions":=ai rfl
theorem uo(h:q≠0):lH q=.b "wheel" q:=ao h
def gK(H:Hp)(td:Addr)(q:Int):Prop:=H td=some (.tup (lH q).vs)
variable {H H':Hp}
theorem gK.mono{td:Addr}(h:gK H td q)(s:ag H H'):gK H' td q:=s _ _ h
def TU:Sp:=fun vs H Q _=>∃c a:Int,vs=[.int c,.int a]∧0≤a∧∀r:Int,0≤r→Q (.int r) H
def TV(K:aB):Sp:=fun vs H Q _=>∃(P a:Addr) (ns:List Int) (many:Int),vs=[.ref P,.int many]∧cJ H P a∧aZ K (er P H) a (ns.map V.int)∧1≤many∧a8 many∧∀(r:Int) (H':Hp),0≤r→r<many→aQ P H H'→cJ H' P a→Q (.int r) H'
def iw(q i:Int):Int×Int:=if q=0 then (i,1) else (i % q,1)
def TY(B:Nat):Sp:=fun vs H Q _=>∃(td:Addr) (q i:Int),vs=[.ref td,.int i]∧gK H td q∧aF q∧i.natAbs≤B∧1000≤B∧∀(v:V) (H':Hp),ag H H'→bC B H' q v (iw q i).1 (iw q i).2→Q v H'
variable {B:Nat} {r:Addr}
theorem Ks{a b:Int}(e:H r=some (.tup [.int (jn a b),.int (jo a b)]))(hb:1≤b)(ba:a.natAbs≤B)(bb:b.natAbs≤B):bC B H 0 (.ref r) (jn a b) (jo a b):=by obtain ⟨u,d,e1,e2,l,l1,l2⟩:=SW (a:=a) hb;unfold jn jo at e ⊢;rw [e1,e2] at e ⊢;exact .bA e l (aj l1 ba) (aj l2 bb)
def TZ:Sp:=fun vs H Q _=>∃(td:Addr) (q:Int) (v:V) (x m:Int) (B:Nat),vs=[.ref td,v]∧gK H td q∧aF q∧bC B H q v x m∧B≤10 ^ 300∧∀H',ag H H'→Q (.bl true) H'
def T3:Sp:=fun vs H Q _=>∃(td a:Addr) (q:Int) (ps:aR) (B:Nat),vs=[.ref td,.ref a]∧gK H td q∧aF q∧bK B H q a ps∧ps.length≤1000∧B≤10 ^ 300∧∀H',ag H H'→Q (.bl true) H'
def T4(K:aB):Sp:=fun vs H Q _=>∃(P a:Addr) (ns:List Int),vs=[.ref P]∧cJ H P a∧aZ K (er P H) a (ns.map V.int)∧∀(td:Addr) (q:Int) (H':Hp),aF q→aQ P H H'→cJ H' P a→gK (er P H') td q→Q (.ref td) H'
variable {v:V} {x m:Int} {P:Addr}
theorem bC.er{H':Hp}{a:Addr}(h:bC B H q v x m)(p:cJ H P a):bC B (er P H) q v x m:=by
 cases h with
 | bA e l bx bm=>refine .bA (qy (fun z=>?_) e) l bx bm;obtain ⟨x,y,e',_⟩:=p;rw [z,e'] at e;cases e
 | rem h0 h1 h2=>exact .rem h0 h1 h2
variable {D:Addr} {ys:List V}
theorem bC.ur(h:bC B (My.er P H) q v x m)(eD:H D=some (.lst ys))(k:∀b o,b≠D→b≠P→H b=some o→H' b=some o):bC B (My.er P H') q v x m:=by
 cases h with
 | bA e l bx bm=>
  rename_i r
  have nP:r≠P:=fun z=>by unfold My.er at e;rw [ai z] at e;cases e
  rw [nJ nP] at e;refine .bA (qy nP (k _ _ (fun z=>?_) nP e)) l bx bm;rw [z,eD] at e;cases e
 | rem h0 h1 h2=>exact .rem h0 h1 h2
theorem Kt(eD:H D=some (.lst ys))(hP:∀(i:Nat) (y:V),ys[i]?=some y→∃xm:Int×Int,bC B H q y xm.1 xm.2):∃ps,bK B H q D ps∧ps.length=ys.length:=by obtain ⟨ps,lp,hp⟩:=pick (R:=fun _ y xm=>bC B H q y (Prod.fst xm) (Prod.snd xm)) hP;exact ⟨ps,⟨ys,eD,lp.symm,fun i v x h1 h2=>hp i v x h1 h2⟩,lp⟩
theorem bK.cat{vs us:List V}{ps rs:aR}(e:H r=some (.lst (vs++us)))(l1:vs.length=ps.length)(l2:us.length=rs.length)(f1:∀(i:Nat) (v:V) (p:Int×Int),vs[i]?=some v→ps[i]?=some p→bC B H q v p.1 p.2)(f2:∀(i:Nat) (v:V) (p:Int×Int),us[i]?=some v→rs[i]?=some p→bC B H q v p.1 p.2):bK B H q r (ps++rs):=by
 refine ⟨vs++us,e,by simp [l1,l2],fun i v p h1 h2=>?_⟩
 by_cases hi:i<vs.length
 ·rw [ic hi] at h1
  rw [ic (by lia)] at h2
  exact f1 i v p h1 h2
 ·rw [gS (by lia)] at h1
  rw [gS (by lia),←l1] at h2
  exact f2 _ v p h1 h2
end My
namespace L2
open PySem PySem.Spec PyProof.Rows
end L2
namespace My
open PySem L2
theorem Ku{a d t b:Int}(l:cz a d)(hb:1≤b)(e:a*b=t*d):a=jn t b∧d=jo t b:=by
 have z:=J1 (a:=t) (show b≠0 by lia)
 have hd:=l.pos;have hd2:=z.1.pos;refine J7 l z.1 ?_;refine AU (c:=b) (by lia) ?_
 have z2:=z.2.1;grind
def mz(ps:aR)(n:Nat):List (Int×Int):=ps++List.replicate (n-ps.length) o1
theorem T5{ps:aR}{n:Nat}(h:ps.length≤n):(mz ps n).length=n:=by unfold mz;rw [eL,xu];lia
def T6(C:Addr):Sp:=fun vs H Q _=>∃(z a:Addr) (q:Int) (ps:aR) (B n:Nat),vs=[.ref z,.ref a,.int (n:Int)]∧dj C H z q∧aF q∧bK B H q a ps∧1≤B∧ps.length≤n∧n≤1000∧∀(b:Addr) (H':Hp),ag H H'→H b=none→bK B H' q b (mz ps n)→Q (.ref b) H'
end My
namespace L2
open PySem PySem.Spec PyProof.Rows
def yw(K:aB)(l:Addr):It:=
  ⟨fun i H=>∃xs x,aZ K H l xs∧xs[i]?=some x,
   fun i H v H'=>∃T x,H T=none∧v=.ref T∧H'=upd H T (.tup [.int (i:Int),x])∧∀xs,aZ K H l xs→xs[i]?=some x,
   fun i H=>∃xs,aZ K H l xs∧xs.length≤i⟩
variable {K:aB} {l:Addr}
theorem T7{P:Program}{w:World}{elts:List Expr}{k:Nat}{pos:Pos}{e it:Addr}(Kv:e≠it):Turn P w K (.Tuple elts k pos) (yw K l) [e,it] e
  (fun i h=>(∃old,IsEnum h e it (i:Int) old)∧h.IsListIter it l i) where
 mem:=by simp
 obj:=fun i h st b hb=>by
  obtain ⟨⟨old,he⟩,h1⟩:=st;simp only [cH,j8,j9] at hb;rcases hb with rfl | rfl;·exact ⟨_,he,fun v z=>by cases z⟩
  ·obtain ⟨o,e,c,d⟩:=h1
   exact ⟨o,e,fun v z=>by rw [d] at z;cases z⟩
 keep:=fun i h h' st k=>by obtain ⟨⟨old,he⟩,h1⟩:=st;exact ⟨⟨old,k _ (by simp) _ he⟩,h1.at fun o e=>k _ (by simp) o e⟩
 item:=by
  intro X hP hw hK hc i pins s σ H E I hf st hg;subst hP hw hK;obtain ⟨⟨old,he⟩,h1⟩:=st;obtain ⟨xs,x,jR,hx⟩:=hg;obtain ⟨ak,rv,p,_⟩:=I.list jR;obtain ⟨u,hu,ru⟩:=rv.get hx;refine wpAny_pyNext_enum_item he h1 p.isList (x:=u) (by simpa using hu) Kv fun h' g1 g2 g3 g4 g5=>⟨_,rfl,?_⟩
  refine wpAny_letOwnedTupleGo_enum g1 fun mw q1 sb=>?_;have yo:H s.heap.objs.size=none:=I.aC.fresh (aE _);have lt:∀b o,s.heap.get? b=some o→b≠s.heap.objs.size:=fun b o e=>dR (cg e);have keep:∀b o,b∉[e,it]→s.heap.get? b=some o→mw.get? b=some o:=fun b o nb e=>by simp only [cH,j8,j9,not_or] at nb;exact sb.extBut _ _ nb.1 (g5 b o nb.1 nb.2 e)
  have elt:e≠s.heap.objs.size:=lt _ _ he;have pT:=sb.extBut _ _ elt.symm g3;have lG:∀{b:Addr} {o:HO} (e:H b=some o),upd H s.heap.objs.size (.tup [.int (i:Int),x]) b=some o:=fun e=>by rw [a9 (gX e yo)];exact e
  have aC:cL X.prog X.w (upd H s.heap.objs.size (.tup [.int (i:Int),x])) mw:=fun b o e=>by
   by_cases hb:b=s.heap.objs.size
   ·subst hb
    rw [az] at e;cases e;exact ⟨by show 2≤sizeLine;decide,[.int i s.toks,u],.cons ⟨_,rfl⟩ (.cons ru .nil),⟨_,pT,rfl,_,rfl⟩⟩
   ·rw [a9 hb] at e
    refine (I.aC b o e).gf (fun c v dN q=>keep c v (fun m=>?_) q) (fun c q=>lG q) fun c xs q=>lG q;have nn:=(hf c m).1;rcases dN with rfl | dN;·rw [nn] at e;cases e
    ·rw [nn] at dN;cases dN
  have u1:Un (cY X.stack) [e,it] H (upd H s.heap.objs.size (.tup [.int (i:Int),x])) s.heap mw:=
   ⟨fun b o e n _ hx=>keep b o hx e,fun b o e n _ hx=>⟨o.slots,keep b o hx e⟩,fun b o e n hx=>by rw [a9 (lt b o e)];exact n,fun b o e hx=>⟨o,keep b o hx e⟩,fun b xs e=>lG e,fun b o u e=>lG e,fun b ps e=>⟨#[],by rw [lG e];simp⟩⟩
  refine ⟨.ref s.heap.objs.size,upd H s.heap.objs.size (.tup [.int (i:Int),x]),I.oF (s':={s with heap:=mw,toks:=s.toks+1}) (ch:=[e,it]) rfl u1 aC I.bare (fun b hb=>?_),rfl,⟨_,x,yo,rfl,rfl,fun as ha=>by rw [I.xT ha jR];exact hx⟩,?_,fun b hb=>?_⟩
  ·obtain ⟨f0,f1,f2,f3,f4,f5⟩:=hf b hb
   exact ⟨f3,f1,f4,f5⟩
  ·refine ⟨⟨u,?_⟩,g2.extBut sb.extBut Kv.symm⟩
   have z:((i+1:Nat):Int)=(i:Int)+1:=by lia
   rw [z];exact q1
  ·have nb:b≠s.heap.objs.size:=by
    simp only [cH,j8,j9] at hb;rcases hb with rfl | rfl;·exact lt _ _ he
    ·obtain ⟨o,e,_⟩:=h1;exact lt _ _ e
   rw [a9 nb];exact (hf b hb).1
 done:=by
  intro X hP hw hK hc i pins s σ H E I hf st hg;subst hP hw hK;obtain ⟨⟨old,he⟩,h1⟩:=st;obtain ⟨xs,jR,hx⟩:=hg;obtain ⟨ak,rv,p,_⟩:=I.list jR;have hl:=rv.length;refine wpAny_pyNext_enum_end (I.ok.hd hc) he h1 p.isList (by simp;lia) fun h' g=>⟨rfl,?_⟩
  have keep:∀b o,b∉[e,it]→s.heap.get? b=some o→h'.get? b=some o:=fun b o nb e=>by simp only [cH,j8,j9,not_or] at nb;exact g b o nb.2 e
  have aC:cL X.prog X.w H h':=fun b o e=>by
   refine (I.aC b o e).gf (fun c v dN q=>keep c v (fun m=>?_) q) (fun c q=>q) fun c xs q=>q;have nn:=(hf c m).1;rcases dN with rfl | dN;·rw [nn] at e;cases e
   ·rw [nn] at dN;cases dN
  have u1:Un (cY X.stack) [e,it] H H s.heap h':=
   ⟨fun b o e n _ hx=>keep b o hx e,fun b o e n _ hx=>⟨o.slots,keep b o hx e⟩,fun b o e n hx=>n,fun b o e hx=>⟨o,keep b o hx e⟩,fun b xs e=>e,fun b o u e=>e,fun b ps e=>⟨#[],by rw [e];simp⟩⟩
  refine I.oF (s':={s with heap:=h'}) (ch:=[e,it]) rfl u1 aC I.bare fun b hb=>?_;obtain ⟨f0,f1,f2,f3,f4,f5⟩:=hf b hb;exact ⟨f3,f1,f4,f5⟩
 self:=fun _ _ _ _ _ st h=>by obtain ⟨⟨old,he⟩,_⟩:=st;exact wpAny_pyIter_enum he h
theorem boot_enumerate:bootBuiltins "enumerate"=some (.type "enumerate"):=by decide +kernel
def T8(K:aB)(ta:TA):TI:=fun σ H R=>ta σ H fun vs H1=>∃l,vs=[.ref l]∧(∃xs,aZ K H1 l xs)∧R (yw K l) H1
section
variable {X:Cx}
theorem Es{elts:List Expr}{k:Nat}{t7:Pos}{a:Expr}{ta:TA}{p pos:Pos}(hg:Gl X "enumerate")(hm:X.mg "enumerate"=none)(ha:PA X [a] ta)(hs:starEach [a] X.env=[(false,eval a X.env)]:=by rfl) :
  PI X (.Tuple elts k t7) (.Call (.Name "enumerate" p) [a] [] pos) (T8 X.K ta):=by
 intro pins s σ H R I h;refine Call_ (oG I hg hm boot_enumerate (tN (aS (ha pos pins s σ H _ I h) fun us s1 ⟨vs,H1,I1,r1,q1⟩=>?_) hs rfl));obtain ⟨l,e,⟨xs,jR⟩,q⟩:=q1;subst e;obtain ⟨u,rfl,ru⟩:=vals1 r1;cases ru;obtain ⟨ak,rv,p1,_⟩:=I1.list jR;refine call_enumerate_list p1.isList fun h' z1 z2 z3 z4=>?_;refine wpAny_pyIter_enum (s:={s1 with heap:=h'}) z1 ?_;refine ⟨_,_,_,_,H1,rfl,I1.kept (t':=s1.toks) z4,T7 (Nat.succ_ne_self _),⟨⟨_,z1⟩,z2⟩,fun b hb=>?_,q⟩;have le:s1.heap.objs.size≤b:=by
  simp only [cH,j8,j9] at hb;rcases hb with rfl | rfl;·exact xD ..
  ·exact aE _
 exact I1.qc le (I1.aC.fresh le)
end
theorem Et{xs:List V}{g:TG}{tb:TS}{D:Ends}{σ:St}{H:Hp}(Pv:Nat→St→Hp→Prop)(h0:Pv 0 σ H)(hl:∀i σ H,Pv i σ H→aZ K H l xs)
  (hs:∀(i:Nat) (x:V) σ H T,xs[i]?=some x→Pv i σ H→H T=none→g (.ref T) σ (upd H T (.tup [.int (i:Int),x])) fun σ2 H2=>tb {D with nx:=Pv (i+1),ct:=Pv (i+1),bk:=D.nx} σ2 H2) (hd:∀σ H,Pv xs.length σ H→D.nx σ H) :
  ∃W:Nat→Nat→St→Hp→Prop,(∃m,W 0 m σ H)∧∀i m σ H,W i m σ H→
   ((yw K l).stop i H∧D.nx σ H)∨((yw K l).go i H∧∃N:St→Hp→Prop,(∀σ' H',N σ' H'→∃m',m'<m∧W (i+1) m' σ' H')∧∀x H',(yw K l).fm i H x H'→g x σ H' fun σ2 H2=>tb {D with nx:=N,ct:=N,bk:=D.nx} σ2 H2):=by
 refine ⟨fun i m σ H=>m=xs.length-i∧i≤xs.length∧Pv i σ H,⟨xs.length,by simp,cN _,h0⟩,?_⟩
 rintro i m σ H ⟨rfl,hi,p⟩;have q1:=hl i σ H p;by_cases cI:i<xs.length
 ·refine .inr ⟨⟨xs,xs[i],q1,by simp [cI]⟩,Pv (i+1),fun σ' H' p'=>⟨xs.length-(i+1),by lia,rfl,cI,p'⟩,fun v H' hy=>?_⟩
  obtain ⟨T,x,nT,rfl,rfl,hx⟩:=hy;exact hs i x σ H T (hx xs q1) p nT
 ·have e:i=xs.length:=by lia
  subst e;exact .inl ⟨⟨xs,q1,aE _⟩,hd σ H p⟩
end L2
namespace My
open PySem L2
theorem jT:∀(n:Nat) (f:Nat→Int),ah (n+1) f=ah n f+f n
 | 0,f=>by show f 0+0=0+f 0;lia
 | n+1,f=>by show f 0+ah (n+1) (fun i=>f (i+1))=(f 0+ah n fun i=>f (i+1))+f (n+1);rw [jT n];lia
variable {B:Nat} {x:Int}
theorem a8.T9(hB:B≤10 ^ 300)(h:x.natAbs≤2*B*B):a8 x:=by have z:2*B*B≤2*10 ^ 300*10 ^ 300:=cq (kZ 2 hB) hB;exact fE (aj h z) (by decide +kernel)
def Canon(q:Int)(p:Int×Int):Prop:=(q=0→cz p.1 p.2)∧(q≠0→p.2=1∧0≤p.1∧p.1<q)
variable {H:Hp} {q m:Int} {v:V}
theorem bC.canon(h:bC B H q v x m):Canon q (x,m):=by
 cases h with
 | bA e l bx bm=>exact ⟨fun _=>l,fun z=>absurd rfl z⟩
 | rem h0 h1 h2=>exact ⟨fun z=>by lia,fun _=>⟨rfl,h0,h1⟩⟩
theorem Canon.bot{p:Int×Int}(h:Canon q p):cT q p.2:=⟨fun z=>(h.1 z).pos,fun z=>(h.2 z).1⟩
variable {b:Int}
theorem cT.nz(hq:aF q)(h:cT q b):¬q∣b:=fun hd=>by
 by_cases z:q=0
 ·subst z
  have:=h.1 rfl;have:=j_.mp hd;lia
 ·rw [h.2 z] at hd
  have q2:2≤q:=by rcases hq with h | h <;> lia
  have:=xB (by decide) hd
  lia
variable {D:Int}
theorem lcm_dvd(hb:1≤b)(hm:1≤m)(h1:b∣D)(h2:m∣D):b / (Int.gcd b m:Int)*m∣D:=by
 have gp:=qt (a:=b) (b:=m) (by lia)
 obtain ⟨b',eb⟩:=mT (a:=b) (b:=m)
 have g0:(Int.gcd b m:Int)≠0:=by lia
 have gb:b / (Int.gcd b m:Int)=b':=by
  conv=>lhs;lhs;rw [eb]
  exact f9 _ g0
 have z:((Int.lcm b m:Nat):Int)∣D:=Int.coe_lcm_dvd h1 h2
 have e:((Int.lcm b m:Nat):Int)=b'*m:=by
  have h:=Int.gcd_mul_lcm b m
  have h2:((Int.gcd b m:Nat):Int)*((Int.lcm b m:Nat):Int)=((b*m).natAbs:Int):=by
   rw [←Int.natCast_mul,h,b_]
  have bm:0<b*m:=oA (by lia) (by lia)
  have h3:((b*m).natAbs:Int)=b*m:=by lia
  rw [h3] at h2
  refine Int.eq_of_mul_eq_mul_left g0 ?_
  rw [h2,←iH,←eb]
 rw [gb,←e]
 exact z
structure A6 (q:Int) (ps:aR) (ts:List Int) (b D:Int) (B:Nat):Prop where
 len:ts.length=ps.length
 ok:cT q b
 dvd:b∣D
 each:∀i,i<ps.length→ts.getD i 0*(ps.getD i o1).2=(ps.getD i o1).1*b∧(ts.getD i 0).natAbs≤B*D.natAbs
def T_:Sp:=fun vs H Q _=>∃(a:Addr) (ps:aR) (B:Nat) (D:Int),vs=[.ref a]∧bK B H 0 a ps∧ps.length≤100∧cT 0 D∧(∀p∈ps,p.2∣D)∧B≤10 ^ 150∧D.natAbs≤10 ^ 150∧∀(v:V) (H':Hp) (ts:List Int) (b:Int),ag H H'→Kl H H' v ts b→A6 0 ps ts b D B→Q v H'
def Ua(C:Addr):Sp:=fun vs H Q _=>∃(z a:Addr) (q:Int) (ps:aR) (B:Nat) (D:Int),vs=[.ref z,.ref a]∧dj C H z q∧aF q∧bK B H q a ps∧ps.length≤100∧cT q D∧(∀p∈ps,p.2∣D)∧B≤10 ^ 150∧1000≤B∧D.natAbs≤10 ^ 150∧∀(v:V) (H':Hp) (ts:List Int) (b:Int),ag H H'→Kl H H' v ts b→A6 q ps ts b D B→Q v H'
theorem a8.Eu(h:x.natAbs≤10 ^ 150):a8 x:=fE h (by decide +kernel)
theorem uu(h:b∣D)(hD:D≠0):b.natAbs≤D.natAbs:=Nat.le_of_dvd (j6.mpr hD) (Int.natAbs_dvd_natAbs.mpr h)
def Ub(K:aB):Sp:=fun vs H Q _=>∃(P a td:Addr) (ns:List Int) (q cm:Int) (F:Nat),vs=[.ref P,.ref td,.int cm]∧cJ H P a∧aZ K (er P H) a (ns.map V.int)∧gK (er P H) td q∧aF q∧1≤cm∧cm≤(F:Int)∧4≤F∧F≤10 ^ 20∧∀(v:V) (x m:Int) (H':Hp),aQ P H H'→cJ H' P a→bC F (er P H') q v x m→Q v H'
variable {a:Addr} {ps:aR}
theorem bK.Kw(h:bK B H q a ps):∀p∈ps,cT q p.2:=fun p hp=>by
 obtain ⟨vs,e,l,k⟩:=h;obtain ⟨i,hi,ei⟩:=k6 hp;have cf:i<vs.length:=by lia
 exact (k i vs[i] p (by simp [cf]) (by rw [←ei];simp [hi])).canon.bot
variable {F:Nat}
theorem bC.yx(hF:1≤F)(h:bC F H q v x m):cT q m∧m.natAbs≤F:=by
 refine ⟨h.canon.bot,?_⟩;cases h with
 | bA e l bx bm=>exact bm
 | rem h0 h1 h2=>exact hF
theorem bK.yx(hF:1≤F)(h:bK F H q a ps):∀p∈ps,cT q p.2∧p.2.natAbs≤F:=fun p hp=>by
 obtain ⟨vs,e,l,k⟩:=h;obtain ⟨i,hi,ei⟩:=k6 hp;have cf:i<vs.length:=by lia
 exact (k i vs[i] p (by simp [cf]) (by rw [←ei];simp [hi])).yx hF
theorem Uc{wi:TI}{ρ:St→St}{te:TE}{σ:St}{Q:VK}{P:Addr}{n:Nat}(hn:n<sizeLine)
  (hE:∀R:It→Hp→Prop,(∀(H1:Hp),aQ P H H1→cJ H1 P a→R (l9 0 n) H1)→wi σ H R)
  (Pr:Addr→Nat→V→Hp→Prop) (mono:∀D i y Hc H' ys,Pr D i y Hc→Hc D=some (.lst ys)→D≠P→(∀b o,b≠D→b≠P→Hc b=some o→H' b=some o)→Pr D i y H')
  (step:∀(D:Addr) (i:Nat),i<n→∀(Hc:Hp) (R:VK),aQ P H Hc→cJ Hc P a→(∃ys,Hc D=some (.lst ys))→D≠P→(∀y H3,aQ P Hc H3→cJ H3 P a→Pr D i y H3→R y H3)→te (some (.int (0+(i:Int)))::ρ σ) Hc R)
  (fin:∀(D:Addr) (ys:List V) (Hc:Hp),D≠P→aQ P H Hc→cJ Hc P a→ys.length=n→(∀(i:Nat) (y:V),ys[i]?=some y→Pr D i y Hc)→Hc D=some (.lst ys)→Q (.ref D) Hc):jO wi ρ (fun _ H Q=>Q true H) te σ H Q:=by
 refine hE _ fun H1 s1 p1=>?_;intro D nD;have nP:=p1.ne nD;refine ⟨fun i m ys Hc=>m=n-i∧i≤n∧Hc D=some (.lst ys)∧aQ P H1 Hc∧cJ Hc P a∧ys.length=i∧∀j y,ys[j]?=some y→Pr D j y Hc,⟨_,rfl,cN _,az,(aQ.refl H1).but nD,p1.upd nP,rfl,fun j y e=>by simp at e⟩,?_⟩
 rintro i m ys Hc ⟨rfl,hi,eD,sH,pc,el,hP⟩;refine ⟨eD,?_⟩;by_cases cI:i<n
 ·refine .inr ⟨cI,fun x H' hy=>?_⟩
  obtain ⟨rfl,rfl⟩:=hy;rw [ai rfl];refine step D i (by lia) _ _ (s1.trans sH) pc ⟨ys,eD⟩ nP fun y H3 s3 p3 hp=>?_
  have e3:=s3.at nP eD;refine ⟨e3,by lia,n-(i+1),by lia,rfl,cI,az,(sH.trans s3).but nD,p3.upd nP,by simp [el],fun j y' e=>?_⟩
  have cm:∀b o,b≠D→b≠P→H3 b=some o→upd H3 D (.lst (ys++[y])) b=some o:=fun b o nb _ e=>by rw [a9 nb];exact e
  by_cases hj:j<i
  ·have e':ys[j]?=some y':=by rw [ic (by lia)] at e;exact e
   refine mono D j y' H' _ ys (hP j y' e') eD nP fun b o nb np e=>?_;exact cm b o nb np (s3.at np e)
  ·have hj:j=i:=by have:=(b6.mp e).1;simp at this;lia
   subst hj;have e':y'=y:=by rw [gS (by lia),el,mV] at e;simpa using e.symm
   subst e';exact mono D _ _ H3 _ ys hp e3 nP cm
 ·have e:i=n:=by lia
  subst e;exact .inl ⟨aE _,fin D ys Hc nP (s1.trans sH) pc el hP eD⟩
def bw(j:Nat)(v:aX):Nat→Nat→Int:=fun i=>if i<j then v i else v (i+1)
def sgn(j:Nat):Int:=if j % 2=0 then 1 else -1
theorem A7(j:Nat):sgn (j+1)=-sgn j:=by
 unfold sgn;by_cases h:j % 2=0;·rw [ai h,ao (by lia)]
 ·rw [ao h,ai (by lia)];rfl
def aA:List Nat→(Nat→Nat→Int)→Int
 | [],_=>1
 | c::cs,v=>ah (cs.length+1) fun j=>sgn j*v j c*aA cs (bw j v)
theorem jU(c:Nat)(cs:List Nat)(v:aX):aA (c::cs) v=ah (cs.length+1) fun j=>sgn j*v j c*aA cs (bw j v):=rfl
variable {j:Nat}
theorem Ud{l:Nat}(h:l≤j)(v:aX):bw l (bw (j+1) v)=bw j (bw l v):=by
 funext i
 unfold bw;by_cases h1:i<l;·rw [ai h1,ai (by lia),ai (by lia),ai h1]
 ·rw [ao h1]
  by_cases h2:i<j;·rw [ai h2,ao h1,ai (by lia)]
  ·rw [ao h2,ao (by lia),ao (by lia)]
theorem Ew(n:Nat)(f:Nat→Int):ah n (fun i=>-f i)=-ah n f:=by
 have:=cU (-1) n f;rw [show (fun i=>-f i)=fun i=>-1*f i from funext fun i=>by lia,←this]
 lia
theorem Ue(n:Nat)(F:aX):(ah (n+1) fun j=>ah n fun l=>F j l)=(ah n fun j=>ah (j+1) fun l=>F (j+1) l)+ah n fun l=>ah (l+1) fun j=>F j l:=by
 induction n with
 | zero=>rfl
 | succ n ih=>
  rw [jT (n+1) fun j=>ah (n+1) fun l=>F j l];have e1:(ah (n+1) fun j=>ah (n+1) fun l=>F j l)=(ah (n+1) fun j=>ah n fun l=>F j l)+ah (n+1) fun j=>F j n:=by rw [←jS];exact bZ fun j _=>jT n _
  rw [e1,ih,jT n fun j=>ah (j+1) fun l=>F (j+1) l,jT n fun l=>ah (l+1) fun j=>F j l];lia
theorem Ex(a b:Nat)(cs:List Nat)(v:aX):aA (a::b::cs) v=-aA (b::a::cs) v:=by
 have ex:∀x y:Nat,aA (x::y::cs) v=(ah (cs.length+1) fun j=>ah (j+1) fun l=>sgn (j+1)*sgn l*(v (j+1) x*v l y)*aA cs (bw j (bw l v)))-ah (cs.length+1) fun j=>ah (j+1) fun l=>sgn (j+1)*sgn l*(v l x*v (j+1) y)*aA cs (bw j (bw l v)):=fun x y=>by
  have e0:aA (x::y::cs) v=ah (cs.length+2) fun j=>ah (cs.length+1) fun l=>sgn j*v j x*(sgn l*bw j v l y*aA cs (bw l (bw j v))):=by rw [jU,d8];refine bZ fun j _=>?_;rw [jU,cU]
  rw [e0,Ue (cs.length+1)];rw [z8,←Ew]
  congr 1
  ·refine bZ fun j _=>bZ fun l hl=>?_
   rw [Ud (by lia),show bw (j+1) v l y=v l y by unfold bw;rw [ai (by lia)]]
   grind
  ·refine bZ fun l _=>?_
   rw [←Ew];refine bZ fun j hj=>?_;rw [show bw j v l y=v (l+1) y by unfold bw;rw [ao (by lia)],A7]
   grind
 rw [ex a b,ex b a];have f:∀x y:Nat,(ah (cs.length+1) fun j=>ah (j+1) fun l=>sgn (j+1)*sgn l*(v l x*v (j+1) y)*aA cs (bw j (bw l v)))=ah (cs.length+1) fun j=>ah (j+1) fun l=>sgn (j+1)*sgn l*(v (j+1) y*v l x)*aA cs (bw j (bw l v)):=fun x y=>bZ fun j _=>bZ fun l _=>by rw [dS (v l x)]
 rw [f a b,f b a];lia
theorem nN(c:Nat):∀(cs:List Nat) (v:aX),c∈cs→aA (c::cs) v=0
 | b::cs,v,h=>by
  by_cases e:c=b
  ·subst e
   have:=Ex c c cs v;lia
  ·have h':c∈cs:=by
    rcases cH.mp h with z | z;·exact absurd z e
    ·exact z
   rw [Ex,jU];rw [show (fun j=>sgn j*v j b*aA (c::cs) (bw j v))=fun _=>0 from funext fun j=>by rw [nN c cs _ h',dE],nI]
   rfl
def aU(e:Nat→Int)(R:aX):Nat→Nat→Int
 | 0=>e
 | i+1=>R i
theorem Kx(e:Nat→Int)(R:aX):bw 0 (aU e R)=R:=by
 funext i
 unfold bw;rw [ao (by lia)]
 rfl
theorem Ky(i:Nat)(e:Nat→Int)(R:aX):bw (i+1) (aU e R)=aU e (bw i R):=by
 funext j
 unfold bw;cases j with
 | zero=>rw [ai (by lia)];rfl
 | succ j=>
  by_cases h:j<i
  ·rw [ai (by lia)]
   show R j=if j<i then R j else R (j+1)
   rw [ai h]
  ·rw [ao (by lia)]
   show R (j+1)=if j<i then R j else R (j+1)
   rw [ao h]
theorem jV(k:Nat)(C:List Nat)(e:Nat→Int)(R:aX):aA (k::C) (aU e R)=aA C R*e k+ah C.length fun i=>R i k*(-(sgn i)*aA C (aU e (bw i R))):=by
 rw [jU,ah];have e0:sgn 0*aU e R 0 k*aA C (bw 0 (aU e R))=aA C R*e k:=by rw [Kx];show 1*e k*aA C R=_;rw [mX,dS]
 rw [e0]
 congr 1
 refine bZ fun i _=>?_;rw [Ky,A7];show -sgn i*R i k*_=_;grind
def uv(C:List Nat)(R:aX):Prop:=∀x:Nat→Int,(∀c∈C,(ah C.length fun i=>R i c*x i)=0)→∀k,(ah C.length fun i=>R i k*x i)=0
theorem Ug(R:aX):uv [] R:=fun _ _ _=>rfl
variable {C:List Nat} {R:aX} {c:Nat}
theorem Uh{h:Nat→Int}(sp:uv C R)(d0:aA C R≠0)(p0:aA (c::C) (aU h R)≠0):uv (c::C) (aU h R):=by
 intro x hx k;have ex:∀k,(ah (c::C).length fun i=>aU h R i k*x i)=h k*x 0+ah C.length fun i=>R i k*x (i+1):=fun k=>rfl;have hz:∀k,aA C R*(h k*x 0+ah C.length fun i=>R i k*x (i+1))-x 0*aA (k::C) (aU h R)=ah C.length fun i=>R i k*(aA C R*x (i+1)-x 0*(-(sgn i)*aA C (aU h (bw i R)))):=fun k=>by
  rw [jV,show (fun i=>R i k*(aA C R*x (i+1)-x 0*(-(sgn i)*aA C (aU h (bw i R)))))=fun i=>aA C R*(R i k*x (i+1)) + -(x 0)*(R i k*(-(sgn i)*aA C (aU h (bw i R)))) from funext fun i=>by grind,jS,←cU,←cU]
  grind
 have z:=sp _ fun c' dN=>by rw [←hz c',←ex c',hx c' (fY _ dN),nN c' C _ dN];simp
 have z1:∀k,aA C R*(h k*x 0+ah C.length fun i=>R i k*x (i+1))=x 0*aA (k::C) (aU h R):=fun k=>by have:=hz k;rw [z k] at this;omega
 have x0:x 0=0:=by
  have e:=z1 c;rw [←ex c,hx c jy,dE] at e;rcases mW.mp e.symm with h | h;·exact h
  ·exact absurd h p0
 have e:=z1 k;rw [x0,fj] at e;rw [ex k,x0];rcases mW.mp e with h | h;·exact absurd h d0
 ·exact h
theorem Ui(sp:uv C R)(e h:Nat→Int)(c k:Nat) :
  aA C R*aA (k::c::C) (aU e (aU h R))=aA (c::C) (aU h R)*aA (k::C) (aU e R)-aA (c::C) (aU e R)*aA (k::C) (aU h R):=by
 have two:∀k,aA (k::c::C) (aU e (aU h R))=aA (c::C) (aU h R)*e k-aA (c::C) (aU e R)*h k+ah C.length fun i=>R i k*(sgn i*aA (c::C) (aU e (aU h (bw i R)))):=fun k=>by
  rw [jV,d8,ah];have e0:aU h R 0 k*(-(sgn 0)*aA (c::C) (aU e (bw 0 (aU h R))))=-(aA (c::C) (aU e R)*h k):=by rw [Kx];show h k*(-1*_)=_;grind
  rw [e0,show (fun i=>aU h R (i+1) k*(-(sgn (i+1))*aA (c::C) (aU e (bw (i+1) (aU h R)))))=fun i=>R i k*(sgn i*aA (c::C) (aU e (aU h (bw i R)))) from funext fun i=>by rw [Ky,A7,Int.neg_neg];rfl]
  lia
 have hz:∀k,aA C R*aA (k::c::C) (aU e (aU h R))-(aA (c::C) (aU h R)*aA (k::C) (aU e R)-aA (c::C) (aU e R)*aA (k::C) (aU h R))=ah C.length fun i=>R i k*(aA C R*(sgn i*aA (c::C) (aU e (aU h (bw i R))))-aA (c::C) (aU h R)*(-(sgn i)*aA C (aU e (bw i R)))+aA (c::C) (aU e R)*(-(sgn i)*aA C (aU h (bw i R)))):=fun k=>by
  rw [two k,jV k C e R,jV k C h R];rw [show (fun i=>R i k*(aA C R*(sgn i*aA (c::C) (aU e (aU h (bw i R))))-aA (c::C) (aU h R)*(-(sgn i)*aA C (aU e (bw i R)))+aA (c::C) (aU e R)*(-(sgn i)*aA C (aU h (bw i R)))))=fun i=>(aA C R*(R i k*(sgn i*aA (c::C) (aU e (aU h (bw i R))))) + -(aA (c::C) (aU h R))*(R i k*(-(sgn i)*aA C (aU e (bw i R)))))+aA (c::C) (aU e R)*(R i k*(-(sgn i)*aA C (aU h (bw i R)))) from funext fun i=>by grind,jS,jS,←cU,←cU,←cU]
  grind
 have z:=sp _ fun c' dN=>by rw [←hz c',nN c' (c::C) _ (fY _ dN),nN c' C _ dN,nN c' C _ dN];simp
 have:=hz k;rw [z k] at this;omega
def mB(C:List Nat)(R:aX)(f:Nat→Int):Nat→Int:=fun k=>aA (k::C) (aU f R)
theorem Uj(R:aX)(f:Nat→Int)(k:Nat):mB [] R f k=f k:=by show aA [k] (aU f R)=f k;rw [jV];show 1*f k+0=f k;lia
theorem Uk(R:aX)(f:Nat→Int)(h:c∈C):mB C R f c=0:=nN c C _ h
theorem Kz{e:Nat→Int}:∀{C:List Nat} (S:aX),C≠[]→(∀x∈C,e x=0)→aA C (aU e S)=0
 | x::C,S,_,h=>by
  rw [jV,h x jy,dE,oC];cases C with
  | nil=>rfl
  | cons y C=>rw [show (fun i=>S i x*(-(sgn i)*aA (y::C) (aU e (bw i S))))=fun _=>0 from funext fun i=>by rw [Kz (bw i S) (by simp) fun z hz=>h z (fY _ hz)];simp,nI]
theorem Ul(sp:uv C R)(f h:Nat→Int)(c k:Nat):mB C R h c*mB C R f k-mB C R f c*mB C R h k=aA C R*mB (c::C) (aU h R) f k:=(Ui sp f h c k).symm
def cF:Nat→Nat
 | 0=>1
 | n+1=>(n+1)*cF n
theorem qA{M:Nat}:∀(n:Nat) (f:Nat→Int),(∀i,i<n→(f i).natAbs≤M)→(ah n f).natAbs≤n*M
 | 0,_,_=>by show (0:Int).natAbs≤_;simp
 | n+1,f,h=>by rw [jT,Nat.succ_mul];exact aj (Int.natAbs_add_le ..) (Nat.add_le_add (qA n f fun i hi=>h i (by lia)) (h n (by lia)))
theorem uw{B:Nat}:∀(C:List Nat) (v:aX),(∀i c,(v i c).natAbs≤B)→(aA C v).natAbs≤cF C.length*B ^ C.length
 | [],_,_=>by show (1:Int).natAbs≤1*B ^ 0;simp
 | c::C,v,h=>by
  rw [jU];refine aj (qA (M:=B*(cF C.length*B ^ C.length)) _ _ fun j _=>?_) (mP ?_)
  ·rw [b_,b_]
   have s1:(sgn j).natAbs=1:=by unfold sgn;split <;> rfl
   rw [s1,tU];refine cq (h j c) (uw C _ fun i c'=>?_);unfold bw
   split
   ·exact h _ _
   ·exact h _ _
  ·rw [d8,cF,k7]
   rw [mY,pR B,iG B]
def eO(r:Int→Int):Nat→Nat→Int:=fun j i=>r ((i:Int)-(j:Int))
def aH(k:Nat)(r:Int→Int):Int:=aA (List.range k) (eO r)
def b5(k:Nat)(r:Int→Int)(j:Nat):Int:=sgn j*aA ((List.range (k-1)).map fun c=>c+1) (bw j (eO r))
def bj(r:Int→Int):Int→Int:=fun d=>r (-d)
theorem Um(k:Nat):List.range (k+1)=0::(List.range k).map fun c=>c+1:=by rw [zU]
theorem yy(k:Nat)(r:Int→Int)(i:Nat)(hi:i<k+1):(ah (k+1) fun j=>r ((i:Int)-(j:Int))*b5 (k+1) r j)=if i=0 then aH (k+1) r else 0:=by
 have e:(ah (k+1) fun j=>r ((i:Int)-(j:Int))*b5 (k+1) r j)=aA (i::(List.range k).map fun c=>c+1) (eO r):=by rw [jU,aG,cK];refine bZ fun j _=>?_;unfold b5;rw [i8];show r ((i:Int)-(j:Int))*_=sgn j*r ((i:Int)-(j:Int))*_;grind
 rw [e];by_cases h:i=0
 ·rw [ai h,h]
  unfold aH;rw [Um]
 ·rw [ao h]
  exact nN i _ _ (gc.mpr ⟨i-1,fB.mpr (by lia),by lia⟩)
theorem KA:∀(cs:List Nat) (v w:aX),(∀i c,v i (c+1)=w i c)→aA (cs.map fun c=>c+1) v=aA cs w
 | [],_,_,_=>rfl
 | c::cs,v,w,h=>by
  rw [cX,jU,jU,aG];refine bZ fun j _=>?_;rw [h j c,KA cs (bw j v) (bw j w) fun i c'=>by
   unfold bw
   split
   ·exact h i c'
   ·exact h (i+1) c']
theorem Ey(k:Nat)(r:Int→Int):b5 (k+1) r 0=aH k r:=by
 unfold b5 aH;rw [i8,KA (List.range k) _ (eO r) fun i c=>by
  unfold bw eO;rw [ao (by lia)]
  congr 1
  lia]
 show (1:Int)*_=_;rw [mX]
theorem Ez(c:Nat):∀(xs ys:List Nat) (v:aX),aA (xs++c::ys) v=sgn xs.length*aA (c::(xs++ys)) v
 | [],ys,v=>by show aA (c::ys) v=(1:Int)*_;rw [mX];rfl
 | x::xs,ys,v=>by
  rw [List.cons_append,jU];have e:(ah ((xs++c::ys).length+1) fun j=>sgn j*v j x*aA (xs++c::ys) (bw j v))=sgn xs.length*aA (x::c::(xs++ys)) v:=by rw [jU,cU,d8,eL,eL,d8];refine bZ fun j _=>?_;rw [Ez c xs ys];grind
  rw [e,Ex,d8,A7,List.cons_append];grind
variable {k:Nat} {r:Int→Int}
theorem Uo(hd:aH k (bj r)≠0){x:Nat→Int}(hx:∀i,i<k→(ah k fun j=>r ((i:Int)-(j:Int))*x j)=0):∀j,j<k→x j=0:=fun j0 hj=>by
 obtain ⟨xs,ys,e⟩:∃xs ys,List.range k=xs++j0::ys:=List.append_of_mem (fB.mpr hj);have lk:xs.length+ys.length+1=k:=by have:=eY List.length e;rw [cK,eL,d8] at this;lia
 have nd:aA (j0::(xs++ys)) (eO (bj r))≠0:=fun z=>hd (by unfold aH;rw [e,Ez,z,dE])
 have mem:∀c,c<k→c≠j0→c∈xs++ys:=fun c hc ne=>by
  have:=fB.mpr hc;rw [e] at this;rcases i7.mp this with h | h;·exact xn _ h
  ·rcases cH.mp h with h | h
   ·exact absurd h ne
   ·exact fC _ h
 obtain ⟨y,hy⟩:∃y:Nat→Int,∀c,c<k→(ah k fun i=>y i*r ((i:Int)-(c:Int)))=if c=j0 then aA (j0::(xs++ys)) (eO (bj r)) else 0:=by
  refine ⟨fun i=>sgn i*aA (xs++ys) (bw i (eO (bj r))),fun c hc=>?_⟩;have e1:(ah k fun i=>sgn i*aA (xs++ys) (bw i (eO (bj r)))*r ((i:Int)-(c:Int)))=aA (c::(xs++ys)) (eO (bj r)):=by
   rw [jU,eL,lk];refine bZ fun i _=>?_;have:eO (bj r) i c=r ((i:Int)-(c:Int)):=by
    unfold eO bj
    congr 1
    lia
   rw [this];grind
  rw [e1];by_cases z:c=j0;·rw [ai z,z]
  ·rw [ao z]
   exact nN c _ _ (mem c hc z)
 have s:(ah k fun i=>y i*ah k fun j=>r ((i:Int)-(j:Int))*x j)=aA (j0::(xs++ys)) (eO (bj r))*x j0:=by
  have e2:(ah k fun i=>y i*ah k fun j=>r ((i:Int)-(j:Int))*x j)=ah k fun j=>(ah k fun i=>y i*r ((i:Int)-(j:Int)))*x j:=by rw [Ko k k y (fun i j=>r ((i:Int)-(j:Int))) x]
  rw [e2,bZ (g:=fun j=>if j=j0 then aA (j0::(xs++ys)) (eO (bj r))*x j else 0) fun j iy=>by
   rw [hy j iy];by_cases z:j=j0;·rw [ai z,ai z]
   ·rw [ao z,ao z,fj],A4 k j0 (fun j=>aA (j0::(xs++ys)) (eO (bj r))*x j) hj]
 rw [bZ (g:=fun _=>0) fun i hi=>by rw [hx i hi,dE],nI] at s
 rcases mW.mp s.symm with h | h;·exact absurd h nd
 ·exact h
theorem A8(r:Int→Int):bj (bj r)=r:=by
 funext d
 unfold bj;rw [Int.neg_neg]
def topDown(k:Nat)(r:Int→Int):Int:=ah k fun j=>r ((k:Int)-(j:Int))*b5 k r j
def fR(k:Nat)(r:Int→Int)(j:Nat):Int:=if j<k then b5 k r j else 0
def fq(k:Nat)(r:Int→Int)(j:Nat):Int:=if j=0 then 0 else b5 k (bj r) (k-j)
theorem EA:∀(n:Nat) (f:Nat→Int),(ah n fun i=>f (n-1-i))=ah n f
 | 0,_=>rfl
 | n+1,f=>by
  rw [jT];show _=f 0+ah n fun i=>f (i+1);have:=EA n fun i=>f (i+1);rw [←this];rw [bZ (g:=fun i=>f (n-1-i+1)) fun i hi=>by
   show f (n+1-1-i)=_
   congr 1
   lia]
  rw [show n+1-1-n=0 by lia]
  lia
theorem KC(n:Nat)(f g:Nat→Int):ah n (fun i=>f i-g i)=ah n f-ah n g:=by rw [bZ (g:=fun i=>f i + -g i) fun i _=>z8,jS,Ew,z8]
theorem Up(r:Int→Int):aH 0 r=1:=rfl
theorem EB(r:Int→Int):aH 1 r=r 0:=by
 have h:=yy 0 r 0 (by decide)
 rw [ai rfl] at h;rw [←h];show r ((0:Nat)-(0:Nat):Int)*b5 1 r 0+0=r 0;rw [Ey,Up,d7,mZ];rfl
theorem EC(hk:1≤k)(r:Int→Int)(i:Nat)(hi:i<k):(ah k fun j=>r ((i:Int)-(j:Int))*b5 k r j)=if i=0 then aH k r else 0:=by
 obtain ⟨m,rfl⟩:∃m,k=m+1:=⟨k-1,by lia⟩
 exact yy m r i hi
theorem yz(hk:1≤k)(r:Int→Int):b5 k r 0=aH (k-1) r:=by
 obtain ⟨m,rfl⟩:∃m,k=m+1:=⟨k-1,by lia⟩
 exact Ey m r
theorem A9(hk:1≤k)(r:Int→Int)(i:Nat)(hi:i<k):(ah k fun j=>r ((i:Int)-(j:Int))*b5 k (bj r) (k-1-j))=if i=k-1 then aH k (bj r) else 0:=by
 rw [←EA];rw [bZ (g:=fun j=>bj r (((k-1-i:Nat):Int)-(j:Int))*b5 k (bj r) j) fun j hj=>by
  show r ((i:Int)-((k-1-j:Nat):Int))*b5 k (bj r) (k-1-(k-1-j))=_;rw [show k-1-(k-1-j)=j by lia]
  unfold bj
  congr 2
  lia]
 rw [EC hk (bj r) (k-1-i) (by lia)]
 by_cases h:i=k-1;·rw [ai (by lia),ai h]
 ·rw [ao (by lia),ao h]
theorem KD(r:Int→Int)(i:Int):(ah (k+1) fun j=>r (i-(j:Int))*fR k r j)=ah k fun j=>r (i-(j:Int))*b5 k r j:=by
 rw [jT];rw [show fR k r k=0 from ao (by lia),dE,mZ]
 refine bZ fun j hj=>?_;rw [show fR k r j=b5 k r j from ai hj]
theorem KG(r:Int→Int)(i:Int):(ah (k+1) fun j=>r (i-(j:Int))*fq k r j)=ah k fun j=>r (i-1-(j:Int))*b5 k (bj r) (k-1-j):=by
 show r (i-((0:Nat):Int))*fq k r 0+(ah k fun j=>r (i-((j+1:Nat):Int))*fq k r (j+1))=_;rw [show fq k r 0=0 from ai rfl,dE,oC];refine bZ fun j hj=>?_;rw [show fq k r (j+1)=b5 k (bj r) (k-(j+1)) from ao (by lia),show k-(j+1)=k-1-j by lia]
 congr 2
 lia
theorem KH(r:Int→Int):(ah k fun j=>r (-1-(j:Int))*b5 k (bj r) (k-1-j))=topDown k (bj r):=by
 rw [←EA];unfold topDown;refine bZ fun j hj=>?_;show r (-1-((k-1-j:Nat):Int))*b5 k (bj r) (k-1-(k-1-j))=_;rw [show k-1-(k-1-j)=j by lia]
 unfold bj
 congr 2
 lia
theorem yA(hk:1≤k)(e:aH k (bj r)=aH k r)(hd:aH k r≠0):(∀j,j<k+1→aH k r*fR k r j-topDown k r*fq k r j=aH (k-1) r*b5 (k+1) r j)∧aH k r*aH k r-topDown k r*topDown k (bj r)=aH (k-1) r*aH (k+1) r:=by
 have KI:∀i:Int,(ah (k+1) fun j=>r (i-(j:Int))*(aH k r*fR k r j-topDown k r*fq k r j-aH (k-1) r*b5 (k+1) r j))=aH k r*(ah (k+1) fun j=>r (i-(j:Int))*fR k r j)-topDown k r*(ah (k+1) fun j=>r (i-(j:Int))*fq k r j)-aH (k-1) r*(ah (k+1) fun j=>r (i-(j:Int))*b5 (k+1) r j):=fun i=>by rw [cU,cU,cU,←KC,←KC];refine bZ fun j _=>?_;grind
 have w0:aH k r*fR k r 0-topDown k r*fq k r 0-aH (k-1) r*b5 (k+1) r 0=0:=by
  rw [show fR k r 0=b5 k r 0 from ai (by lia),show fq k r 0=0 from ai rfl,yz hk,Ey]
  grind
 have w:∀j,j<k→aH k r*fR k r (j+1)-topDown k r*fq k r (j+1)-aH (k-1) r*b5 (k+1) r (j+1)=0:=by
  refine Uo (r:=r) (by rw [e];exact hd) fun i hi=>?_
  have h:=KI ((i+1:Nat):Int);rw [KD,KG,yy k r (i+1) (by lia),ao (by lia)] at h
  rw [show (((i+1:Nat):Int)-1)=(i:Int) by lia,A9 hk r i hi,e] at h
  have l:(ah (k+1) fun j=>r (((i+1:Nat):Int)-(j:Int))*(aH k r*fR k r j-topDown k r*fq k r j-aH (k-1) r*b5 (k+1) r j))=ah k fun j=>r ((i:Int)-(j:Int))*(aH k r*fR k r (j+1)-topDown k r*fq k r (j+1)-aH (k-1) r*b5 (k+1) r (j+1)):=by show r (((i+1:Nat):Int)-((0:Nat):Int))*_+(ah k fun j=>_)=_;rw [w0,dE,oC];refine bZ fun j _=>?_;show r (((i+1:Nat):Int)-((j+1:Nat):Int))*_=_;rw [show (((i+1:Nat):Int)-((j+1:Nat):Int))=(i:Int)-(j:Int) by lia]
  rw [←l,h];by_cases z:i=k-1
  ·rw [ai z]
   have:(ah k fun j=>r (((i+1:Nat):Int)-(j:Int))*b5 k r j)=topDown k r:=by unfold topDown;rw [show i+1=k by lia]
   rw [this];grind
  ·rw [ao z,EC hk r (i+1) (by lia),ao (by lia)]
   grind
 refine ⟨fun j hj=>?_,?_⟩
 ·rcases Nat.eq_zero_or_pos j with h | h
  ·rw [h]
   lia
  ·have:=w (j-1) (by lia)
   rw [show j-1+1=j by lia] at this
   lia
 ·have h:=KI ((0:Nat):Int)
  rw [KD,KG,yy k r 0 (by lia),ai rfl,EC hk r 0 (by lia),ai rfl] at h
  rw [show (((0:Nat):Int)-1)=-1 by lia,KH] at h
  have l:(ah (k+1) fun j=>r (((0:Nat):Int)-(j:Int))*(aH k r*fR k r j-topDown k r*fq k r j-aH (k-1) r*b5 (k+1) r j))=0:=by
   rw [bZ (g:=fun _=>0) fun j hj=>by
    rcases Nat.eq_zero_or_pos j with h | h;·rw [h,w0,dE]
    ·have:=w (j-1) (by lia)
     rw [show j-1+1=j by lia] at this
     rw [this,dE],nI]
  lia
theorem kC(r:Int→Int):∀k,(∀m,m<k→aH m r≠0)→aH k (bj r)=aH k r
 | 0,_=>rfl
 | 1,_=>by rw [EB,EB];rfl
 | k+2,h=>by
  have e1:=kC r (k+1) fun m hm=>h m (by lia)
  have e0:=kC r k fun m hm=>h m (by lia)
  have s1:=(yA (k:=k+1) (r:=r) (by lia) e1 (h _ (by lia))).2
  have s2:=(yA (k:=k+1) (r:=bj r) (by lia) (by rw [A8,e1]) (by rw [e1];exact h _ (by lia))).2
  rw [A8,e1] at s2;rw [i8] at s1 s2;rw [e0] at s2;have:aH k r*aH (k+1+1) (bj r)=aH k r*aH (k+1+1) r:=by rw [←s1,←s2,dS (topDown (k+1) (bj r))]
  exact Int.eq_of_mul_eq_mul_left (h k (by lia)) this
theorem Uq(hk:1≤k)(h:∀m,m<k+1→aH m r≠0)(hj:j<k+1):aH k r*fR k r j-topDown k r*fq k r j=aH (k-1) r*b5 (k+1) r j:=
 (yA hk (kC r k fun m hm=>h m (by lia)) (h k (by lia))).1 j hj
theorem Ur(hk:1≤k)(h:∀m,m<k+1→aH m r≠0)(hj:j<k+1):aH k r*fq k r j-topDown k (bj r)*fR k r j=aH (k-1) r*b5 (k+1) (bj r) (k-j):=by
 have e:=kC r k fun m hm=>h m (by lia)
 have e0:=kC r (k-1) fun m hm=>h m (by lia)
 have s:=(yA (r:=bj r) hk (by rw [A8,e]) (by rw [e];exact h k (by lia))).1 (k-j) (by lia)
 rw [e,e0] at s;rw [←s];have f:fR k (bj r) (k-j)=fq k r j:=by
  unfold fR fq;by_cases z:j=0;·rw [ai z,ao (by lia)]
  ·rw [ao z,ai (by lia)]
 have b:fq k (bj r) (k-j)=fR k r j:=by
  unfold fR fq;rw [A8];by_cases z:j<k;·rw [ai z,ao (by lia),show k-(k-j)=j by lia]
  ·rw [ao z,ai (by lia)]
 rw [f,b]
theorem Us(hk:1≤k)(h:∀m,m<k+1→aH m r≠0):aH k r*aH k r-topDown k r*topDown k (bj r)=aH (k-1) r*aH (k+1) r:=
 (yA hk (kC r k fun m hm=>h m (by lia)) (h k (by lia))).2
end My
namespace L2
open PySem PySem.Spec PyProof.Rows
section
variable {X:Cx} {tg:Expr}
end
theorem Ut{X:Cx}{K:aB}{e:Expr}{f:Str}{pos:Pos}{ta:TE}(he:PE X e ta)(hb:attributeBase e f X.env (eval e X.env)=eval e X.env)(hK:X.K=K:=by rfl):PE X (.Attribute e f pos) (IU K ta f):=by subst hK;exact jG he hb
end L2
namespace My
open PySem L2
def Cg(q a b:Int):Prop:=q∣a-b
variable {q:Int}
theorem Cg.refl(a:Int):Cg q a a:=⟨0,by lia⟩
variable {a b:Int}
theorem Cg.of_eq(h:a=b):Cg q a b:=h▸Cg.refl a
theorem Cg.symm(h:Cg q a b):Cg q b a:=by obtain ⟨k,e⟩:=h;exact ⟨-k,by rw [lV];lia⟩
variable {c:Int}
theorem Cg.trans(h1:Cg q a b)(h2:Cg q b c):Cg q a c:=by obtain ⟨k,e⟩:=h1;obtain ⟨l,e'⟩:=h2;exact ⟨k+l,by rw [tS];lia⟩
variable {d:Int}
theorem Cg.add(h1:Cg q a b)(h2:Cg q c d):Cg q (a+c) (b+d):=by obtain ⟨k,e⟩:=h1;obtain ⟨l,e'⟩:=h2;exact ⟨k+l,by rw [tS];lia⟩
theorem Cg.sub(h1:Cg q a b)(h2:Cg q c d):Cg q (a-c) (b-d):=by obtain ⟨k,e⟩:=h1;obtain ⟨l,e'⟩:=h2;exact ⟨k-l,by rw [pS];lia⟩
theorem Cg.mulL(c:Int)(h:Cg q a b):Cg q (c*a) (c*b):=by obtain ⟨k,e⟩:=h;exact ⟨c*k,by rw [←pS,e];grind⟩
theorem Cg.mulR(c:Int)(h:Cg q a b):Cg q (a*c) (b*c):=by rw [dS a,dS b];exact h.mulL c
theorem nO(q a:Int):Cg q (a % q) a:=⟨-(a / q),by have:=Int.mul_ediv_add_emod a q;rw [lV];lia⟩
theorem Cg.nz(h:Cg q a b)(n:¬q∣b):¬q∣a:=fun d=>n (by
 have:b=a-(a-b):=by lia
 rw [this];exact Int.dvd_sub d h)
theorem o6{q:Int}:∀{n:Nat} {f g:Nat→Int},(∀i,i<n→Cg q (f i) (g i))→Cg q (ah n f) (ah n g)
 | 0,_,_,_=>Cg.refl _
 | n+1,f,g,h=>by unfold ah;exact (h 0 (by lia)).add (o6 fun i hi=>h (i+1) (by lia))
theorem ED{α:Type}{xs:List α}{k:Nat}{d:α}(h:xs.length≤k):xs.getD k d=d:=by rw [d9,xF h];rfl
variable {xs:List Int}
theorem qB{B:Nat}(h:∀x∈xs,x.natAbs≤B)(k:Nat):(xs.getD k 0).natAbs≤B:=by
 by_cases hk:k<xs.length;·rw [getD_at hk];exact h _ (dD _)
 ·rw [ED (by lia)];exact cN _
variable {wi:TI} {ρ:St→St} {te:TE} {σ:St} {H:Hp} {Q:VK}
theorem KJ{ts:List Int}(g:Int→Int)(hn:ts.length≤500)
  (hE:∀R:It→Hp→Prop,(∀J H1,ag H H1→nF J (ts.map V.int) H1→R J H1)→wi σ H R)
  (step:∀t∈ts,∀(Hc:Hp) (R:VK),ag H Hc→(∀H3,ag Hc H3→R (.int (g t)) H3)→te (some (.int t)::ρ σ) Hc R)
  (fin:∀D Hc,H D=none→ag H Hc→Hc D=some (.lst ((ts.map g).map V.int))→Q (.ref D) Hc):jO wi ρ (fun _ H Q=>Q true H) te σ H Q:=by
 refine qx (xs:=ts.map V.int) hE (by rw [aG];exact gG (by lia)) (fun _ i y _=>∃t,ts[i]?=some t∧y=.int (g t)) (fun _ _ _ _ _ _ h _ _=>h) ?_ ?_
 ·intro D i v hi Hc R sc _ kc
  rw [cB] at hi;cases e:ts[i]? with
  | none=>rw [e] at hi;cases hi
  | some t=>rw [e] at hi;cases hi;exact step t (gT e) Hc R sc fun H3 s3=>kc _ H3 s3 ⟨t,e,rfl⟩
 ·intro D ys Hc nD sc dX hP eD
  have ey:ys=(ts.map g).map V.int:=um (by rw [dX,aG,aG]) fun i v e=>by obtain ⟨t,e1,e2⟩:=hP i v e;exact ⟨g t,by rw [cB,e1];rfl,e2⟩
  rw [ey] at eD;exact fin D Hc nD sc eD
theorem EE{K:aB}{ys:List Int}(g:Int→Int→Int)(hn:xs.length≤500)
  (hE:∀R:It→Hp→Prop,(∀J H1,ag H H1→El J ((xs.map V.int).zip (ys.map V.int)) H1→R J H1)→wi σ H R)
  (step:∀x y,(x,y)∈xs.zip ys→∀(Hc:Hp) (R:VK),ag H Hc→(∀H3,ag Hc H3→R (.int (g x y)) H3)→te (some (.int x)::some (.int y)::ρ σ) Hc R)
  (fin:∀D Hc,ag H Hc→Hc D=some (.lst (((xs.zip ys).map fun ab=>g ab.1 ab.2).map V.int))→Q (.ref D) Hc):Eg K wi ρ (fun _ H Q=>Q true H) te σ H Q:=by
 have lz:((xs.map V.int).zip (ys.map V.int)).length=(xs.zip ys).length:=by simp [z9]
 have at':∀(i:Nat) (v u:V),((xs.map V.int).zip (ys.map V.int))[i]?=some (v,u)→∃x y,(xs.zip ys)[i]?=some (x,y)∧v=.int x∧u=.int y:=fun i v u e=>by
  obtain ⟨h1,h2⟩:=zZ.mp e;rw [cB] at h1 h2;cases e1:xs[i]? with
  | none=>rw [e1] at h1;cases h1
  | some x=>
   cases e2:ys[i]? with
   | none=>rw [e2] at h2;cases h2
   | some y=>rw [e1] at h1;rw [e2] at h2;cases h1;cases h2;exact ⟨x,y,zZ.mpr ⟨e1,e2⟩,rfl,rfl⟩
 refine Ki (zs:=(xs.map V.int).zip (ys.map V.int)) hE (by rw [lz,z9];exact gG (by lia)) (fun i v=>∃x y,(xs.zip ys)[i]?=some (x,y)∧v=.int (g x y)) ?_ ?_
 ·intro i v u hi Hc R sc kc
  obtain ⟨x,y,e,rfl,rfl⟩:=at' i v u hi;exact step x y (gT e) Hc R sc fun H3 s3=>kc _ H3 s3 ⟨x,y,e,rfl⟩
 ·intro D vs Hc sc Uu hP eD
  have ey:vs=((xs.zip ys).map fun ab=>g ab.1 ab.2).map V.int:=um (by rw [Uu,lz,aG]) fun i v e=>by obtain ⟨x,y,e1,e2⟩:=hP i v e;exact ⟨g x y,by rw [cB,e1];rfl,e2⟩
  rw [ey] at eD;exact fin D Hc sc eD
theorem Uv(h:1≤xs.length):d5 (xs.map V.int) (-1)=some (.int (xs.getD (xs.length-1) 0)):=by
 obtain ⟨ys,y,rfl⟩:∃ys y,xs=ys++[y]:=⟨xs.dropLast,xs.getLast (by intro e;simp [e] at h),(List.dropLast_concat_getLast _).symm⟩
 rw [m4];show d5 (ys.map V.int++[V.int y]) (-1)=_;rw [Js,eL,mR,i8,getD_at (by simp)]
 simp
variable {x:Int}
theorem yB(h:x.natAbs≤4*10 ^ 520):a8 x:=fE h (by decide +kernel)
def gk:Nat→(Nat→Nat)→Nat
 | 0,_=>1
 | n+1,g=>gk n g*g n
def nQ(j:Nat)(g:Nat→Nat):Nat→Nat:=fun i=>if i<j then g i else g (i+1)
def EF(x:Nat)(g:Nat→Nat):Nat→Nat
 | 0=>x
 | i+1=>g i
theorem KN:∀{n:Nat} {f g:Nat→Nat},(∀i,i<n→f i=g i)→gk n f=gk n g
 | 0,_,_,_=>rfl
 | n+1,f,g,h=>by show gk n f*f n=gk n g*g n;rw [KN fun i hi=>h i (by lia),h n (by lia)]
theorem KO:∀(n j:Nat) (g:Nat→Nat),j≤n→gk n (nQ j g)*g j=gk (n+1) g
 | 0,j,g,h=>by
  have:j=0:=by lia
  subst this;rfl
 | n+1,j,g,h=>by
  by_cases e:j=n+1
  ·subst e
   show gk (n+1) (nQ (n+1) g)*g (n+1)=gk (n+1) g*g (n+1);rw [KN fun i hi=>by unfold nQ;rw [ai hi]]
  ·have ih:=KO n j g (by lia)
   show gk n (nQ j g)*nQ j g n*g j=gk (n+1) g*g (n+1);have:nQ j g n=g (n+1):=by unfold nQ;rw [ao (by lia)]
   rw [this,Nat.mul_right_comm,ih]
theorem KP:∀(n x:Nat) (g:Nat→Nat),gk (n+1) (EF x g)=x*gk n g
 | 0,x,g=>by show 1*x=x*1;lia
 | n+1,x,g=>by show gk (n+1) (EF x g)*g n=x*(gk n g*g n);rw [KP n x g,mY]
theorem Uw(j:Nat):(sgn j).natAbs=1:=by unfold sgn;split <;> rfl
theorem KQ:∀(C:List Nat) (v:aX) (g:Nat→Nat),(∀i c,(v i c).natAbs≤g i)→(aA C v).natAbs≤cF C.length*gk C.length g
 | [],_,_,_=>by show (1:Int).natAbs≤1*1;decide
 | c::C,v,g,h=>by
  rw [jU];refine aj (qA (M:=cF C.length*gk (C.length+1) g) _ _ fun j hj=>?_) (mP ?_)
  ·rw [b_,b_,Uw,tU]
   have d:=KQ C (bw j v) (nQ j g) fun i c'=>by
    unfold bw nQ
    split
    ·exact h _ _
    ·exact h _ _
   refine aj (cq (h j c) d) (mP ?_);rw [←KO C.length j g (by lia),pR,iG (g j)]
  ·rw [d8,cF,mY]
theorem KR:∀{m n:Nat},m≤n→cF m≤cF n
 | m,n,h=>by
  by_cases e:m=n;·rw [e];exact aE _
  ·obtain ⟨n',rfl⟩:∃n',n=n'+1:=⟨n-1,by lia⟩
   exact aj (KR (by lia)) (jB _ (by lia))
theorem Ux(hq:aF q):¬q∣1:=fun h=>by
 rcases hq with rfl | ⟨h2,_⟩
 ·have:=j_.mp h
  lia
 ·have:=xB (by decide) h
  lia
theorem yC{u:Int}(hq:aF q)(nu:¬q∣u)(h:Cg q (u*x) 0):Cg q x 0:=by unfold Cg at h ⊢;rw [k8] at h ⊢;exact z_ fun nx=>yt hq nu nx h
end My
namespace L2
open PySem PySem.Spec PyProof.Rows
theorem Uy{xs ys:List Int}(h:xs.length=ys.length):((List.range xs.length).all fun j=>nq (.int (xs.getD j 0)) (.int (ys.getD j 0)))=decide (xs=ys):=by
 by_cases e:xs=ys
 ·subst e
  rw [dC rfl,xy];intro j _;exact Eh rfl
 ·rw [eC e]
  cases z:((List.range xs.length).all fun j=>nq (.int (xs.getD j 0)) (.int (ys.getD j 0))) with
  | false=>rfl
  | true=>refine absurd (ke h fun j h1 h2=>?_) e;have:=xy.mp z j (fB.mpr h1);have this:(xs.getD j 0 == ys.getD j 0)=true:=this;rw [lT,d9,d9] at this;simpa [h1,h2] using this
end L2
namespace My
open PySem L2
def lI(B:Nat)(H:Hp)(q:Int)(a:Addr)(ay:iI):Prop:=∃vs:List V,H a=some (.lst vs)∧vs.length=ay.length∧∀(i:Nat) (v:V) (ps:aR),vs[i]?=some v→ay[i]?=some ps→∃r:Addr,v=.ref r∧bK B H q r ps
theorem lI.mono{B:Nat}{H H':Hp}{q:Int}{a:Addr}{ay:iI}(h:lI B H q a ay)(s:ag H H'):lI B H' q a ay:=by obtain ⟨vs,e,l,k⟩:=h;exact ⟨vs,s _ _ e,l,fun i v ps h1 h2=>by obtain ⟨r,e1,e2⟩:=k i v ps h1 h2;exact ⟨r,e1,e2.mono s⟩⟩
def Uz(N:Addr):Sp:=fun vs H Q E=>∃(a:Addr) (q:Int) (B:Nat) (ay:iI) (m:Nat),vs=[.ref a]∧lI B H q a ay∧1≤ay.length∧ay.length≤40∧(∀ps∈ay,ps.length=m)∧∀H',ag H H'→Q (.int (m:Int)) H'
def UA(N:Addr):Sp:=fun vs H Q E=>∃(a:Addr) (q:Int) (B:Nat) (ay:iI) (m:Nat),vs=[.ref a]∧lI B H q a ay∧1≤ay.length∧ay.length≤40∧(∀ps∈ay,ps.length=m)∧(m≠ay.length→∀H',ag H H'→E (.ref N) none H')∧(m=ay.length→∀H',ag H H'→Q (.int (m:Int)) H')
def atT(ay:iI)(i j:Nat):Int×Int:=(ay.getD i []).getD j o1
end My
namespace L2
open PySem PySem.Spec PyProof.Rows
end L2
namespace My
open PySem L2
theorem bK.nums{B:Nat}{H:Hp}{q:Int}{a:Addr}{ps:aR}(h:bK B H q a ps)(hq:aF q):∀p∈ps,Canon q p∧cT q p.2∧∃v,bC B H q v p.1 p.2:=fun p hp=>by
 obtain ⟨vs,e,l,f⟩:=h;obtain ⟨i,hi,e2⟩:=List.mem_iff_getElem.mp hp;have h1:i<vs.length:=by lia
 have z:=f i vs[i] p (by simp [h1]) (by simp [hi,e2])
 exact ⟨z.canon,z.bot hq,_,z⟩
end My
namespace L2
open PySem PySem.Spec PyProof.Rows
section
variable {X:Cx}
end
end L2
namespace My
open PySem L2
end My
namespace L2
open PySem PySem.Spec PyProof.Rows
end L2
namespace My
open PySem L2
theorem EG{wi:TI}{ρ:St→St}{te:TE}{σ:St}{H:Hp}{Q:VK}{xs:List V}{n:Nat}(hl:xs.length=n)(hE:∀R:It→Hp→Prop,(∀J H1,ag H H1→nF J xs H1→R J H1)→wi σ H R)(hn:n<sizeLine)
  (P:Addr→Nat→Addr→Hp→Prop) (mono:∀D i y H H' ys,P D i y H→y≠D→H D=some (.lst ys)→(∀b o,b≠D→H b=some o→H' b=some o)→P D i y H')
  (step:∀D (i:Nat) (x:V),xs[i]?=some x→∀(Hc:Hp) (R:VK),ag H Hc→(∃ys,Hc D=some (.lst ys))→(∀y H3,ag Hc H3→Hc y=none→(∃o,H3 y=some o)→P D i y H3→R (.ref y) H3)→te (some x::ρ σ) Hc R)
  (fin:∀D (A:Nat→Addr) Hc,H D=none→ag H Hc→(∀i j,i<n→j<n→A i=A j→i=j)→(∀i,i<n→P D i (A i) Hc∧A i≠D)→Hc D=some (.lst ((List.range n).map fun i=>V.ref (A i)))→Q (.ref D) Hc):jO wi ρ (fun _ H Q=>Q true H) te σ H Q:=by
 refine hE _ fun J H1 s1 js=>?_;intro D nD;have hD:H D=none:=by
  cases e:H D with
  | none=>rfl
  | some o=>rw [s1 _ _ e] at nD;cases nD
 refine ⟨fun i m ys Hc=>m=n-i∧i≤n∧Hc D=some (.lst ys)∧ag H1 Hc∧∃A:Nat→Addr,ys=(List.range i).map (fun j=>V.ref (A j))∧(∀a b,a<i→b<i→A a=A b→a=b)∧∀j,j<i→P D j (A j) Hc∧A j≠D∧∃o,Hc (A j)=some o,⟨_,rfl,cN _,az,jq (ag.refl H1) nD,fun _=>D,rfl,(fun a b h=>by lia),fun j h=>by lia⟩,?_⟩
 rintro i m ys Hc ⟨rfl,hi,eD,sH,A,rfl,inj,hA⟩;refine ⟨eD,?_⟩;by_cases cI:i<n
 ·refine .inr ⟨js.go i Hc sH (by lia),fun x H' hy=>?_⟩
  obtain ⟨rfl,hx⟩:=js.fm i Hc x H' sH hy;rw [ai rfl];refine step D i x (hx (by lia)) _ _ (s1.trans sH) ⟨_,eD⟩ fun y H3 s3 ny ⟨o,ho⟩ hp=>?_
  have e3:=s3 _ _ eD;have yD:y≠D:=fun e=>by rw [e,eD] at ny;cases ny
  have cm:∀b o,b≠D→H3 b=some o→upd H3 D (.lst ((List.range i).map (fun j=>V.ref (A j))++[.ref y])) b=some o:=fun b o nb e=>by rw [a9 nb];exact e
  have nA:∀j,j<i→A j≠y:=fun j hj e=>by obtain ⟨_,_,o',h'⟩:=hA j hj;rw [e,ny] at h';cases h'
  refine ⟨e3,by simp;lia,n-(i+1),by lia,rfl,cI,az,jq (sH.trans s3) nD,fun j=>if j=i then y else A j,?_,fun a b ha hb e=>?_,fun j hj=>?_⟩
  ·rw [List.range_succ,m4]
   congr 1
   ·refine m5 fun j hj=>?_
    dsimp only;rw [ao (by have:=fB.mp hj;lia)]
   ·simp
  ·dsimp only at e
   by_cases z1:a=i
   ·by_cases z2:b=i
    ·lia
    ·rw [ai z1,ao z2] at e
     exact absurd e.symm (nA b (by lia))
   ·by_cases z2:b=i
    ·rw [ao z1,ai z2] at e
     exact absurd e (nA a (by lia))
    ·rw [ao z1,ao z2] at e
     exact inj a b (by lia) (by lia) e
  ·dsimp only
   by_cases z:j=i
   ·rw [ai z,z]
    exact ⟨mono D i y H3 _ _ hp yD e3 cm,yD,o,cm _ _ yD ho⟩
   ·rw [ao z]
    obtain ⟨h1,h2,o',h3⟩:=hA j (by lia)
    exact ⟨mono D j (A j) H' _ _ h1 h2 eD (fun b o nb e=>cm b o nb (s3 _ _ e)),h2,o',cm _ _ h2 (s3 _ _ h3)⟩
 ·have e:i=n:=by lia
  subst e;exact .inl ⟨js.stop _ Hc sH (by lia),fin D A Hc hD (s1.trans sH) inj (fun j hj=>⟨(hA j hj).1,(hA j hj).2.1⟩) eD⟩
theorem KS(b:Nat):∀n,gk n (fun _=>b)=b ^ n
 | 0=>rfl
 | n+1=>by show gk n (fun _=>b)*b=b ^ (n+1);rw [KS b n,k7]
open PySem PySem.W PyProof.Rows
section
variable {n:Nat} {c:Nat→Int}
end
end My
namespace Tm
open PySem PySem.W PyProof.Rows
section
variable {prog:Program} {w:World} {A:Around} {E:aV} {s:Shared} {κ:SortKind} {key:Keyed→Int} {Ok:Keyed→Prop}
end
section
variable {prog:Program} {w:World} {A:Around} {E:aV} {s:Shared} {κ:SortKind} {key:Keyed→Int} {Ok:Keyed→Prop}
section
end
end
section
variable {key:Keyed→Int}
end
section
variable {prog:Program} {w:World} {A:Around} {E:aV} {s:Shared} {κ:SortKind} {key:Keyed→Int} {Ok:Keyed→Prop}
end
section
variable {prog:Program} {w:World} {A:Around} {E:aV} {s:Shared} {κ:SortKind} {key:Keyed→Int} {Ok:Keyed→Prop}
variable {arr:Array Keyed} {pend:Array (Nat×Nat×Nat)} {g:Nat}
end
section
variable {prog:Program} {w:World} {A:Around} {E:aV} {s:Shared} {κ:SortKind} {key:Keyed→Int} {Ok:Keyed→Prop} {arr:Array Keyed} {pend:Array (Nat×Nat×Nat)} {g:Nat}
end
section
variable {prog:Program} {w:World} {A:Around} {E:aV} {s:Shared} {κ:SortKind} {key:Keyed→Int} {Ok:Keyed→Prop} {arr:Array Keyed} {pend:Array (Nat×Nat×Nat)} {g:Nat}
end
section
variable {prog:Program} {w:World} {A:Around} {E:aV} {s:Shared} {κ:SortKind} {key:Keyed→Int} {Ok:Keyed→Prop} {arr:Array Keyed} {pend:Array (Nat×Nat×Nat)} {g:Nat}
end
section
variable {key:Keyed→Int} {arr af1:Array Keyed}
end
section
variable {prog:Program} {w:World} {A:Around} {E:aV} {s:Shared} {κ:SortKind} {key:Keyed→Int} {Ok:Keyed→Prop} {arr:Array Keyed} {pend:Array (Nat×Nat×Nat)} {g:Nat}
end
end Tm
namespace My
open PySem PySem.W PyProof.Rows Tm
section
variable {prog:Program} {w:World} {A:Around} {E:aV} {s:Shared}
end
open PySem PySem.W PyProof.Rows
section
variable {prog:Program} {w:World} {A:Around} {E:aV} {s:Shared}
end
end My
namespace L2
open PySem PySem.W PyProof.Rows My
end L2
namespace My
open PySem L2
def iz(H:Hp)(vs:List V)(L:aR):Prop:=vs.length=L.length∧∀(k:Nat) (v:V) (p:Int×Int),vs[k]?=some v→L[k]?=some p→∃b,v=.ref b∧H b=some (.tup [.int p.1,.int p.2])
theorem iz.nil(H:Hp):iz H [] []:=⟨rfl,fun k v p h=>by simp at h⟩
variable {H H':Hp} {L:aR}
theorem iz.mono{vs:List V}(h:iz H vs L)(s:ag H H'):iz H' vs L:=⟨h.1,fun k v p h1 h2=>by obtain ⟨b,e,g⟩:=h.2 k v p h1 h2;exact ⟨b,e,s _ _ g⟩⟩
variable {xs:List V}
theorem iz.cm{vs:List V}{r:Addr}(h:iz H vs L)(e:H r=some (.lst xs))(k:∀b o,b≠r→H b=some o→H' b=some o):iz H' vs L:=⟨h.1,fun i v p h1 h2=>by obtain ⟨b,eb,g⟩:=h.2 i v p h1 h2;refine ⟨b,eb,k b _ (fun z=>?_) g⟩;rw [z,e] at g;cases g⟩
def EI(H:Hp)(t:Addr)(n:Nat)(L:aR):Prop:=∃(lt:Addr) (us:List V),H t=some (.tup [.int (n:Int),.ref lt])∧H lt=some (.tup us)∧iz H us L
theorem iz.cat{us zs:List V}{M:aR}(h:iz H us L)(g:iz H zs M):iz H (us++zs) (L++M):=⟨by simp [h.1,g.1],fun k v p h1 h2=>by
 have hl:=h.1;by_cases z:k<us.length
 ·rw [ic z] at h1
  rw [ic (by lia)] at h2
  exact h.2 k v p h1 h2
 ·rw [gS (by lia)] at h1
  rw [gS (by lia),show k-L.length=k-us.length by lia] at h2
  exact g.2 _ v p h1 h2⟩
variable {K:aB}
theorem KU{X:Cx}(hu:X.A.units<cLine)(hK:X.K=K:=by rfl):cP X (compareOp .NotEq) (Ea K):=by subst hK;exact S7 hu
theorem KW{B B':Nat}{q:Int}{v u:V}{x m:Int}{R:VK}(hv:bC B H q v x m)(hu:bC B' H q u 0 1)(k:R (.bl (!decide (x=0))) H):Ea K v u H R:=by
 cases hv with
 | bA e l bx bm=>
  cases hu with
  | bA e' l' _ _=>
   refine .inl ⟨_,_,_,_,rfl,rfl,.of e,.of e',rfl,rfl,?_⟩;have z:(g9 [V.int x,V.int m] [V.int 0,V.int 1])=decide (x=0):=by
    show ((x == 0) && ((m == 1) && true))=_;by_cases hx:x=0
    ·subst hx
     have:=l.jk;rw [Int.gcd_zero_left] at this;have:=l.pos;have:m=1:=by lia
     subst this;rfl
    ·rw [eC hx,show (x == 0)=false by simp [hx],Bool.false_and]
   rw [z];simpa using k
  | rem h0 h1 _=>lia
 | rem h0 h1 h2=>
  cases hu with
  | bA _ _ _ _=>lia
  | rem _ _ _=>
   refine .inr ⟨rfl,?_⟩;rw [show decide (V.int x=V.int 0)=decide (x=0) by simp]
   exact k
theorem KY{wi:TI}{ρ:St→St}{tt:TT}{te:TE}{σ:St}{Q:VK}(pr:Nat→Bool)(hE:∀R:It→Hp→Prop,(∀J,nF J xs H→R J H)→wi σ H R)(hn:xs.length<sizeLine)
  (P:Addr→Nat→V→Hp→Prop) (mono:∀D i y H H' ys,P D i y H→H D=some (.lst ys)→(∀b o,b≠D→H b=some o→H' b=some o)→P D i y H')
  (test:∀(i:Nat) (x:V),xs[i]?=some x→∀(Hc:Hp) (R:Bool→Hp→Prop),ag H Hc→R (pr i) Hc→tt (some x::ρ σ) Hc R)
  (step:∀D (i:Nat) (x:V),xs[i]?=some x→∀(Hc:Hp) (R:VK),ag H Hc→(∃ys,Hc D=some (.lst ys))→(∀y H3,ag Hc H3→P D i y H3→R y H3)→te (some x::ρ σ) Hc R)
  (fin:∀D ys Hc,H D=none→ag H Hc→ys.length=((List.range xs.length).filter pr).length→(∀(k i:Nat) (y:V),ys[k]?=some y→((List.range xs.length).filter pr)[k]?=some i→P D i y Hc)→Hc D=some (.lst ys)→Q (.ref D) Hc):jO wi ρ tt te σ H Q:=by
 refine hE _ fun J js=>?_;intro D nD;refine ⟨fun i m ys Hc=>m=xs.length-i∧i≤xs.length∧Hc D=some (.lst ys)∧ag H Hc∧ys.length=((List.range i).filter pr).length∧∀(k i':Nat) (y:V),ys[k]?=some y→((List.range i).filter pr)[k]?=some i'→P D i' y Hc,⟨_,rfl,cN _,az,jq (ag.refl H) nD,rfl,fun k i y h=>by simp at h⟩,?_⟩
 rintro i m ys Hc ⟨rfl,hi,eD,sH,ly,hP⟩;refine ⟨eD,?_⟩;by_cases cI:i<xs.length
 ·refine .inr ⟨js.go i Hc sH cI,fun x H' hy=>?_⟩
  obtain ⟨rfl,hx⟩:=js.fm i Hc x H' sH hy;refine test i x (hx cI) _ _ sH ?_;have fs:(List.range (i+1)).filter pr=(List.range i).filter pr++(if pr i=true then [i] else []):=by
   rw [List.range_succ,List.filter_append]
   congr 1
   cases e:pr i <;> simp [e]
  have fl:((List.range i).filter pr).length≤i:=aj (Dj _ _) (by simp)
  cases e:pr i with
  | true=>
   rw [ai rfl];refine step D i x (hx cI) _ _ sH ⟨_,eD⟩ fun y H3 s3 hp=>?_;have e3:=s3 _ _ eD;have cm:∀b o,b≠D→H3 b=some o→upd H3 D (.lst (ys++[y])) b=some o:=fun b o nb e=>by rw [a9 nb];exact e
   refine ⟨e3,by lia,xs.length-(i+1),by lia,rfl,cI,az,jq (sH.trans s3) nD,?_,fun k i' y' h1 h2=>?_⟩
   ·rw [fs,e,ai rfl,eL,eL,ly]
    rfl
   ·rw [fs,e,ai rfl] at h2
    by_cases z:k<ys.length
    ·rw [ic z] at h1
     rw [ic (by lia)] at h2
     refine mono D i' y' H' _ ys (hP k i' y' h1 h2) eD fun b o nb e=>cm b o nb (s3 _ _ e)
    ·have hk:=(b6.mp h1).1
     rw [eL,mR] at hk;obtain rfl:k=ys.length:=by lia
     rw [gS (aE _),mV] at h1;rw [gS (by lia),show ys.length-((List.range i).filter pr).length=0 by lia] at h2
     cases h1;cases h2;exact mono D _ _ H3 _ ys hp e3 cm
  | false=>
   rw [ao (by simp)]
   refine ⟨xs.length-(i+1),by lia,rfl,cI,eD,sH,?_,fun k i' y' h1 h2=>?_⟩
   ·rw [fs,e,ao (by simp),zS]
    exact ly
   ·rw [fs,e,ao (by simp),zS] at h2
    exact hP k i' y' h1 h2
 ·have e:i=xs.length:=by lia
  subst e;exact .inl ⟨js.stop _ Hc sH (aE _),fin D ys Hc nD sH ly hP eD⟩
def mC(n:Nat)(f:Nat→Nat→Bool)(i:Nat):List (Int×Int):=((List.range (n-(i+1))).filter fun k=>f i (i+1+k)).map fun k=>((i:Int),((i+1+k:Nat):Int))
def eQ(n:Nat)(f:Nat→Nat→Bool):Nat→List (Int×Int)
 | 0=>[]
 | i+1=>eQ n f i++mC n f i
variable {n i:Nat} {f:Nat→Nat→Bool}
theorem UB{p:Int×Int}(h:p∈mC n f i):∃j,i<j∧j<n∧f i j=true∧p=((i:Int),(j:Int)):=by obtain ⟨k,hk,rfl⟩:=gc.mp h;obtain ⟨h1,h2⟩:=tM.mp hk;have:=fB.mp h1;exact ⟨i+1+k,by lia,by lia,h2,rfl⟩
theorem UC{j:Nat}(h1:i<j)(h2:j<n)(h3:f i j=true):((i:Int),(j:Int))∈mC n f i:=by
 refine gc.mpr ⟨j-(i+1),tM.mpr ⟨fB.mpr (by lia),?_⟩,?_⟩
 ·show f i (i+1+(j-(i+1)))=true
  rw [show i+1+(j-(i+1))=j by lia]
  exact h3
 ·rw [show i+1+(j-(i+1))=j by lia]
theorem mem_of{n:Nat}{f:Nat→Nat→Bool}{p:Int×Int}:∀{k:Nat},p∈eQ n f k→∃i j,i<k∧i<j∧j<n∧f i j=true∧p=((i:Int),(j:Int))
 | 0,h=>by cases h
 | k+1,h=>by
  rcases i7.mp h with h | h
  ·obtain ⟨i,j,h1,h2⟩:=mem_of h
   exact ⟨i,j,by lia,h2⟩
  ·obtain ⟨j,h1⟩:=UB h
   exact ⟨k,j,by lia,h1⟩
theorem EJ{n:Nat}{f:Nat→Nat→Bool}{i j:Nat}(h1:i<j)(h2:j<n)(h3:f i j=true):∀{k:Nat},i<k→((i:Int),(j:Int))∈eQ n f k
 | k+1,h=>by
  by_cases z:i=k
  ·subst z
   exact fC _ (UC h1 h2 h3)
  ·exact xn _ (EJ h1 h2 h3 (by lia))
def o7(ay:iI)(i j:Nat):Bool:=!decide (((ay.getD i []).getD j o1).1=0)
def dq(ay:iI)(i j:Nat):Bool:=o7 ay i j || o7 ay j i
def UD(C:Addr):Sp:=fun vs H Q _=>∃(z a:Addr) (q:Int) (B:Nat) (ay:iI) (n i:Nat),vs=[.ref z,.ref a,.int (i:Int)]∧dj C H z q∧aF q∧lI B H q a ay∧ay.length=n∧n≤40∧(∀ps∈ay,ps.length=n)∧i<n ∧
 ∀(r:Addr) (us:List V) (H':Hp),ag H H'→H r=none→H' r=some (.lst us)→iz H' us (mC n (dq ay) i)→Q (.ref r) H'
def UE(C N:Addr):Sp:=fun vs H Q E=>∃(z a:Addr) (q:Int) (B:Nat) (ay:iI) (m:Nat),vs=[.ref z,.ref a]∧dj C H z q∧aF q∧lI B H q a ay∧1≤ay.length∧ay.length≤40∧(∀ps∈ay,ps.length=m) ∧
 (m≠ay.length→∀H',ag H H'→E (.ref N) none H') ∧
 (m=ay.length→∀(t:Addr) (H':Hp),ag H H'→H t=none→EI H' t m (eQ m (dq ay) m)→Q (.ref t) H')
end My
namespace L2
open PySem PySem.Spec PyProof.Rows
section
variable {X:Cx} {pins:bg} {σ:St} {H:Hp} {s:Shared}
end
end L2
namespace My
open PySem L2
end My
namespace L2
open PySem PySem.Spec PyProof.Rows
def EK(o:Obj):Nat:=match o.data with
 | .dict _ ep=>ep
 | _=>0
def ux(a:Addr)(o:Obj)(ar:List (Key×V)):It:=
 ⟨fun i H=>H a=some (.cW o (.dK ar))∧i<ar.length,fun i H x H'=>H'=H∧∃kv,ar[i]?=some kv∧x=kV kv.1,fun i H=>H a=some (.cW o (.dK ar))∧ar.length≤i⟩
variable {k:Key}
theorem UG{v:Value}(h:pU k v=true):RelV (kV k) v:=by
 rcases lW h with ⟨i,t,rfl,rfl⟩ | ⟨x,t,rfl,rfl⟩;·exact ⟨t,rfl⟩
 ·exact ⟨t,rfl⟩
theorem KZ{ar:List (Key×V)}{vs:List (Key×Value)}:∀{i:Nat} {kv:Key×V},KV ar vs→ar[i]?=some kv→∃v,vs[i]?=some (kv.1,v)
 | _,_,.nil,h=>by simp at h
 | 0,kv,.cons (b:=b) r _,h=>by simp at h;subst h;obtain ⟨k,v⟩:=b;have e:_=k:=r.1;exact ⟨v,by rw [e];rfl⟩
 | i+1,kv,.cons _ t,h=>by simp at h;obtain ⟨v,e⟩:=KZ t h;exact ⟨v,by simpa using e⟩
section
variable {X:Cx} {pins:bg} {σ:St} {H:Hp} {s:Shared}
theorem Inv.EL{a:Addr}{o:Obj}{ar:List (Key×V)}(I:Inv X pins σ H s)(h:H a=some (.cW o (.dK ar))):∃vs,KV ar vs∧s.heap.DictAt (iJ X.prog X.w) a vs (EK o):=by obtain ⟨g,_,_,vs,r,o',es,ep,g',c,d,rest⟩:=(show da X.prog X.w H s.heap a (.cW o (.dK ar)) from I.aC a _ h);rw [g] at g';cases g';refine ⟨vs,r,o,es,g,c,?_,rest⟩;rw [d];unfold EK;rw [d]
end
variable {P:Program} {w:World}
theorem UH{K:aB}{tg:Expr}(a it:Addr)(o:Obj)(ar:List (Key×V)):Turn P w K tg (ux a o ar) [it] it (fun i h=>h.IsKeyIter it a i ar.length (EK o)) where
 mem:=by simp
 obj:=fun i h st b hb=>by
  have e:b=it:=by simpa using hb
  subst e;obtain ⟨o,e,c,d⟩:=st;exact ⟨o,e,fun v z=>by rw [d] at z;cases z⟩
 keep:=fun i h h' st k=>by obtain ⟨o,e,c,d⟩:=st;exact ⟨o,k it (by simp) o e,c,d⟩
 item:=by
  intro X hP hw hK hc i pins s σ H E I hf st hg;subst hP hw hK;obtain ⟨eH,hi⟩:=hg;obtain ⟨vs,r,hm⟩:=I.EL eH;have lr:ar.length=vs.length:=Paired.length r;have ek:ar[i]?=some ar[i]:=by simp [hi]
  obtain ⟨v,ev⟩:=KZ r ek;obtain ⟨f0,f1,f2,f3,f4,f5⟩:=hf it (by simp)
  rw [lr] at st;refine wpAny_pyNext_dict_item st hm ev fun key h' hk jd sb=>?_;have I1:Inv X pins σ H {s with heap:=h'}:=I.turned (t':=s.toks) (fun b o hb e=>(sb.2 b hb).trans e) f0 f1 f3 f4 f5;obtain ⟨o',e,c,d⟩:=id jd;rw [←lr] at jd;exact ⟨key,rfl,x3 (s:={s with heap:=h'}) e c d (by decide) ⟨kV ar[i].1,H,I1,UG hk,⟨rfl,_,ek,rfl⟩,jd,fun b hb=>(hf b hb).1⟩⟩
 done:=by
  intro X hP hw hK hc i pins s σ H E I hf st hg;subst hP hw hK;obtain ⟨eH,hi⟩:=hg;obtain ⟨vs,r,hm⟩:=I.EL eH;have lr:ar.length=vs.length:=Paired.length r;obtain ⟨f0,f1,f2,f3,f4,f5⟩:=hf it (by simp)
  rw [lr] at st;exact wpAny_pyNext_dict_end (I.ok.hd hc) st hm (by simp;lia) fun h' eb=>⟨rfl,I.turned (t':=s.toks) (fun b o hb e=>eb b o hb e) f0 f1 f3 f4 f5⟩
 self:=fun _ _ _ _ _ st h=>wpAny_pyIter_keyiter st h
section
variable {X:Cx} {tg:Expr}
def UI(tl:TE):TI:=fun σ H R=>tl σ H fun x H1=>∃a ar,x=.ref a∧((H1 a=some (.dK ar)∧∀o,R (ux a o ar) (upd H1 a (.cW o (.dK ar))))∨∃o,H1 a=some (.cW o (.dK ar))∧R (ux a o ar) H1)
theorem UJ{l:Expr}{tl:TE}(hl:PE X l tl):PI X tg l (UI tl):=by
 intro pins s σ H R I h;refine aS (hl pins s σ H _ I h) fun v s1 ⟨x,H1,I1,r1,q1⟩=>?_;obtain ⟨a,ar,e,q⟩:=q1;subst e;cases r1;have main:∀{H2:Hp} {o:Obj},Inv X pins σ H2 s1→H2 a=some (.cW o (.dK ar))→R (ux a o ar) H2→wpAny (model X.prog X.w) X.A (pyIter (.ref a)) (Dz X pins σ tg R) X.xe s1:=fun{H2 o} I2 eH q=>by
  obtain ⟨vs,r,hm⟩:=I2.EL eH;obtain ⟨_,_,sys,_⟩:=(show da X.prog X.w H2 s1.heap a (.cW o (.dK ar)) from I2.aC a _ eH);have lr:ar.length=vs.length:=Paired.length r;refine wpAny_pyIter_dict sys hm ?_;refine ⟨s1.heap.objs.size,[s1.heap.objs.size],_,_,H2,rfl,I2.kept (t':=s1.toks) fun b o e=>dy _ e,UH a _ o ar,⟨_,fZ _ rfl,rfl,by rw [lr];rfl⟩,fun b hb=>?_,q⟩
  have e:b=s1.heap.objs.size:=by simpa using hb
  subst e;exact I2.qc (aE _) (I2.aC.fresh (aE _))
 rcases q with ⟨eH,q⟩ | ⟨o,eH,q⟩
 ·obtain ⟨hz,sys,vs,r,o,es,ep,g,c,d,rest⟩:=(show da X.prog X.w H1 s1.heap a (.dK ar) from I1.aC a _ eH)
  refine main (H2:=upd H1 a (.cW o (.dK ar))) ?_ az (q o);exact I1.write (t':=s1.toks) (x:=a) (e:=a) (by rw [eH];exact trivial) (.inl rfl) (fun b u _ e=>e) ⟨o,g⟩ ⟨g,hz,sys,vs,r,o,es,ep,g,c,d,rest⟩
 ·exact main I1 eH q
end
section
variable (P:Program) (w:World)
end
section
variable {P:Program} {w:World} {H H':Hp} {h h':Heap} {a:Addr} {o:HO}
end
section
variable {P:Program} {w:World} {H:Hp} {h h':Heap} {x e:Addr} {o':HO}
end
section
variable {fs Dm ex m8:List Addr} {H H1 H2:Hp} {h h1 h2 h':Heap} {a x e:Addr} {o:HO}
end
section
variable {X:Cx} {pins:bg} {σ:List (Option V)} {H H':Hp} {s:Shared} {h':Heap}
end
section
variable {X:Cx}
variable {a b:Expr} {ta tb:TE} {pos:Pos}
variable {tA xS:TT} {rest:List Expr}
end
section
variable {X:Cx} {pins:bg} {σ:St} {H:Hp} {s:Shared} {a:Addr} {xs ys:List V}
end
section
variable {X:Cx} {pins:bg} {σ:St} {H:Hp} {s:Shared} {E:aV}
end
section
variable {X:Cx} {st:Stmt} {rest:List Stmt} {t u:TS} {e:Expr} {te:TE} {pos:Pos}
end
section
variable {X:Cx} {pos:Pos}
end
section
variable {X:Cx} {pos:Pos}
end
section
variable {X:Cx} {tg:Expr}
end
section
variable {X:Cx} {a b c:Expr} {ta tb tc:TE} {pos:Pos}
end
section
variable {X:Cx} {a b c:Expr} {ta tb tc:TE} {pos:Pos}
end
section
variable {prog:Program} {w:World} {A:Around} {E:aV} {s:Shared} {K:aB} {x dx C f:Addr} {mA:dG} {name:Str} {v:Value}
end
section
variable {P:Program} {w:World} {H H':Hp} {h h':Heap} {a C dx:Addr} {fs Dm:List (Str×V)}
end
section
variable {X:Cx} {pins:bg} {σ:St} {H:Hp} {s:Shared} {a C dx:Addr} {fs:List (Str×V)} {f:Str} {v:V} {A:Around} {E:aV}
end
section
variable {X:Cx} {o e value:Expr} {f:Str} {pos pos' t7:Pos} {ta tv:TE}
end
section
variable {X:Cx} {pins:bg} {σ:St} {H:Hp} {s:Shared} {A:Around} {E:aV} {Q:aV} {c:Value} {b:Bool}
end
section
variable {X:Cx} {e:Expr} {es:List Expr} {te:TE} {t:TA} {pos:Pos}
end
section
variable {X:Cx} {pins:bg} {σ:St} {H:Hp} {s s':Shared}
end
section
variable {X:Cx} {CX:iR} {k:Nat} {f C:Addr} {fd:FuncData} {ps:List Str} {sp:Sp} {fG:List V} {ds:List Value} {E:XK} {x m:Str} {p pos apos:Pos} {e o:Expr} {es:List Expr} {ta:TE} {t:TA}
end
section
variable {X:Cx} {CX:iR} {k:Nat} {f C:Addr} {fd:FuncData} {ps ks:List Str} {sp:Sp} {E:XK} {x m:Str} {p pos apos Jb:Pos} {e o:Expr} {es:List Expr} {Q_:List Keyword} {te ta:TE} {t tk:TA} {nm:Option Str}
variable {g:List Value→List Value→List Value} {gV:List V→List V→List V}
end
section
variable {X:Cx} {x:Str} {p pos:Pos} {e:Expr} {es:List Expr} {t:TA} {id T:String} {r:List V→Hp→VK→Prop}
end
section
variable {κ:Type} [DecidableEq κ]
def qC(ar:List (κ×V))(k:κ):Option V:=(ar.find? fun kv=>decide (kv.1=k)).map (·.2)
def putK(ar:List (κ×V))(k:κ)(v:V):List (κ×V):=
 if (ar.any fun kv=>decide (kv.1=k))=true then ar.map (fun kv=>if kv.1=k then (kv.1,v) else kv) else ar++[(k,v)]
variable {p:κ×V} {r:List (κ×V)}
theorem K6{k:κ}(e:p.1=k):qC (p::r) k=some p.2:=by simp [qC,Aa,e]
theorem K7{k:κ}(e:¬p.1=k):qC (p::r) k=qC r k:=by simp [qC,Aa,e]
theorem K8(k:κ):∀ar:List (κ×V),(ar.any fun kv=>decide (kv.1=k))=(qC ar k).isSome
 | []=>rfl
 | p::r=>by
  rw [xE];by_cases e:p.1=k;·simp only [K6 e,dC e,Bool.true_or,Option.isSome_some]
  ·rw [K7 e,eC e,Bool.false_or];exact K8 k r
theorem K9(ar:List (κ×V))(k:κ)(v:V):(putK ar k v).length≤ar.length+1:=by
 unfold putK
 split
 ·rw [aG];lia
 ·rw [eL,d8,List.length_nil];lia
theorem jD.UK{o:Option V}{u:Option Value}(r:jD o u):o.isSome=u.isSome:=by
 cases o with
 | none=>cases u with
  | none=>rfl
  | some _=>exact (show False from r).elim
 | some _=>cases u with
  | none=>exact (show False from r).elim
  | some _=>rfl
variable {ar:List (κ×V)}
theorem KV.any{vs:List (κ×Value)}(r:KV ar vs)(k:κ):(ar.any fun kv=>decide (kv.1=k))=vs.any fun kv=>decide (kv.1=k):=by
 unfold KV at r
 induction r with
 | nil=>rfl
 | cons h t ih=>rw [xE,xE,ih,h.1]
variable {y:V} {u:Value}
theorem KV.EM{vs:List (κ×Value)}(r:KV ar vs)(k:κ)(ry:RelV y u) :
  KV (ar.map fun kv=>if kv.1=k then (kv.1,y) else kv) (vs.map fun kv=>if kv.1=k then (kv.1,u) else kv):=by
 unfold KV at r ⊢
 induction r with
 | nil=>exact .nil
 | @cons p q ps qs h t ih=>
  rw [cX,cX];refine .cons ?_ ih;obtain ⟨h1,h2⟩:=h;by_cases e:p.1=k;·rw [ai e,ai (h1.symm.trans e)];exact ⟨h1,ry⟩
  ·rw [ao e,ao (fun z=>e (h1.trans z))];exact ⟨h1,h2⟩
theorem KV.put{vs:List (κ×Value)}(r:KV ar vs)(k:κ)(ry:RelV y u):KV (putK ar k y) (stored vs k u):=by
 unfold putK stored;rw [r.any k];by_cases e:(vs.any fun kv=>decide (kv.1=k))=true;·rw [ai e,ai e];exact r.EM k ry
 ·rw [ao e,ao e];exact Paired.snoc r ⟨rfl,ry⟩
theorem KV.length{vs:List (κ×Value)}(r:KV ar vs):ar.length=vs.length:=Paired.length r
end
variable {u:Value}
theorem K_(r:RelV (kV k) u):(iJ P w).is k u=true:=by
 cases k with
 | inl i=>obtain ⟨t,e⟩:=(show ∃t,u=Value.int i t from r);subst e;exact PD P w i t
 | inr x=>obtain ⟨t,e⟩:=(show ∃t,u=Value.str x t from r);subst e;exact PF P w x t
theorem La{P:Program}{w:World}:∀{ks:List Key} {us:List Value},Vals (ks.map kV) us→ItemsAre (iJ P w) ks us
 | [],_,r=>by rw [List.map_nil] at r;cases r;exact .nil
 | k::ks,_,r=>by
  rw [cX] at r;cases r with
  | cons h t=>exact .cons (K_ h) (La t)
abbrev KT (H:Hp):List (List Key×V)→List (List Key×Addr×Value)→Prop:=Paired fun p q=>p.1=q.1∧H q.2.1=some (.tup (p.1.map kV))∧RelV p.2 q.2.2
variable {H:Hp} {ar:List (List Key×V)} {xs:List (List Key×Addr×Value)}
theorem KT.val(r:KT H ar xs)(k:List Key):jD (qC ar k) ((atKey xs k).map (·.2)):=by
 induction r with
 | nil=>exact True.intro
 | @cons p q ps qs h t ih=>
  obtain ⟨h1,_,h2⟩:=h;by_cases e:p.1=k
  ·have e':q.1=k:=h1.symm.trans e
   have b:atKey (q::qs) k=some q.2:=by simp [atKey,Aa,e']
   rw [K6 e,b];exact h2
  ·have e':¬q.1=k:=fun z=>e (h1.trans z)
   have b:atKey (q::qs) k=atKey qs k:=by simp [atKey,Aa,e']
   rw [K7 e,b];exact ih
variable {y:V}
theorem KT.EM(r:KT H ar xs)(k:List Key)(ry:RelV y u) :
  KT H (ar.map fun kv=>if kv.1=k then (kv.1,y) else kv) (xs.map (putAt k u)):=by
 induction r with
 | nil=>exact .nil
 | @cons p q ps qs h t ih=>
  rw [cX,cX];refine .cons ?_ ih;obtain ⟨h1,h2,h3⟩:=h;unfold putAt;by_cases e:p.1=k;·rw [ai e,ai (h1.symm.trans e)];exact ⟨h1,h2,ry⟩
  ·rw [ao e,ao (fun z=>e (h1.trans z))];exact ⟨h1,h2,h3⟩
theorem KT.put(r:KT H ar xs)(k:List Key){b:Addr}(hb:H b=some (.tup (k.map kV)))(ry:RelV y u) :
  KT H (putK ar k y) (storedH xs k b u):=by
 have e:(ar.any fun kv=>decide (kv.1=k))=(atKey xs k).isSome:=by rw [K8,(r.val k).UK,Option.isSome_map]
 unfold putK storedH;rw [e];by_cases q:(atKey xs k).isSome=true;·rw [ai q,ai q];exact r.EM k ry
 ·rw [ao q,ao q];exact Paired.snoc r ⟨rfl,hb,ry⟩
theorem KT.keeps{H':Hp}(r:KT H ar xs)(ht:∀b ys,H b=some (.tup ys)→H' b=some (.tup ys)):KT H' ar xs:=
 Paired.Dl r fun _ _ z=>⟨z.1,ht _ _ z.2.1,z.2.2⟩
section
variable {P:Program} {w:World} {H:Hp} {h:Heap} {a:Addr}
theorem Lb{u:HO}(ok:cL P w H h)(e:Rd H a u):da P w H h a u:=e.ok ok
theorem UL{ar:List (Key×V)}(ok:cL P w H h)(e:Rd H a (.dK ar)):ar.length≤sizeLine∧(a == sysModules)=false∧∃vs,KV ar vs∧h.DictOf (iJ P w) a vs:=
 show da P w H h a (.dK ar) from Lb ok e
theorem UM{ar:List (Key×V)}(ok:cL P w H h)(e:H a=some (.dK ar)):ar.length≤sizeLine∧(a == sysModules)=false∧∃vs,KV ar vs∧h.DictOf (iJ P w) a vs:=UL ok (.inl e)
theorem Lc{ks:List Key}(ok:cL P w H h)(e:H a=some (.tup (ks.map kV))):(tupleKind (iJ P w)).is h ks a:=by obtain ⟨_,ak,r,o,h1,h2,n,h3⟩:=(show da P w H h a (.tup (ks.map kV)) from ok a _ e);exact ⟨o,ak.toArray,n,h1,h2,h3,by simpa using La r⟩
theorem UN(ok:cL P w H h)(e:Rd H a (.dT ar)):ar.length≤sizeLine∧(a == sysModules)=false ∧
  ∃xs,KT H ar xs∧h.DictOfH (tupleKind (iJ P w)) a xs:=by
 obtain ⟨z,y,xs,r,o,es,ep,h1,h2,h3,h4,h5⟩:=(show da P w H h a (.dT ar) from Lb ok e);refine ⟨z,y,xs,r,o,es,ep,h1,h2,h3,h4,fun x hx=>?_,h5⟩;have all:∀{l:List (List Key×V)} {m:List (List Key×Addr×Value)},KT H l m→∀x∈m,(tupleKind (iJ P w)).is h x.1 x.2.1:=by
  intro l m q
  induction q with
  | nil=>intro x hx;exact nomatch hx
  | @cons p q ps qs hq t ih=>
   intro x hx;rcases cH.mp hx with e | hx
   ·subst e
    exact Lc ok (by rw [←hq.1];exact hq.2.1)
   ·exact ih x hx
 exact all r x hx
theorem UO(ok:cL P w H h)(e:H a=some (.dT ar)):ar.length≤sizeLine∧(a == sysModules)=false ∧
  ∃xs,KT H ar xs∧h.DictOfH (tupleKind (iJ P w)) a xs:=UN ok (.inl e)
end
def EN(H:Hp)(a:Addr)(y v:V)(H':Hp):Prop:=
 (∃ar k,H a=some (.dK ar)∧y=kV k∧ar.length<sizeLine∧H'=upd H a (.dK (putK ar k v))) ∨
 ∃ar k b,H a=some (.dT ar)∧y=.ref b∧H b=some (.tup (k.map kV))∧ar.length<sizeLine∧H'=upd H a (.dT (putK ar k v))
section
variable {X:Cx} {pins:bg} {σ:St} {H:Hp} {s:Shared} {a:Addr} {y v:V} {u r:Value} {o:Option V} {A:Around} {E:aV}
theorem Inv.big(I:Inv X pins σ H s):sysModules<s.heap.objs.size:=by have h:mainGlobals<s.heap.objs.size:=(I.mod.glob.keeps I.bk).lt;exact Nat.lt_trans (by decide) h
variable {h':Heap}
theorem Ld{t':Nat}{ob:HO}(I:Inv X pins σ H s)(mu:xM (H a))(hs:Heap.SameBut a s.heap h')(he:∃q,h'.get? a=some q)(new:da X.prog X.w (upd H a ob) h' a ob) :
  Inv X pins σ (upd H a ob) {s with heap:=h',toks:=t'}:=
 I.write (x:=a) (e:=a) mu (.inl rfl) (fun b q hb z=>(hs.2 b hb).trans z) he new
variable {H':Hp}
theorem UP{ar:List (Key×V)}{vs:List (Key×Value)}(z:ar.length≤sizeLine)(hd:(a == sysModules)=false)(rel:KV ar vs)(dd:h'.DictOf (iJ P w) a vs) :
  da P w H' h' a (.dK ar):=⟨z,hd,vs,rel,dd⟩
theorem UQ{Q:Unit→Shared→Prop}(hu:A.units+1<cLine)(I:Inv X pins σ H s)(g:EN H a y v H')(ry:RelV y u)(rv:RelV v r)(h:∀s',Inv X pins σ H' s'→Q () s') :
  wpAny (model X.prog X.w) A (setItem (.ref a) u r) Q E s:=by
 rcases g with ⟨ar,k,e,ey,l,eH⟩ | ⟨ar,k,b,e,ey,eb,l,eH⟩
 ·subst ey eH
  obtain ⟨z,hd,vs,rel,dd⟩:=UM I.aC e;have hz:vs.length≤sizeLine:=by rw [←rel.length];exact z
  have hl:(putK ar k v).length≤sizeLine:=by have:=K9 ar k v;lia
  refine wpAny_setItem_pairs (hsz:=hz) (K_ ry) dd fun h' yb hs=>h _ ?_;have he:∃q,h'.get? a=some q:=let ⟨q,_,_,hq,_⟩:=yb;⟨q,hq⟩
  exact Ld I (by rw [e];exact True.intro) hs he (UP hl hd (rel.put k rv) yb)
 ·subst ey eH
  cases (show u=Value.ref b from ry);obtain ⟨z,hd,xs,rel,dd⟩:=UO I.aC e;have hz:xs.length≤sizeLine:=by rw [←Paired.length rel];exact z
  have hl:(putK ar k v).length≤sizeLine:=by have:=K9 ar k v;lia
  refine wpAny_setItem_heap (hsz:=hz) (tupleKind_room_in1 hu) (Lc I.aC eb) dd fun h' yb hs=>h _ ?_;obtain ⟨q,es,ep,hq,h2,h3,h4,_,h5⟩:=yb;refine Ld I (by rw [e];exact True.intro) hs ⟨q,hq⟩ ⟨hl,hd,_,(rel.put k eb rv).keeps fun c ys ec=>?_,q,es,ep,hq,h2,h3,h4,h5⟩
  rw [a9 (PH ec e (fun z=>nomatch z))];exact ec
end
section
variable {X:Cx} {pins:bg} {σ:St} {H:Hp} {s:Shared} {a:Addr} {ar:List (Key×V)} {k:Key} {u:Value} {A:Around} {E:aV}
end
def UR(td ty tv:TE):TS:=fun D σ H=>tv σ H fun v H1=>td σ H1 fun x H2=>ty σ H2 fun y H3=>∃a H4,x=.ref a∧EN H3 a y v H4∧D.nx σ H4
section
variable {X:Cx} {o i e value:Expr} {pos pos' t7:Pos} {td ty tv:TE}
theorem EO(hu:X.A.units+1<cLine)(ho:PE X o td)(hi:PE X i ty)(hv:PE X value tv)(hs:swapsWith value (some (.Subscript o i pos')) pos.line X.env=pure false) :
  PS X (.Assign [.Subscript o i pos'] value pos) (UR td ty tv):=by
 intro pins s σ H D I h;refine wpAny_Assign_Subscript (aS (hv pins s σ H _ I h) fun r s1 ⟨v,H1,I1,rv,q1⟩=>aS (ho pins s1 σ H1 _ I1 q1) fun u s2 ⟨x,H2,I2,rx,q2⟩=>aS (hi pins s2 σ H2 _ I2 q2) fun iv s3 ⟨y,H3,I3,ry,a,H4,ex,g,q3⟩=>?_) hs;subst ex;obtain rfl:u=Value.ref a:=rx;exact UQ hu I3 g ry rv fun s4 I4=>⟨σ,H4,I4,q3⟩
end
theorem US(h:Heap)(hb:sysModules<h.objs.size):da P w H (h.push {cls:=.type "dict",data:=.dict #[]}) h.objs.size (.dK []):=
 ⟨cN _,tL.mpr (Ne.symm (dR hb)),[],.nil,Heap.DictOf.new h⟩
def UT:TE:=fun _ H Q=>∀p,H p=none→Q (.ref p) (upd H p (.dK []))
section
variable {X:Cx} {pos:Pos}
theorem UU:PE X (.Dict [] [] pos) UT:=fun pins s σ H Q I h=>wpAny_Dict_empty ⟨.ref s.heap.objs.size,_,I.laid (a:=s.heap.objs.size) (o:=.dK []) (t':=s.toks) (fun _ _ q=>dy _ q) (aE _) (US s.heap I.big),rfl,h _ (I.aC.fresh (aE _))⟩
end
section
variable {X:Cx} {pins:bg} {σ:St} {H:Hp} {s:Shared} {a:Addr} {y d:V} {u r:Value} {o:Option V} {A:Around} {E:aV}
end
section
variable {X:Cx} {o e f:Expr} {apos iT:Pos} {td ty tx:TE}
end
section
variable {X:Cx} {pins:bg} {σ:St} {H:Hp} {s:Shared} {a:Addr} {ar:List (Key×V)} {A:Around} {E:aV}
end
section
variable {X:Cx} {pins:bg} {σ:St} {H:Hp} {s:Shared} {a:Addr} {y:V} {u:Value} {A:Around} {E:aV}
end
end L2
namespace Att
open PySem PySem.W PySem.Calls PyProof.Rows
section
variable {prog:Program} {w:World} {A:Around} {E:aV} {s:Shared} {K:Frag}
end
end Att
namespace L2
open PySem PySem.Spec PyProof.Rows
section
variable {P:Program} {w:World} {K:aB} {mg:dG} {base:Heap}
end
section
variable {X:Cx}
end
section
variable {κ:Type} [DecidableEq κ]
end
theorem Le:∀{us:List Value} {ns:List Int},IntsAre us ns→Vals (ns.map V.int) us
 | _,_,.nil=>.nil
 | _,_,.cons a u r=>.cons ⟨u,rfl⟩ (Le r)
def UW:List V→Hp→VK→Prop:=fun xs H Q=>∃(a:Addr) (zs:List Int),xs=[.ref a]∧H a=some (.lst (zs.map V.int))∧zs.length<64∧∀(ws:List Int) (D:Addr),ws.Perm zs→ws.Pairwise (·≤·)→H D=none→Q (.ref D) (upd H D (.lst (ws.map V.int)))
theorem Lf{X:Cx}:ig X (.builtin "sorted") UW:=by
 intro pins s σ H xs us Q I r h;obtain ⟨a,zs,rfl,ha,h64,k⟩:=h;obtain ⟨u,rfl,ru⟩:=vals1 r;cases ru;obtain ⟨ak,rv,pl,hz⟩:=I.list (.of ha);have hl:=rv.length;rw [aG] at hl;refine sorted_ints pl.isList (intsAre_of rv) (by lia) fun out Lg a1 a2 a3=>?_
 obtain ⟨e,he⟩:=sortedAll_at s.heap ak out;refine ⟨.ref (s.heap.objs.size+1),_,I.laid (t':=s.toks) (o:=.lst (Lg.map .int)) (fun _ _=>sortedAll_old) (Nat.le_succ _) ⟨?_,out.toList,e,Le a1,?_⟩,rfl,k Lg _ a2 a3 (I.aC.fresh (Nat.le_succ _))⟩
 ·rw [aG,a2.length_eq]
  rw [tO];lia
 ·simpa using he
end L2
namespace My
open PySem L2
def dk(ks:List Nat):List (Key×V):=ks.map fun k:Nat=>((Sum.inl (k:Int):Key),V.bl true)
def fS(ks:List Nat)(k:Nat):List Nat:=if k∈ks then ks else ks++[k]
theorem UX{a b:Nat}:((Sum.inl (a:Int):Key)=Sum.inl (b:Int))↔a=b:=by
 constructor
 ·intro h
  have:=Sum.inl.inj h;lia
 ·rintro rfl;rfl
theorem UY(ks:List Nat):(dk ks).length=ks.length:=aG _
theorem UZ(ks:List Nat)(k:Nat):((dk ks).any fun kv=>decide (kv.1=(Sum.inl (k:Int):Key)))=decide (k∈ks):=by
 rw [pJ,List.any_eq_true,xG];constructor
 ·rintro ⟨kv,h1,h2⟩
  obtain ⟨j,hj,rfl⟩:=gc.mp h1;have:=UX.mp (fN h2);subst this;exact hj
 ·intro h
  exact ⟨_,gc.mpr ⟨k,h,rfl⟩,dC rfl⟩
theorem U1(ks:List Nat)(k:Nat):putK (dk ks) (Sum.inl (k:Int):Key) (V.bl true)=dk (fS ks k):=by
 unfold putK fS;rw [UZ];by_cases h:k∈ks
 ·rw [ai (dC h),ai h]
  unfold dk;rw [kf];refine m5 fun j _=>?_;show (if _ then _ else _)=_
  split <;> rfl
 ·rw [ao (by rw [xG];exact h),ao h]
  unfold dk;rw [m4];rfl
variable {ks:List Nat} {k j:Nat}
theorem A_:j∈fS ks k↔j∈ks∨j=k:=by
 unfold fS;by_cases h:k∈ks
 ·rw [ai h]
  constructor;·exact .inl
  ·rintro (e | rfl)
   ·exact e
   ·exact h
 ·rw [ao h,i7,gA]
theorem U2(h:ks.Nodup):(fS ks k).Nodup:=by
 unfold fS;by_cases m:k∈ks;·rw [ai m];exact h
 ·rw [ao m]
  refine List.nodup_append.mpr ⟨h,(by simp),fun a ha b hb=>?_⟩
  rw [gA] at hb;subst hb;rintro rfl;exact m ha
def mD(n:Nat)(ks:List Nat):Prop:=ks.Nodup∧∀k∈ks,k<n
theorem mD.nil(n:Nat):mD n []:=⟨List.nodup_nil,fun _ h=>by cases h⟩
variable {n:Nat}
theorem mD.add(h:mD n ks)(hk:k<n):mD n (fS ks k):=⟨U2 h.1,fun j hj=>by
 rcases A_.mp hj with e | rfl;·exact h.2 j e
 ·exact hk⟩
theorem ER:∀{n:Nat} {ks:List Nat},ks.Nodup→(∀k∈ks,k<n)→ks.length≤n
 | 0,ks,_,h=>by
  cases ks with
  | nil=>exact aE _
  | cons a r=>exact absurd (h a (jy ..)) (ou _)
 | n+1,ks,nd,h=>by
  have e:=ER (n:=n) (ks:=ks.erase n) (nd.erase n) (fun k hk=>by have m:=(List.Nodup.mem_erase_iff nd).mp hk;have:=h k m.2;have:=m.1;lia)
  by_cases hm:n∈ks
  ·have:=List.length_erase_of_mem hm
   lia
  ·rw [List.erase_of_not_mem hm] at e
   lia
theorem mD.len(h:mD n ks):ks.length≤n:=ER h.1 h.2
structure eR (H:Hp) (D:Addr) (n:Nat) (ds:Nat→Addr) (un:Nat→Prop) (f:Nat→List Nat):Prop where
 lst:H D=some (.lst ((List.range n).map fun i=>V.ref (ds i)))
 inj:∀i j,i<n→j<n→ds i=ds j→i=j
 ne:∀i,i<n→ds i≠D
 at':∀i,i<n→un i→H (ds i)=some (.dK (dk (f i)))
 pl:∀i,i<n→mD n (f i)
def gq(f:Nat→List Nat)(i:Nat)(ks:List Nat):Nat→List Nat:=fun j=>if j=i then ks else f j
variable {H:Hp} {D:Addr} {ds:Nat→Addr} {f:Nat→List Nat} {i:Nat}
theorem eR.put{un:Nat→Prop}(h:eR H D n ds un f)(hi:i<n)(hj:j<n)(ui:un i)(hn:n≤1000) :
  EN H (ds i) (.int (j:Int)) (.bl true) (upd H (ds i) (.dK (dk (fS (f i) j))))∧eR (upd H (ds i) (.dK (dk (fS (f i) j)))) D n ds un (gq f i (fS (f i) j)):=by
 refine ⟨.inl ⟨dk (f i),Sum.inl (j:Int),h.at' i hi ui,rfl,?_,by rw [U1]⟩,?_,h.inj,h.ne,fun k hk uk=>?_,fun k hk=>?_⟩
 ·rw [UY]
  have:=(h.pl i hi).len;exact fE this (fE hn (by rw [tO];decide))
 ·rw [a9 (Ne.symm (h.ne i hi))]
  exact h.lst
 ·unfold gq
  by_cases e:k=i
  ·subst e
   rw [ai rfl,az]
  ·rw [ao e,a9 (fun z=>e (h.inj k i hk hi z))]
   exact h.at' k hk uk
 ·unfold gq
  by_cases e:k=i;·rw [ai e];exact (h.pl i hi).add hj
  ·rw [ao e];exact h.pl k hk
theorem eR.ix{un:Nat→Prop}(h:eR H D n ds un f)(hi:i<n):d5 ((List.range n).map fun i=>V.ref (ds i)) (i:Int)=some (V.ref (ds i)):=
 iS (by rw [cB,pL hi];rfl)
def ES(n:Nat)(L:aR):Prop:=∀p∈L,0≤p.1∧p.1<(n:Int)∧0≤p.2∧p.2<(n:Int)
def nR(n:Nat)(L:aR)(f:Nat→List Nat):Prop:=∀i j:Nat,i<n→(j∈f i↔((i:Int),(j:Int))∈L∨((j:Int),(i:Int))∈L)
theorem nR.nil(n:Nat):nR n [] (fun _=>[]):=fun i j _=>by simp
theorem nR.more{L:aR}(h:nR n L f)(hi:i<n)(hj:j<n):nR n (L++[((i:Int),(j:Int))]) (gq (gq f i (fS (f i) j)) j (fS (gq f i (fS (f i) j) j) i)):=fun a b ha=>by
 have e1:∀x y:Nat,y∈gq f i (fS (f i) j) x↔y∈f x∨(x=i∧y=j):=fun x y=>by
  unfold gq;by_cases e:x=i
  ·subst e
   rw [ai rfl,A_];simp
  ·rw [ao e]
   simp [e]
 have e2:b∈gq (gq f i (fS (f i) j)) j (fS (gq f i (fS (f i) j) j) i) a↔b∈gq f i (fS (f i) j) a∨(a=j∧b=i):=by
  unfold gq;by_cases e:a=j
  ·subst e
   rw [ai rfl,A_];simp
  ·rw [ao e]
   simp [e]
 rw [e2,e1,h a b ha];simp only [i7,gA,Prod.mk.injEq];constructor
 ·rintro ((e | e) | ⟨rfl,rfl⟩)
  ·rcases e with e | e
   ·exact .inl (.inl e)
   ·exact .inr (.inl e)
  ·exact .inl (.inr ⟨by lia,by lia⟩)
  ·exact .inr (.inr ⟨rfl,rfl⟩)
 ·rintro ((e | ⟨e1,e2⟩) | (e | ⟨e1,e2⟩))
  ·exact .inl (.inl (.inl e))
  ·exact .inl (.inr ⟨by lia,by lia⟩)
  ·exact .inl (.inl (.inr e))
  ·exact .inr ⟨by lia,by lia⟩
def U3:Sp:=fun vs H Q _=>∃(t:Addr) (n:Nat) (L:aR),vs=[.ref t]∧EI H t n L∧ES n L∧n≤1000 ∧
 ∀(H':Hp) (D:Addr) (ds:Nat→Addr) (f:Nat→List Nat),ag H H'→H D=none→(∀i,i<n→H (ds i)=none)→eR H' D n ds (fun _=>True) f→nR n L f→Q (.ref D) H'
end My
namespace L2
open PySem PySem.Spec PyProof.Rows
def U4(K:aB):R2:=fun x y H Q=>∃(a b:Addr) (xs ys:List Int),x=.ref a∧y=.ref b∧aZ K H a (xs.map V.int)∧aZ K H b (ys.map V.int)∧Q (.bl (decide (xs=ys))) H
theorem U5{X:Cx}(hu:X.A.units+64<cLine):cP X (compareOp .Eq) (U4 X.K):=by
 intro pins s σ H x y v u Q I rx ry h;obtain ⟨a,b,xs,ys,rfl,rfl,h1,h2,q⟩:=h;cases rx;cases ry;obtain ⟨us,r1,t1,_⟩:=I.list h1;obtain ⟨vs,r2,t2,_⟩:=I.list h2;have l1:=r1.length;have l2:=r2.length;rw [aG] at l1 l2;by_cases hl:xs.length=ys.length
 ·refine SeqAt.RcAt.lists (e:=fun j=>nq (.int (xs.getD j 0)) (.int (ys.getD j 0))) t1.isList t2.isList (by simp;lia) (by lia) (fun j z1 z2=>?_) _ _ _ _ ?_
  ·have Ej:j<us.length:=by simpa using z1
   have Ek:j<vs.length:=by simpa using z2
   have ex:(xs.map V.int)[j]?=some (.int (xs.getD j 0)):=by rw [cB,d9];simp [show j<xs.length by lia]
   have ey:(ys.map V.int)[j]?=some (.int (ys.getD j 0)):=by rw [cB,d9];simp [show j<ys.length by lia]
   obtain ⟨x',m8,rx⟩:=r1.get ex;obtain ⟨y',qw,ry⟩:=r2.get ey;have e1:us.toArray[j]=x':=by simpa using (b6.mp m8).2
   have e2:vs.toArray[j]=y':=by simpa using (b6.mp qw).2
   rw [e1,e2];exact Au rx ry rfl rfl
  ·rw [show us.toArray.size=xs.length by simp;lia,Uy hl]
   exact ⟨.bl (decide (xs=ys)),H,I,rfl,q⟩
 ·rw [eC (fun e=>hl (by rw [e]))] at q
  refine SeqAt.RcAt.lists_lengths t1.isList t2.isList ?_ (by lia) _ _ _ _ ⟨.bl false,H,I,rfl,q⟩
  simp;lia
end L2
namespace My
open PySem L2
def iN(k:Nat):Int:=(k:Int)
def nS(zs:List Int)(n:Nat):Prop:=zs.Perm ((List.range n).map iN)
instance (zs:List Int) (n:Nat):Decidable (nS zs n):=by unfold nS;exact inferInstance
theorem U6(n:Nat):((List.range n).map iN).Pairwise (·≤·):=by rw [List.pairwise_map];exact List.Pairwise.imp (fun h=>by unfold iN;lia) List.pairwise_lt_range
variable {ws zs:List Int} {n:Nat}
theorem U7(p:ws.Perm zs)(o:ws.Pairwise (·≤·)):decide (ws=(List.range n).map iN)=decide (nS zs n):=by
 by_cases h:nS zs n
 ·rw [dC h]
  refine dC ?_;exact (p.trans h).eq_of_pairwise (fun a b _ _ h1 h2=>by lia) o (U6 n)
 ·rw [eC h]
  refine eC fun e=>h ?_;subst e;exact p.symm
def U8:Sp:=fun vs H Q _=>∃(a:Addr) (zs:List Int) (n:Nat),vs=[.ref a,.int (n:Int)]∧H a=some (.lst (zs.map V.int))∧zs.length<64∧n≤1000∧(∀H',ag H H'→Q (.bl (decide (nS zs n))) H')
def U9(N:Addr):Sp:=fun vs H Q E=>∃(a:Addr) (zs:List Int) (n:Nat),vs=[.ref a,.int (n:Int)]∧H a=some (.lst (zs.map V.int))∧zs.length<64∧n≤1000 ∧
 (¬nS zs n→∀H',ag H H'→E (.ref N) none H')∧(nS zs n→∀H',ag H H'→Q .bh H')
def U_(H:Hp)(a:Addr)(n:Nat)(o:List Nat):Prop:=H a=some (.lst (o.map fun k:Nat=>V.int (k:Int)))∧o.Perm (List.range n)
def Va:Sp:=fun vs H Q _=>∃(a:Addr) (n:Nat) (o:List Nat),vs=[.ref a]∧U_ H a n o∧n≤1000 ∧
 ∀(r:Addr) (H':Hp),ag H H'→H r=none→H' r=some (.lst ((List.range n).map fun p=>V.int (o.idxOf p:Int)))→Q (.ref r) H'
variable {H H1:Hp} {D:Addr}
theorem Vb(s:ag H H1)(e:H1 D=none):H D=none:=by
 cases z:H D with
 | none=>rfl
 | some o=>rw [s _ _ z] at e;cases e
theorem Ba(s:ag H H1){o:HO}(e:H1 D=none):ag H (upd H1 D o):=jq s (Vb s e)
variable {k:Nat}
theorem o8(h:k<n):g8 n (k:Int)=some k:=by unfold g8;rw [ai (by lia),ai (by lia),e9]
def kD(o:List Nat)(k p:Nat):Int:=if o.idxOf p<k then (o.idxOf p:Int) else 0
variable {o:List Nat}
theorem iA(h:o.Perm (List.range n)):o.Nodup:=h.nodup_iff.mpr Ab
theorem gL(h:o.Perm (List.range n)):o.length=n:=by rw [h.length_eq,cK]
variable {p:Nat}
theorem dY(h:o.Perm (List.range n)):p∈o↔p<n:=by rw [h.mem_iff,fB]
theorem mE(nd:o.Nodup)(hk:k<o.length):o.idxOf o[k]=k:=nd.idxOf_getElem k hk
theorem gr(h:p∈o):∃hk:o.idxOf p<o.length,o[o.idxOf p]=p:=⟨List.idxOf_lt_length_of_mem h,List.getElem_idxOf _⟩
theorem Vc(h:o.Perm (List.range n))(hk:k<o.length):((List.range n).map fun p=>V.int (kD o k p)).set o[k] (.int (k:Int))=(List.range n).map fun p=>V.int (kD o (k+1) p):=by
 have nd:=iA h;refine ke (by simp) fun q h1 h2=>?_
 have hq:q<n:=by simpa using h2
 rw [List.getElem_set];by_cases e:o[k]=q
 ·rw [ai e]
  simp only [gC,jC];unfold kD;rw [←e,mE nd hk,ai (zR k)]
 ·rw [ao e]
  simp only [gC,jC];unfold kD;have ne:o.idxOf q≠k:=fun z=>by obtain ⟨hz,ez⟩:=gr ((dY h).mpr hq);subst z;exact e ez
  by_cases z:o.idxOf q<k;·rw [ai z,ai (by lia)]
  ·rw [ao z,ao (by lia)]
theorem Vd(n:Nat)(o:List Nat):(List.replicate n [V.int 0]).flatten=(List.range n).map fun p=>V.int (kD o 0 p):=by
 have e:∀n:Nat,(List.replicate n [V.int 0]).flatten=List.replicate n (V.int 0):=fun n=>by
  induction n with
  | zero=>rfl
  | succ n ih=>rw [pK,xw,ih];rfl
 rw [e];refine ke (by simp) fun q h1 h2=>?_
 simp [kD]
theorem Ve(h:o.Perm (List.range n)):(List.range n).map (fun p=>V.int (kD o o.length p))=(List.range n).map fun p=>V.int (o.idxOf p:Int):=by refine m5 fun p hp=>?_;unfold kD;rw [ai (List.idxOf_lt_length_of_mem ((dY h).mpr (fB.mp hp)))]
def o9(n:Nat)(ds:Nat→Addr)(un:Nat→Prop)(H H':Hp):Prop:=∀b o,H b=some o→(∀i,i<n→un i→b≠ds i)→H' b=some o
variable {ds:Nat→Addr}
theorem o9.refl{un:Nat→Prop}:o9 n ds un H H:=fun _ _ h _=>h
variable {i:Nat}
theorem o9.put{un:Nat→Prop}(h:o9 n ds un H H1)(hi:i<n)(ui:un i){o:HO}:o9 n ds un H (upd H1 (ds i) o):=fun b u e k=>by rw [a9 (k i hi ui)];exact h b u e k
theorem take_snoc{α:Type}{xs:List α}{x:α}(h:xs[i]?=some x):xs.take (i+1)=xs.take i++[x]:=by rw [List.take_succ,h];rfl
def iB(n:Nat)(f:Nat→List Nat)(ps:List Nat)(i j:Nat)(g:Nat→List Nat):Prop:=∀a b:Nat,a<n→(b∈g a↔b∈f a∨(a≠b∧(a∈ps.take i∧b∈ps∨ps[i]?=some a∧b∈ps.take j)))
theorem iB.start(n:Nat)(f:Nat→List Nat)(ps:List Nat):iB n f ps 0 0 f:=fun a b _=>by simp
variable {f g:Nat→List Nat} {ps:List Nat}
theorem iB.row(h:iB n f ps i ps.length g):iB n f ps (i+1) 0 g:=fun a b ha=>by
 rw [h a b ha,k4];cases e:ps[i]? with
 | none=>
  have:ps.length≤i:=Dc.mp e;rw [tV this,tV (by lia)]
  simp
 | some x=>
  rw [take_snoc e];simp only [i7,gA,Option.some.injEq,List.take_zero,j8,and_false,j9];constructor
  ·rintro (z | ⟨z,z1 | z1⟩)
   ·exact .inl z
   ·exact .inr ⟨z,.inl z1.1,z1.2⟩
   ·exact .inr ⟨z,.inr z1.1.symm,z1.2⟩
  ·rintro (z | ⟨z,z1 | z1,z2⟩)
   ·exact .inl z
   ·exact .inr ⟨z,.inl ⟨z1,z2⟩⟩
   ·exact .inr ⟨z,.inr ⟨z1.symm,z2⟩⟩
variable {j:Nat}
theorem iB.same{x:Nat}(h:iB n f ps i j g)(hi:ps[i]?=some x)(hj:ps[j]?=some x):iB n f ps i (j+1) g:=fun a b ha=>by
 rw [h a b ha,take_snoc hj];simp only [i7,gA,hi,Option.some.injEq];constructor
 ·rintro (z | ⟨z,z1 | z1⟩)
  ·exact .inl z
  ·exact .inr ⟨z,.inl z1⟩
  ·exact .inr ⟨z,.inr ⟨z1.1,.inl z1.2⟩⟩
 ·rintro (z | ⟨z,z1 | ⟨z1,z2 | z2⟩⟩)
  ·exact .inl z
  ·exact .inr ⟨z,.inl z1⟩
  ·exact .inr ⟨z,.inr ⟨z1,z2⟩⟩
  ·exact absurd (z1.symm.trans z2.symm) z
theorem iB.put{x y:Nat}(h:iB n f ps i j g)(hi:ps[i]?=some x)(hj:ps[j]?=some y)(ne:x≠y):iB n f ps i (j+1) (gq g x (fS (g x) y)):=fun a b ha=>by
 have e1:b∈gq g x (fS (g x) y) a↔b∈g a∨(a=x∧b=y):=by
  unfold gq;by_cases e:a=x
  ·subst e
   rw [ai rfl,A_];simp
  ·rw [ao e]
   simp [e]
 rw [e1,h a b ha,take_snoc hj];simp only [i7,gA,hi,Option.some.injEq];constructor
 ·rintro ((z | ⟨z,z1 | z1⟩) | ⟨rfl,rfl⟩)
  ·exact .inl z
  ·exact .inr ⟨z,.inl z1⟩
  ·exact .inr ⟨z,.inr ⟨z1.1,.inl z1.2⟩⟩
  ·exact .inr ⟨ne,.inr ⟨rfl,.inr rfl⟩⟩
 ·rintro (z | ⟨z,z1 | ⟨z1,z2 | z2⟩⟩)
  ·exact .inl (.inl z)
  ·exact .inl (.inr ⟨z,.inl z1⟩)
  ·exact .inl (.inr ⟨z,.inr ⟨z1,z2⟩⟩)
  ·exact .inr ⟨z1.symm,z2⟩
theorem iB.done(h:iB n f ps ps.length 0 g):∀a b:Nat,a<n→(b∈g a↔b∈f a∨(a≠b∧a∈ps∧b∈ps)):=fun a b ha=>by rw [h a b ha,k4];simp
def Vf:Sp:=fun vs H Q _=>∃(D pl:Addr) (n:Nat) (ds:Nat→Addr) (un:Nat→Prop) (f:Nat→List Nat) (ps:List Nat),vs=[.ref D,.ref pl]∧eR H D n ds un f∧H pl=some (.lst (ps.map fun k:Nat=>V.int (k:Int)))∧(∀p∈ps,p<n∧un p)∧n≤1000 ∧
 ∀(H':Hp) (g:Nat→List Nat),o9 n ds un H H'→eR H' D n ds un g→(∀a b:Nat,a<n→(b∈g a↔b∈f a∨(a≠b∧a∈ps∧b∈ps)))→Q .bh H'
theorem eR.mono{H':Hp}{un:Nat→Prop}(h:eR H D n ds un f)(s:ag H H'):eR H' D n ds un f:=⟨s _ _ h.lst,h.inj,h.ne,fun i hi ui=>s _ _ (h.at' i hi ui),h.pl⟩
theorem eR.less{un Lh:Nat→Prop}(h:eR H D n ds un f)(k:∀i,i<n→Lh i→un i):eR H D n ds Lh f:=⟨h.lst,h.inj,h.ne,fun i hi ui=>h.at' i hi (k i hi ui),h.pl⟩
variable {x:Addr}
theorem eR.upd{un:Nat→Prop}(h:eR H D n ds un f){o:HO}(n1:x≠D)(n2:∀i,i<n→un i→ds i≠x):eR (upd H x o) D n ds un f:=⟨by rw [a9 (Ne.symm n1)];exact h.lst,h.inj,h.ne,fun i hi ui=>by rw [a9 (n2 i hi ui)];exact h.at' i hi ui,h.pl⟩
variable {a:Addr}
theorem Vg{o:Obj}{ar:List (Key×V)}(h:H1 a=some (.cW o (.dK ar))):nF (ux a o ar) (ar.map fun kv=>kV kv.1) H1 where
 go:=fun i Hc s hi=>⟨s _ _ h,by simpa using hi⟩
 fm:=fun i Hc x H' s y=>⟨y.1,fun _=>by obtain ⟨kv,e,rfl⟩:=y.2;rw [cB,e];rfl⟩
 stop:=fun i Hc s hi=>⟨s _ _ h,by simpa using hi⟩
theorem Vh(ks:List Nat):(dk ks).map (fun kv=>kV kv.1)=ks.map fun k:Nat=>V.int (k:Int):=by unfold dk;rw [kf];rfl
theorem Vi(ks:List Nat):(List.range ks.length).map (fun i=>ks.getD i 0)=ks:=by
 refine ke (by simp) fun i h1 h2=>?_
 simp [d9,h2]
theorem Vj(ks:List Nat)(pr:Nat→Bool):((List.range ks.length).filter fun i=>pr (ks.getD i 0)).map (fun i=>ks.getD i 0)=ks.filter pr:=by have e:=List.filter_map (f:=fun i=>ks.getD i 0) (l:=List.range ks.length) (p:=pr);rw [Vi] at e;exact e.symm
variable {ρ:St→St} {tt:TT} {te:TE} {σ:St} {Q:VK} {ks:List Nat}
theorem Vk{ob:Obj}(h:H a=some (.cW ob (.dK (dk ks))))(pr:Nat→Bool)(hl:ks.length<sizeLine)
  (test:∀k∈ks,∀(Hc:Hp) (R:Bool→Hp→Prop),ag H Hc→R (pr k) Hc→tt (some (.int (k:Int))::ρ σ) Hc R)
  (step:∀k∈ks,∀(Hc:Hp) (R:VK),R (.int (k:Int)) Hc→te (some (.int (k:Int))::ρ σ) Hc R)
  (fin:∀D Hc,H D=none→ag H Hc→Hc D=some (.lst ((ks.filter pr).map fun k:Nat=>V.int (k:Int)))→Q (.ref D) Hc):jO (fun _ H R=>R (ux a ob (dk ks)) H) ρ tt te σ H Q:=by
 have at':∀{i:Nat} {x:V},(ks.map fun k:Nat=>V.int (k:Int))[i]?=some x→i<ks.length∧x=.int ((ks.getD i 0:Nat):Int)∧ks.getD i 0∈ks:=fun{i x} hx=>by
  have hi:i<ks.length:=by have:=(b6.mp hx).1;simpa using this
  rw [cB] at hx;simp [hi] at hx;rw [getD_at hi];exact ⟨hi,hx.symm,dD hi⟩
 refine KY (xs:=ks.map fun k:Nat=>V.int (k:Int)) (fun i=>pr (ks.getD i 0)) (fun R k=>k _ (by rw [←Vh];exact Vg h)) (by rw [aG];exact hl) (fun _ i y _=>y=.int ((ks.getD i 0:Nat):Int)) (fun _ _ _ _ _ _ h _ _=>h) ?_ ?_ ?_
 ·intro i x hx Hc R sc hR
  obtain ⟨_,rfl,m⟩:=at' hx;exact test _ m Hc R sc hR
 ·intro D i x hx Hc R sc _ kc
  obtain ⟨_,rfl,m⟩:=at' hx;exact step _ m Hc R (kc _ Hc (ag.refl _) rfl)
 ·intro D ys Hc nD sc ly hP eD
  refine fin D Hc nD sc ?_;rw [eD,←Vj ks pr,kf];rw [aG] at ly hP
  congr 2
  refine ke (by simpa using ly) fun k h1 h2=>?_
  have h3:k<((List.range ks.length).filter fun i=>pr (ks.getD i 0)).length:=by simpa using h2
  rw [gC];exact hP k _ _ (gW h1) (gW h3)
theorem Li(p:ws.Perm (ks.map iN)):∃ms:List Nat,ws=ms.map iN∧ms.Perm ks:=by
 refine ⟨ws.map Int.toNat,?_,?_⟩
 ·rw [kf]
  conv=>lhs;rw [←List.map_id ws]
  refine m5 fun z hz=>?_
  obtain ⟨k,_,rfl⟩:=gc.mp (p.mem_iff.mp hz)
  show iN k=iN (Int.toNat (iN k))
  unfold iN
  rw [e9]
 ·have:=p.map Int.toNat
  rw [kf] at this
  have e:ks.map (Int.toNat ∘ iN)=ks:=by
   conv=>rhs;rw [←List.map_id ks]
   exact m5 fun k _=>e9 k
  rw [e] at this
  exact this
structure ju (n:Nat) (o:List Nat) (p:Nat) (ms:List Nat):Prop where
 up:ms.Pairwise (· < ·)
 lt:∀q∈ms,q<n
 la:∀q∈ms,o.idxOf p<o.idxOf q
theorem Vl{ms:List Nat}(hk:mD n ks)(h:ms.Perm (ks.filter fun q=>decide (o.idxOf p<o.idxOf q)))(s:(ms.map iN).Pairwise (·≤·)):ju n o p ms:=by
 have m:∀q∈ms,q∈ks∧o.idxOf p<o.idxOf q:=fun q hq=>by have:=tM.mp (h.mem_iff.mp hq);exact ⟨this.1,by simpa using this.2⟩
 refine ⟨?_,fun q hq=>hk.2 q (m q hq).1,fun q hq=>(m q hq).2⟩;have nd:ms.Nodup:=h.nodup_iff.mpr (hk.1.filter _);rw [List.pairwise_map] at s;refine List.Pairwise.imp₂ (fun a b h1 h2=>?_) s nd;have h1:(a:Int)≤(b:Int):=h1;have h2:a≠b:=h2;lia
def uy(H:Hp)(D:Addr)(n:Nat)(rs:Nat→Addr)(g:Nat→List Nat):Prop:=H D=some (.lst ((List.range n).map fun p=>V.ref (rs p)))∧∀p,p<n→H (rs p)=some (.lst ((g p).map fun k:Nat=>V.int (k:Int)))
theorem Vm(h:nS zs n):∃o:List Nat,zs=o.map iN∧o.Perm (List.range n):=Li h
def kG(rs:Nat→Addr)(p:Nat)(x:Addr):Nat→Addr:=fun q=>if q=p then x else rs q
theorem Vn(n:Nat)(rs:Nat→Addr)(p:Nat)(x:Addr):((List.range n).map fun q=>V.ref (rs q)).set p (.ref x)=(List.range n).map fun q=>V.ref (kG rs p x q):=by
 refine ke (by simp) fun q h1 h2=>?_
 rw [List.getElem_set,gC,jC,gC,jC];unfold kG;by_cases e:p=q
 ·subst e
  rw [ai rfl,ai rfl]
 ·rw [ao e,ao (Ne.symm e)]
variable {rs:Nat→Addr}
theorem Lj:kG rs p x p=x:=ai rfl
variable {q:Nat}
theorem Vo(h:q≠p):kG rs p x q=rs q:=ao h
theorem Vp{x:List Nat}:gq f p x p=x:=ai rfl
theorem Vq{x:List Nat}(h:q≠p):gq f p x q=f q:=ao h
theorem eB{g:Nat→V}(h:p<n):d5 ((List.range n).map g) (p:Int)=some (g p):=iS (by rw [cB,pL h];rfl)
theorem Vr(o ks:List Nat)(p:Nat):(ks.filter fun q=>decide ((o.idxOf p:Int)<(o.idxOf q:Int)))=ks.filter fun q=>decide (o.idxOf p<o.idxOf q):=by refine List.filter_congr fun q _=>?_;rw [pJ,xG,xG];lia
theorem uz(h:o.Perm (List.range n))(hp:p<n)(hq:q<n)(ne:p≠q):o.idxOf p≠o.idxOf q:=fun z=>by
 obtain ⟨h1,e1⟩:=gr ((dY h).mpr hp);obtain ⟨h2,e2⟩:=gr ((dY h).mpr hq);refine ne ?_;rw [←e1,←e2]
 congr 1
theorem Vs{wi:TI}(h:wi σ H fun J H1=>jO (fun _ H R=>R J H) ρ tt te σ H1 Q):jO wi ρ tt te σ H Q:=h
end My
namespace L2
open PySem PySem.Spec PyProof.Rows
section
variable {X:Cx} {pins:bg} {σ:St} {H:Hp} {s:Shared}
end
end L2
namespace My
open PySem L2
theorem Vt{n:Nat}{o:List Nat}(h:o.Perm (List.range n)){p:Nat}{ms:List Nat}(k:ju n o p ms):ms.length≤n-1-o.idxOf p:=by
 have nd:(ms.map fun q=>o.idxOf q-(o.idxOf p+1)).Nodup:=by rw [List.nodup_iff_pairwise_ne,List.pairwise_map];refine List.Pairwise.imp_of_mem (fun{a b} ha hb lt=>?_) k.up;have h1:=k.la a ha;have h2:=k.la b hb;have ne:=uz h (k.lt a ha) (k.lt b hb) (dR lt);lia
 have:=ER (n:=n-1-o.idxOf p) nd (fun x hx=>by obtain ⟨q,hq,rfl⟩:=gc.mp hx;have h1:=k.la q hq;have h2:=(gr ((dY h).mpr (k.lt q hq))).1;rw [gL h] at h2;lia)
 rwa [aG] at this
end My
namespace L2
open PySem PySem.Spec PyProof.Rows
end L2
namespace My
open PySem L2
def Vu:Sp:=fun vs H Q _=>∃m:Nat,vs=[.int (m:Int)]∧m≤1000∧Q (.int ((m:Int)*m+3*m+1)) H
end My
namespace L2
open PySem PySem.Spec PyProof.Rows
end L2
namespace My
open PySem L2
end My
namespace L2
open PySem PySem.Spec PyProof.Rows
end L2
namespace My
open PySem L2
end My
namespace L2
open PySem PySem.Spec PyProof.Rows
end L2
namespace My
open PySem L2
variable {n:Nat} {dJ:Nat→Nat→Prop} {eS:Nat→Prop} {s:Nat}
end My
namespace L2
open PySem PySem.Spec PyProof.Rows
end L2
namespace My
open PySem L2
end My
namespace L2
open PySem PySem.Spec PyProof.Rows
end L2
namespace My
open PySem L2
end My
namespace L2
open PySem PySem.Spec PyProof.Rows My
end L2
namespace My
open PySem L2
end My
namespace L2
open PySem PySem.Spec PyProof.Rows My
end L2
namespace My
open PySem L2
inductive Wk (dJ:Nat→Nat→Prop) (eS:Nat→Prop) (s:Nat):Nat→Prop where
 | one {b:Nat}:dJ s b→Wk dJ eS s b
 | more {a b:Nat}:Wk dJ eS s a→eS a→dJ a b→Wk dJ eS s b
section
variable {dJ:Nat→Nat→Prop} {eS uA:Nat→Prop} {s t:Nat}
theorem Wk.mono(h:Wk dJ eS s t)(k:∀x,eS x→uA x):Wk dJ uA s t:=by
 induction h with
 | one ab=>exact .one ab
 | more _ o ab ih=>exact .more ih (k _ o) ab
theorem Wk.cons{a:Nat}(ab:dJ s a)(ta:eS a)(h:Wk dJ eS a t):Wk dJ eS s t:=by
 induction h with
 | one e=>exact .more (.one ab) ta e
 | more _ o e ih=>exact .more ih o e
theorem Wk.symm(sy:∀a b,dJ a b→dJ b a)(h:Wk dJ eS s t):Wk dJ eS t s:=by
 induction h with
 | one ab=>exact .one (sy _ _ ab)
 | more _ o ab ih=>exact ih.cons (sy _ _ ab) o
variable {p:Nat}
theorem Wk.trans(h:Wk dJ eS s p)(tp:eS p)(h':Wk dJ eS p t):Wk dJ eS s t:=by
 induction h' with
 | one ab=>exact .more h tp ab
 | more _ o ab ih=>exact .more ih o ab
theorem Wk.step(k:∀x,uA x↔eS x∨x=p):Wk dJ uA s t↔Wk dJ eS s t∨(Wk dJ eS s p∧Wk dJ eS p t):=by
 constructor
 ·intro h
  induction h with
  | one ab=>exact .inl (.one ab)
  | more _ o ab ih=>
   rcases (k _).mp o with o | rfl
   ·rcases ih with ih | ⟨i1,i2⟩
    ·exact .inl (.more ih o ab)
    ·exact .inr ⟨i1,.more i2 o ab⟩
   ·rcases ih with ih | ⟨i1,_⟩
    ·exact .inr ⟨ih,.one ab⟩
    ·exact .inr ⟨i1,.one ab⟩
 ·have m:∀x,eS x→uA x:=fun x h=>(k x).mpr (.inl h)
  rintro (h | ⟨h,h'⟩);·exact h.mono m
  ·exact (h.mono m).trans ((k p).mpr (.inr rfl)) (h'.mono m)
end
def aL(n:Nat)(L:aR)(a b:Nat):Prop:=a<n∧b<n∧(((a:Int),(b:Int))∈L∨((b:Int),(a:Int))∈L)
variable {n:Nat} {L:aR}
theorem Bb(a b:Nat)(h:aL n L a b):aL n L b a:=⟨h.2.1,h.1,h.2.2.symm⟩
def ET(L:aR):Prop:=∀p∈L,p.1≠p.2
def qD(n:Nat)(o:List Nat)(k x:Nat):Prop:=x<n∧o.idxOf x<k
def qE(n:Nat)(L:aR)(o:List Nat)(k:Nat)(f:Nat→List Nat):Prop:=∀a b:Nat,a<n→b<n→k≤o.idxOf a→k≤o.idxOf b→(b∈f a↔a≠b∧Wk (aL n L) (qD n o k) a b)
variable {o:List Nat} {f:Nat→List Nat}
theorem qE.start(nb:nR n L f)(ns:ET L):qE n L o 0 f:=fun a b ha hb _ _=>by
 rw [nb a b ha];constructor
 ·intro h
  refine ⟨fun e=>?_,.one ⟨ha,hb,h⟩⟩;subst e;rcases h with h | h <;> exact ns _ h rfl
 ·rintro ⟨_,h⟩
  cases h with
  | one ab=>exact ab.2.2
  | more _ o _=>exact absurd o.2 (ou _)
variable {k:Nat} {ms:List Nat}
theorem qE.step(ho:o.Perm (List.range n)){p:Nat}{g:Nat→List Nat}(h:qE n L o k f)(hp:p<n)(ip:o.idxOf p=k)(hm:∀q,q∈ms↔q∈f p∧k<o.idxOf q)(ml:∀q∈ms,q<n)
  (con:∀a b:Nat,a<n→(b∈g a↔b∈f a∨(a≠b∧a∈ms∧b∈ms))):qE n L o (k+1) g:=fun a b ha hb ka kb=>by
 have th:∀x,qD n o (k+1) x↔qD n o k x∨x=p:=fun x=>by
  unfold qD;constructor
  ·rintro ⟨h1,h2⟩
   by_cases e:o.idxOf x=k
   ·right
    by_cases z:x=p;·exact z
    ·exact absurd (e.trans ip.symm) (uz ho h1 hp z)
   ·exact .inl ⟨h1,by lia⟩
  ·rintro (⟨h1,h2⟩ | rfl)
   ·exact ⟨h1,by lia⟩
   ·exact ⟨hp,by lia⟩
 have ap:a≠p:=fun e=>by subst e;lia
 have bp:b≠p:=fun e=>by subst e;lia
 have ea:=h p a hp ha (by lia) (by lia)
 have eb:=h p b hp hb (by lia) (by lia)
 rw [con a b ha,h a b ha hb (by lia) (by lia),hm a,hm b,ea,eb,Wk.step th]
 constructor
 ·rintro (⟨h1,h2⟩ | ⟨h1,⟨⟨_,h2⟩,_⟩,⟨_,h3⟩,_⟩)
  ·exact ⟨h1,.inl h2⟩
  ·exact ⟨h1,.inr ⟨h2.symm Bb,h3⟩⟩
 ·rintro ⟨h1,h2 | ⟨h2,h3⟩⟩
  ·exact .inl ⟨h1,h2⟩
  ·exact .inr ⟨h1,⟨⟨Ne.symm ap,h2.symm Bb⟩,by lia⟩,⟨Ne.symm bp,h3⟩,by lia⟩
def iY(n:Nat)(L:aR)(o:List Nat)(p:Nat)(ms:List Nat):Prop:=∀q,q∈ms↔q<n∧o.idxOf p<o.idxOf q∧Wk (aL n L) (qD n o (o.idxOf p)) p q
def Vv(N:Addr):Sp:=fun vs H Q E=>∃(t a:Addr) (n:Nat) (L:aR) (zs:List Int),vs=[.ref t,.ref a]∧EI H t n L∧ES n L∧ET L∧n≤60∧H a=some (.lst (zs.map V.int))∧zs.length<64 ∧
 (¬nS zs n→∀H',ag H H'→E (.ref N) none H') ∧
 ∀o:List Nat,zs=o.map iN→o.Perm (List.range n)→∀(H':Hp) (D:Addr) (rs:Nat→Addr) (g:Nat→List Nat),ag H H'→H D=none→(∀p,p<n→H (rs p)=none)→uy H' D n rs g→(∀p,p<n→ju n o p (g p)∧iY n L o p (g p))→Q (.ref D) H'
def hJ(M:aX):List Nat→Nat→Nat→Int
 | []=>fun _ _=>0
 | p::C=>aU (M p) (hJ M C)
def aK(M:aX)(C:List Nat):Int:=aA C (hJ M C)
def aI(M:aX)(C:List Nat)(f:Nat→Int):Nat→Int:=mB C (hJ M C) f
def cV(q:Int)(M:aX):List Nat→Prop
 | []=>True
 | p::C=>cV q M C∧¬q∣aI M C (M p) p
section
variable {q:Int} {M:aX} {C:List Nat} {p k:Nat} {f:Nat→Int}
theorem EU:aI M [] f k=f k:=Uj _ f k
theorem nV(hq:aF q):∀{C:List Nat},cV q M C→¬q∣aK M C
 | [],_=>Ux hq
 | _::_,h=>h.2
theorem Bc{x:Int}(h:¬q∣x):x≠0:=fun e=>h (by rw [e];exact gB q)
theorem Ll(hq:aF q):∀{C:List Nat},cV q M C→uv C (hJ M C)
 | [],_=>Ug _
 | _::_,h=>Uh (Ll hq h.1) (Bc (nV hq h.1)) (Bc h.2)
theorem Bd(hq:aF q)(h:cV q M C)(p:Nat)(f:Nat→Int)(k:Nat):aI M C (M p) p*aI M C f k-aI M C f p*aI M C (M p) k=aK M C*aI M (p::C) f k:=Ul (Ll hq h) f (M p) p k
theorem Be{c:Nat}(h:c∈C):aI M C f c=0:=Uk _ f h
theorem Bf(hq:aF q):∀{C:List Nat},cV q M C→∀r∈C,∀k,aI M C (M r) k=0
 | [],_,_,hr,_=>nomatch hr
 | p::C,h,r,hr,k=>by
  have d0:=Bc (nV hq h.1);have e:=Bd hq h.1 p (M r) k;have z:aK M C*aI M (p::C) (M r) k=0:=by
   rcases cH.mp hr with rfl | hr;·rw [←e];exact k9 _
   ·rw [←e,Bf hq h.1 r hr k,Bf hq h.1 r hr p,dE,fj,k9]
  exact (mW.mp z).resolve_left d0
theorem Lm:∀(C:List Nat) (i:Nat),i<C.length→hJ M C i=M (C.getD i 0)
 | _::_,0,_=>rfl
 | _::C,i+1,h=>Lm C i (Nat.lt_of_succ_lt_succ h)
theorem Ln(M:aX)(C:List Nat)(f:Nat→Int):∃y:Nat→Int,∀k,aI M C f k=aK M C*f k+ah C.length fun i=>M (C.getD i 0) k*y i:=⟨fun i=>-(sgn i)*aA C (aU f (bw i (hJ M C))),fun k=>by
 unfold aI mB;rw [jV k C f (hJ M C)]
 congr 1
 exact bZ fun i hi=>by rw [Lm C i hi]⟩
theorem Lo:∀{C:List Nat} {R:aX} {e e':Nat→Int},(∀c∈C,e c=e' c)→aA C (aU e R)=aA C (aU e' R)
 | [],_,_,_,_=>rfl
 | k::C,R,e,e',h=>by
  rw [jV,jV,h k (jy ..)]
  congr 1
  exact bZ fun i hi=>by rw [Lo (C:=C) fun c hc=>h c (fY _ hc)]
theorem Bg:∀{C:List Nat},C≠[]→∀{R:aX} (a b:Int) (e e':Nat→Int),aA C (aU (fun k=>a*e k+b*e' k) R)=a*aA C (aU e R)+b*aA C (aU e' R)
 | [],h,_,_,_,_,_=>absurd rfl h
 | k::C,_,R,a,b,e,e'=>by
  rw [jV,jV,jV];by_cases z:C=[]
  ·subst z
   show _+0=a*(_+0)+b*(_+0);grind
  ·have s:(ah C.length fun i=>R i k*(-(sgn i)*aA C (aU (fun k=>a*e k+b*e' k) (bw i R))))=a*(ah C.length fun i=>R i k*(-(sgn i)*aA C (aU e (bw i R))))+b*ah C.length fun i=>R i k*(-(sgn i)*aA C (aU e' (bw i R))):=by rw [cU,cU,←jS];exact bZ fun i _=>by rw [Bg z a b e e'];grind
   rw [s];grind
def dl(c:Nat):Nat→Int:=fun k=>if k=c then 1 else 0
theorem Lp{C:List Nat}(hC:C≠[]){R:aX}{f:Nat→Int}:∀{l:List Nat},l.Nodup→aA C (aU (fun k=>if k∈l then f k else 0) R)=(l.map fun c=>f c*aA C (aU (dl c) R)).sum
 | [],_=>by
  have:=Bg hC (R:=R) 0 0 (fun _=>0) (fun _=>0);rw [show (fun k=>if k∈([]:List Nat) then f k else 0)=fun k=>0*(fun _:Nat=>(0:Int)) k+0*(fun _:Nat=>(0:Int)) k from funext fun k=>by simp,this]
  simp
 | c::l,nd=>by
  rw [j4] at nd;rw [cX,dF,←Lp hC nd.2];have:=Bg hC (R:=R) (f c) 1 (dl c) (fun k=>if k∈l then f k else 0)
  rw [mX] at this;rw [←this]
  congr 1
  congr 1
  funext k
  unfold dl;by_cases e:k=c
  ·subst e
   simp [nd.1]
  ·by_cases h:k∈l <;> simp [e,h]
def dM(M:aX)(C:List Nat)(n c:Nat):Int:=-aA (n::C) (aU (dl c) (hJ M C))
theorem Lq(nd:C.Nodup)(hn:n∉C):aI M C f n=aK M C*f n-(C.map fun c=>f c*dM M C n c).sum:=by
 have hC:n::C≠[]:=List.cons_ne_nil _ _;have e1:aI M C f n=((n::C).map fun c=>f c*aA (n::C) (aU (dl c) (hJ M C))).sum:=by rw [←Lp hC (j4.mpr ⟨hn,nd⟩)];unfold aI mB;exact Lo fun c hc=>by rw [ai hc]
 have e2:aA (n::C) (aU (dl n) (hJ M C))=aK M C:=by
  rw [jV];have:(ah C.length fun i=>hJ M C i n*(-(sgn i)*aA C (aU (dl n) (bw i (hJ M C)))))=0:=by rw [←nI C.length];refine bZ fun i hi=>?_;rw [Kz (e:=dl n) _ (fun z=>by rw [z] at hi;exact absurd hi (ou _)) fun x hx=>ao (fun z:x=n=>hn (z▸hx)),dE,dE]
  rw [this];unfold dl aK;simp
 rw [e1,cX,dF,e2];have e3:((C.map fun c=>f c*aA (n::C) (aU (dl c) (hJ M C))).sum)=-(C.map fun c=>f c*dM M C n c).sum:=by
  have gen:∀(w:Nat→Int) (l:List Nat),(l.map fun c=>f c*w c).sum=-(l.map fun c=>f c * -w c).sum:=fun w l=>by
   induction l with
   | nil=>rfl
   | cons x l ih=>rw [cX,dF,cX,dF,ih];grind
  exact gen (fun c=>aA (n::C) (aU (dl c) (hJ M C))) C
 rw [e3,dS];lia
theorem EV(hq:aF q)(g:cV q M C)(nd:C.Nodup)(hn:n∉C){r:Nat}(hr:r∈C):(C.map fun c=>M r c*dM M C n c).sum=aK M C*M r n:=by have:=Lq (M:=M) (f:=M r) nd hn;rw [Bf hq g r hr n] at this;lia
theorem qF(a:Int)(F:Nat→Int):∀l:List Nat,(l.map fun c=>a*F c).sum=a*(l.map F).sum
 | []=>(dE a).symm
 | x::l=>by rw [cX,dF,cX,dF,qF a F l,tS]
theorem EW(F G:Nat→Int):∀l:List Nat,(l.map fun c=>F c+G c).sum=(l.map F).sum+(l.map G).sum
 | []=>rfl
 | x::l=>by rw [cX,dF,cX,dF,cX,dF,EW F G l];lia
theorem EX(F:aX):∀(m:Nat) (l:List Nat),(l.map fun c=>ah m fun i=>F i c).sum=ah m fun i=>(l.map (F i)).sum
 | m,[]=>(nI m).symm
 | m,x::l=>by rw [cX,dF,EX F m l,←jS];exact bZ fun i _=>by rw [cX,dF]
theorem Lr(hq:aF q)(g:cV q M C)(nd:C.Nodup)(hn:n∉C){C':List Nat}(sub:∀r∈C',r∈C)(hp:p∈C):(C.map fun c=>aI M C' (M p) c*dM M C n c).sum=aK M C*aI M C' (M p) n:=by
 obtain ⟨y,hy⟩:=Ln M C' (M p);have e:(fun c=>aI M C' (M p) c*dM M C n c)=fun c=>aK M C'*(M p c*dM M C n c)+ah C'.length fun i=>y i*(M (C'.getD i 0) c*dM M C n c):=by
  funext c
  rw [hy c,Int.add_mul,iH,dS (ah _ _),cU]
  congr 1
  exact bZ fun i _=>by grind
 rw [e,EW,qF,EV hq g nd hn hp,EX];have e2:(ah C'.length fun i=>(C.map fun c=>y i*(M (C'.getD i 0) c*dM M C n c)).sum)=aK M C*ah C'.length fun i=>M (C'.getD i 0) n*y i:=by
  rw [cU];refine bZ fun i hi=>?_;have mem:C'.getD i 0∈C':=by rw [d9,gW hi];exact dD hi
  rw [qF,EV hq g nd hn (sub _ mem)];grind
 rw [e2,hy n];grind
theorem o_(hq:aF q){n:Nat}{dJ:Nat→Nat→Prop}(zero:∀a b,a<n→b<n→a≠b→¬dJ a b→M a b=0):∀{C:List Nat},cV q M C→(∀c∈C,c<n)→∀i j,i<n→j<n→i∉C→j∉C→i≠j→¬Wk dJ (·∈C) i j→aI M C (M i) j=0
 | [],_,_,i,j,li,lj,_,_,ij,nw=>by rw [EU];exact zero i j li lj ij fun z=>nw (.one z)
 | p::C,g,lc,i,j,li,lj,hi,hj,ij,nw=>by
  rw [cH,not_or] at hi hj;have lp:=lc p (jy ..);have EY:∀c∈C,c<n:=fun c hc=>lc c (fY _ hc);have st:=Wk.step (dJ:=dJ) (eS:=(·∈C)) (uA:=(·∈p::C)) (s:=i) (t:=j) (p:=p) fun x=>by rw [cH];exact Or.comm
  rw [st,not_or] at nw;have e:=Bd hq g.1 p (M i) j;rw [o_ hq zero g.1 EY i j li lj hi.2 hj.2 ij nw.1,dE] at e;have z:aI M C (M i) p*aI M C (M p) j=0:=by
   by_cases pC:p∈C;·rw [Be pC,fj]
   ·by_cases w:Wk dJ (·∈C) i p
    ·rw [o_ hq zero g.1 EY p j lp lj pC hj.2 (Ne.symm hj.1) fun z=>nw.2 ⟨w,z⟩,dE]
    ·rw [o_ hq zero g.1 EY i p li lp hi.2 pC hi.1 w,fj]
  rw [z] at e;exact (mW.mp (show aK M C*aI M (p::C) (M i) j=0 by lia)).resolve_left (Bc (nV hq g.1))
theorem Bh{B:Nat}(hB:∀i k,(M i k).natAbs≤B):∀(C:List Nat) (i k:Nat),(hJ M C i k).natAbs≤B
 | [],_,_=>cN _
 | p::_,0,k=>hB p k
 | _::C,i+1,k=>Bh hB C i k
theorem Vw{B:Nat}{R:aX}(hf:∀k,(f k).natAbs≤B)(hR:∀i k,(R i k).natAbs≤B):∀i k,(aU f R i k).natAbs≤B
 | 0,k=>hf k
 | i+1,k=>hR i k
variable {B:Nat}
theorem Vx(hB:∀i k,(M i k).natAbs≤B)(hf:∀k,(f k).natAbs≤B):(aI M C f k).natAbs≤cF (C.length+1)*B ^ (C.length+1):=uw (k::C) _ (Vw hf (Bh hB C))
theorem Vy(hB:∀i k,(M i k).natAbs≤B):(aK M C).natAbs≤cF C.length*B ^ C.length:=uw C _ (Bh hB C)
end
def bM(B:Nat)(H:Hp)(q:Int)(v:V)(T U:Int):Prop:=∃x m:Int,bC B H q v x m∧q∣x*U-T*m∧¬q∣U
section
variable {B Y:Nat} {H H':Hp} {q:Int} {v u:V} {T U T' U':Int}
theorem bM.mono(h:bM B H q v T U)(s:ag H H'):bM B H' q v T U:=let ⟨x,m,h1,h2⟩:=h;⟨x,m,h1.mono s,h2⟩
theorem bM.eq(hq:aF q)(h:bM B H q v T U)(e:Cg q (T*U') (T'*U))(nu:¬q∣U'):bM B H q v T' U':=by
 obtain ⟨x,m,h1,h2,h3⟩:=h;refine ⟨x,m,h1,?_,nu⟩;have c:Cg q (U*(x*U'-T'*m)) 0:=by
  have a:Cg q (U'*(x*U)) (U'*(T*m)):=Cg.mulL U' h2;have b:Cg q (m*(T*U')) (m*(T'*U)):=Cg.mulL m e;have d:=a.trans ((Cg.of_eq (by grind)).trans b)
  have d2:=d.sub (Cg.refl (m*(T'*U)));exact (Cg.of_eq (by grind)).trans (d2.trans (Cg.of_eq (by lia)))
 have:=yC hq h3 c;unfold Cg at this
 rwa [k8] at this
theorem bM.bd(h:bM B H q v T U)(bt:T.natAbs≤Y)(bu:U.natAbs≤Y):bM Y H q v T U:=by
 obtain ⟨x,m,h1,h2,h3⟩:=h;cases h1 with
 | rem a b c=>exact ⟨_,_,.rem a b c,h2,h3⟩
 | bA e l bx bm=>
  have h2:=j_.mp h2;have U0:U≠0:=fun z=>h3 (by rw [z];exact j7 0)
  have le:m≤(U.natAbs:Int)∧x.natAbs≤T.natAbs:=by
   by_cases up:0<U
   ·have:=uh l up (show x*U=T*m by lia)
    exact ⟨by lia,this.2⟩
   ·have:=uh l (show 0 < -U by lia) (show x * -U=-T*m by rw [lV,tT];lia)
    rw [pO] at this;exact ⟨by lia,this.2⟩
  have mp:=l.pos;exact ⟨x,m,.bA e l (by lia) (by lia),by rw [h2];exact j7 0,h3⟩
theorem EZ(hq:aF q)(h:bM B H q v T U):q∣T↔∃x m,bC B H q v x m∧x=0:=by
 obtain ⟨x,m,h1,h2,h3⟩:=h;constructor
 ·intro d
  refine ⟨x,m,h1,?_⟩;have c:Cg q (U*x) 0:=by
   have:q∣x*U:=by
    have:=tR h2 (Int.dvd_mul_of_dvd_left (c:=m) d)
    rwa [Int.sub_add_cancel] at this
   unfold Cg;rw [k8,dS];exact this
  have:=yC hq h3 c;unfold Cg at this;rw [k8] at this;cases h1 with
  | bA=>exact j_.mp this
  | rem a b c=>
   obtain ⟨k,hk⟩:=this;have:k=0:=by
    rcases Int.lt_trichotomy k 0 with z | z | z
    ·have:q*k≤q*(-1):=oz (by lia) (by lia)
     lia
    ·exact z
    ·have:q*1≤q*k:=oz (by lia) (by lia)
     lia
   rw [hk,this,dE]
 ·rintro ⟨x',m',oZ,rfl⟩
  have e:x=0:=by
   cases h1 with
   | bA e l=>
    cases oZ with
    | bA e' l'=>rw [e] at e';cases e';rfl
   | rem=>cases oZ;rfl
  subst e;have:q∣T*m:=by have:=h2;rw [fj,oB] at this;exact Int.dvd_neg.mp this
  cases h1 with
  | bA e l=>
   have:=j_.mp this;have mp:=l.pos;have:T=0:=(mW.mp this).resolve_right (by lia)
   rw [this];exact j7 0
  | rem=>rwa [d7] at this
end
section
variable {H:Hp} {q:Int} {v u:V} {T U T' U':Int} {C N z:Addr} {Q:VK} {E:XK}
theorem Bi{B:Nat}{x m:Int}(h:bC B H q v x m)(b:B≤10 ^ 300):cj x∧cj m∧1≤m:=by
 cases h with
 | bA e l bx bm=>exact ⟨aj bx b,aj bm b,l.pos⟩
 | rem h0 h1 h2=>exact ⟨aj (show _≤997 by lia) (by decide +kernel),by unfold cj;decide +kernel,by decide⟩
variable {X Y Y':Nat}
theorem Ls{fr:Int→Int→Int→Int→Int}{rm:Int→Int→Int}(hw:dj C H z q)(hq:aF q)(hv:bM X H q v T U)(hu:bM Y H q u T' U')(bX:X≤10 ^ 300)(bY:Y≤10 ^ 300)(top bot:Int)
  (hf:∀x m y n,q∣x*U-T*m→q∣y*U'-T'*n→q∣fr x m y n*bot-top*(m*n)) (hr:∀x y,fr x 1 y 1=rm x y) (nb:¬q∣bot) (bt:top.natAbs≤Y') (bb:bot.natAbs≤Y')
  (k:∀(v':V) (H':Hp),ag H H'→bM Y' H' q v' top bot→Q v' H'):kB C fr rm [.ref z,v,u] H Q E:=by
 obtain ⟨x,m,h1,h2,h3⟩:=hv
 obtain ⟨y,n,g1,g2,g3⟩:=hu
 obtain ⟨a1,a2,a3⟩:=Bi h1 bX
 obtain ⟨b1,b2,b3⟩:=Bi g1 bY
 have key:=hf x m y n h2 g2
 refine ⟨z,q,v,u,rfl,hw,?_⟩
 cases h1 with
 | bA e l bx bm=>
  cases g1 with
  | bA e' l' E1 AB=>
   refine .inl ⟨rfl,_,_,x,m,y,n,rfl,rfl,e,e',l,l',a1,a2,b1,b2,fun r' H' a d s' er la ea=>k _ H' s' ?_⟩
   have key:=j_.mp key
   have mn:m*n≠0:=Int.ne_of_gt (oA (by lia) (by lia))
   have ew:a*bot=top*d:=by
    refine zX mn ?_
    have:fr x m y n*bot=top*(m*n):=by omega
    calc a*bot*(m*n)=a*(m*n)*bot:=by grind
     _=fr x m y n*d*bot:=by rw [ea]
     _=fr x m y n*bot*d:=by grind
     _=top*(m*n)*d:=by rw [this]
     _=top*d*(m*n):=by grind
   have W:bM (a.natAbs+d.natAbs) H' 0 (.ref r') top bot:=⟨a,d,.bA er la (by lia) (by lia),by rw [ew,k9];exact j7 0,nb⟩
   exact W.bd bt bb
  | rem h0 h1 h2=>lia
 | rem h0 oZ qr=>
  cases g1 with
  | bA e' l' E1 AB=>lia
  | rem g0 g1 Vz=>
   have jj:2≤q:=by rcases hq with h | h <;> lia
   refine .inr ⟨jj,x,y,rfl,rfl,h0,by lia,k _ H (ag.refl _) ⟨_,1,.rem (f_ _ (by lia)) (gU _ (by lia)) qr,?_,nb⟩⟩
   rw [d7,d7] at key
   rw [hr] at key
   rw [d7]
   have c:Cg q (rm x y % q*bot) (rm x y*bot):=(nO q _).mulR bot
   exact c.trans key
theorem E2(hw:dj C H z q)(hq:aF q)(hv:bM X H q v T U)(hu:bM Y H q u T' U')(bX:X≤10 ^ 300)(bY:Y≤10 ^ 300)(nb:¬q∣U*U')(bt:(T*U'-T'*U).natAbs≤Y')(bb:(U*U').natAbs≤Y')
  (k:∀(v':V) (H':Hp),ag H H'→bM Y' H' q v' (T*U'-T'*U) (U*U')→Q v' H'):kB C (fun x m y n=>x*n-y*m) (fun i j=>i-j) [.ref z,v,u] H Q E:=
 Ls hw hq hv hu bX bY _ _ (fun x m y n h1 h2=>by obtain ⟨a,ha⟩:=h1;obtain ⟨b,hb⟩:=h2;exact ⟨n*U'*a-m*U*b,by grind⟩) (fun x y=>by rw [d7,d7]) nb bt bb k
theorem E3(hw:dj C H z q)(hq:aF q)(hv:bM X H q v T U)(hu:bM Y H q u T' U')(bX:X≤10 ^ 300)(bY:Y≤10 ^ 300)(nb:¬q∣U*U')(bt:(T*T').natAbs≤Y')(bb:(U*U').natAbs≤Y')
  (k:∀(v':V) (H':Hp),ag H H'→bM Y' H' q v' (T*T') (U*U')→Q v' H'):kB C (fun x m y n=>x*y) (fun i j=>i*j) [.ref z,v,u] H Q E:=
 Ls hw hq hv hu bX bY _ _ (fun x m y n h1 h2=>by obtain ⟨a,ha⟩:=h1;obtain ⟨b,hb⟩:=h2;exact ⟨y*U'*a+T*m*b,by grind⟩) (fun x y=>rfl) nb bt bb k
theorem gN(hq:aF q){a b:Int}(ha:¬q∣a)(hb:¬q∣b):¬q∣a*b:=fun d=>hb (by
 have:=yC hq ha (show Cg q (a*b) 0 by unfold Cg;rwa [k8])
 unfold Cg at this
 rwa [k8] at this)
theorem Lu(hw:dj C H z q)(hq:aF q)(hv:bM X H q v T U)(hu:bM Y H q u T' U')(bX:X≤10 ^ 300)(bY:Y≤10 ^ 300)(nt:¬q∣T')(bt:(T*U').natAbs≤Y')(bb:(U*T').natAbs≤Y')
  (k:∀(v':V) (H':Hp),ag H H'→bM Y' H' q v' (T*U') (U*T')→Q v' H'):AQ C N [.ref z,v,u] H Q E:=by
 have ny:∀{y n},bC Y H q u y n→q∣y*U'-T'*n→¬q∣U'→y≠0:=fun{y n} g1 g2 g3 e=>nt ((EZ hq ⟨y,n,g1,g2,g3⟩).mpr ⟨y,n,g1,e⟩)
 obtain ⟨x,m,h1,h2,h3⟩:=hv
 obtain ⟨y,n,g1,g2,g3⟩:=hu
 have y0:=ny g1 g2 g3
 obtain ⟨a1,a2,a3⟩:=Bi h1 bX
 obtain ⟨b1,b2,b3⟩:=Bi g1 bY
 have nb:=gN hq h3 nt
 refine ⟨z,q,v,u,rfl,hw,?_⟩
 cases h1 with
 | bA e l bx bm=>
  cases g1 with
  | bA e' l' E1 AB=>
   refine .inl ⟨rfl,_,_,x,m,y,n,rfl,rfl,e,e',l,l',a1,a2,b1,b2,fun z=>absurd z y0,fun _ r' H' a d s' er la ea=>k _ H' s' ?_⟩
   have h2:=j_.mp h2
   have g2:=j_.mp g2
   have my:m*y≠0:=fun z=>(mW.mp z).elim (fun z=>by lia) y0
   have ew:a*(U*T')=T*U'*d:=by
    refine zX (a:=m*y) my ?_
    have e1:x*U=T*m:=by lia
    have e2:T'*n=y*U':=by lia
    calc a*(U*T')*(m*y)=a*(m*y)*(U*T'):=by grind
     _=x*n*d*(U*T'):=by rw [ea]
     _=x*U*(T'*n)*d:=by grind
     _=T*m*(y*U')*d:=by rw [e1,e2]
     _=T*U'*d*(m*y):=by grind
   have W:bM (a.natAbs+d.natAbs) H' 0 (.ref r') (T*U') (U*T'):=⟨a,d,.bA er la (by lia) (by lia),by rw [ew,k9];exact j7 0,nb⟩
   exact W.bd bt bb
  | rem h0 h1 h2=>lia
 | rem h0 oZ qr=>
  cases g1 with
  | bA e' l' E1 AB=>lia
  | rem g0 g1 Vz=>
   have jI:2≤q∧q≤997∧jN q=true:=by rcases hq with h | h;lia;exact h
   refine .inr ⟨jI.1,x,y,rfl,rfl,jI.2.1,jI.2.2,h0,oZ,g0,g1,fun z=>absurd z y0,fun _ r r0 r1 er=>k _ H (ag.refl _) ⟨r,1,.rem r0 r1 qr,?_,nb⟩⟩
   have c1:Cg q (r*y) x:=by
    have:=nO q (r*y)
    rw [er] at this
    exact this.symm
   have c2:Cg q (x*U) (T*1):=h2
   have c3:Cg q (y*U') (T'*1):=g2
   rw [d7] at c2 c3 ⊢
   have e1:Cg q (r*(U*T')) (r*U*(y*U')):=(Cg.of_eq (by grind)).trans ((c3.symm).mulL (r*U))
   have e2:Cg q (r*U*(y*U')) (x*(U*U')):=(Cg.of_eq (show r*U*(y*U')=r*y*(U*U') by grind)).trans (c1.mulR (U*U'))
   have e3:Cg q (x*(U*U')) (T*U'):=(Cg.of_eq (show x*(U*U')=x*U*U' by grind)).trans (c2.mulR U')
   exact e1.trans (e2.trans e3)
end
def cQ(o:List Nat):List V:=o.map fun k:Nat=>V.int (k:Int)
structure WTab (H:Hp) (a:Addr) (n:Nat) (rs:Nat→Addr) (vf:Nat→Nat→V):Prop where
 lst:H a=some (.lst ((List.range n).map fun i=>V.ref (rs i)))
 inj:∀i j,i<n→j<n→rs i=rs j→i=j
 ne:∀i,i<n→rs i≠a
 at':∀i,i<n→H (rs i)=some (.lst ((List.range n).map (vf i)))
def uB(vf:Nat→Nat→V)(i j:Nat)(w:V):Nat→Nat→V:=fun i' j'=>if i'=i∧j'=j then w else vf i' j'
variable {j:Nat} {w:V}
theorem map_set{f:Nat→V}:((List.range n).map f).set j w=(List.range n).map fun j'=>if j'=j then w else f j':=by
 refine ke (by simp) fun i h1 h2=>?_
 rw [List.getElem_set];simp;by_cases e:j=i;·subst e;simp
 ·rw [ao e,ao (Ne.symm e)]
section
variable {H H':Hp} {a:Addr} {n:Nat} {rs:Nat→Addr} {vf:Nat→Nat→V}
theorem WTab.cm(h:WTab H a n rs vf)(k:∀b o,(b=a∨∃i,i<n∧b=rs i)→H b=some o→H' b=some o):WTab H' a n rs vf:=
 ⟨k _ _ (.inl rfl) h.lst,h.inj,h.ne,fun i hi=>k _ _ (.inr ⟨i,hi,rfl⟩) (h.at' i hi)⟩
theorem WTab.mono(h:WTab H a n rs vf)(s:ag H H'):WTab H' a n rs vf:=h.cm fun b o _ e=>s b o e
theorem WTab.put(h:WTab H a n rs vf){i:Nat}(w:V)(hi:i<n):WTab (upd H (rs i) (.lst (((List.range n).map (vf i)).set j w))) a n rs (uB vf i j w):=by
 refine ⟨by rw [a9 (Ne.symm (h.ne i hi))];exact h.lst,h.inj,h.ne,fun i' cf=>?_⟩
 by_cases e:i'=i
 ·subst e
  rw [az,map_set]
  congr 2
  refine m5 fun j' _=>?_;unfold uB;simp
 ·rw [a9 (fun z=>e (h.inj i' i cf hi z)),h.at' i' cf]
  congr 2
  refine m5 fun j' _=>?_;unfold uB;simp [e]
end
structure Lv (q:Int) (X n p:Nat) (ms:List Nat) (T U T' U':aX):Prop where
 nW:¬q∣T p p
 nz:∀i j,i<n→j<n→¬q∣U' i j
 bt:∀i j,i<n→j<n→(T' i j).natAbs≤X∧(U' i j).natAbs≤X
 low:∀i∈ms,Cg q (T i p*U p p*U' i p) (T' i p*(U i p*T p p))
 ent:∀i∈ms,∀j∈ms,Cg q ((T i j*(U' i p*U p j)-T' i p*T p j*U i j)*U' i j) (T' i j*(U i j*(U' i p*U p j)))
 yE:∀i j,i<n→j<n→(i∉ms∨(j≠p∧j∉ms))→Cg q (T i j*U' i j) (T' i j*U i j)
def ft(X:Nat)(H:Hp)(q:Int)(n:Nat)(vf:Nat→Nat→V)(T U:aX):Prop:=∀i j,i<n→j<n→bM X H q (vf i j) (T i j) (U i j)
def fT(n:Nat)(rs:Nat→Addr)(H H':Hp):Prop:=∀b o,(∀i,i<n→b≠rs i)→H b=some o→H' b=some o
def VA(C:Addr):Sp:=fun vs H Q _=>∃(z a b:Addr) (q:Int) (n X p:Nat) (rs:Nat→Addr) (vf:Nat→Nat→V) (ms:List Nat) (T U T' U':aX),vs=[.ref z,.ref a,.int (p:Int),.ref b]∧dj C H z q∧aF q∧WTab H a n rs vf∧H b=some (.lst (cQ ms))∧(∀i,i<n→b≠rs i∧z≠rs i)∧p<n∧(∀m∈ms,m<n∧m≠p)∧ms.Nodup∧n≤60∧1000≤X∧X≤10 ^ 140∧ft X H q n vf T U∧(∀i j,i<n→j<n→(T i j).natAbs≤X∧(U i j).natAbs≤X)∧Lv q X n p ms T U T' U' ∧
 ∀(H':Hp) (jv:Nat→Nat→V),fT n rs H H'→WTab H' a n rs jv→ft X H' q n jv T' U'→Q .bh H'
def jW(D:Nat→Nat→Bool)(T T':aX):Nat→Nat→Int:=fun i j=>if D i j then T' i j else T i j
theorem fT.refl(n:Nat)(rs:Nat→Addr)(H:Hp):fT n rs H H:=fun _ _ _ e=>e
variable {rs:Nat→Addr} {H H1:Hp}
theorem fT.same{H2:Hp}(h:fT n rs H H1)(s:ag H1 H2):fT n rs H H2:=fun b o nb e=>s _ _ (h b o nb e)
variable {i:Nat}
theorem fT.put{o:HO}(h:fT n rs H H1)(hi:i<n):fT n rs H (upd H1 (rs i) o):=fun b u nb e=>by rw [a9 (nb i hi)];exact h b u nb e
theorem int_at{x:V}(h:(cQ ms)[k]?=some x):∃i:Nat,ms[k]?=some i∧x=.int (i:Int):=by
 unfold cQ at h;rw [cB] at h;cases e:ms[k]? with
 | none=>rw [e] at h;cases h
 | some i=>rw [e] at h;exact ⟨i,rfl,(Option.some.inj h).symm⟩
theorem Bj(nd:ms.Nodup)(h:ms[k]?=some i):i∉ms.take k:=fun z=>by have h2:=(xt (k+1) ms).nodup nd;rw [take_snoc h,List.nodup_append] at h2;exact h2.2.2 i z i (gA.mpr rfl) rfl
variable {D:Nat→Nat→Bool} {T T':aX}
theorem fL(h:D i j=true):jW D T T' i j=T' i j:=by unfold jW;rw [ai h]
theorem eG(h:D i j=false):jW D T T' i j=T i j:=by unfold jW;rw [h];rfl
variable {X:Nat} {q:Int} {vf:Nat→Nat→V} {U U':aX}
theorem ft.put{H':Hp}(h:ft X H q n vf T U)(k:∀v t u,bM X H q v t u→bM X H' q v t u)(hw:bM X H' q w (T' i j) (U' i j))(o:∀i' j',i'<n→j'<n→¬(i'=i∧j'=j)→T' i' j'=T i' j'∧U' i' j'=U i' j'):ft X H' q n (uB vf i j w) T' U':=fun i' j' cf iy=>by
 unfold uB;by_cases e:i'=i∧j'=j
 ·rw [ai e,e.1,e.2]
  exact hw
 ·rw [ao e,(o i' j' cf iy e).1,(o i' j' cf iy e).2]
  exact k _ _ _ (h i' j' cf iy)
theorem ft.to(h:ft X H q n vf T U)(o:∀i' j',i'<n→j'<n→T' i' j'=T i' j'∧U' i' j'=U i' j'):ft X H q n vf T' U':=fun i j hi hj=>by rw [(o i j hi hj).1,(o i j hi hj).2];exact h i j hi hj
theorem ft.Lw(hq:aF q)(h:ft X H q n vf T U)(o:∀i j,i<n→j<n→(T' i j=T i j∧U' i j=U i j)∨(Cg q (T i j*U' i j) (T' i j*U i j)∧¬q∣U' i j∧(T' i j).natAbs≤X∧(U' i j).natAbs≤X)):ft X H q n vf T' U':=fun i j hi hj=>by
 rcases o i j hi hj with ⟨e1,e2⟩ | ⟨e1,e2,e3,e4⟩
 ·rw [e1,e2]
  exact h i j hi hj
 ·exact ((h i j hi hj).eq hq e1 e2).bd e3 e4
theorem bM.put{v:V}{t u:Int}{b:Addr}{xs:List V}{o:HO}(h:bM X H q v t u)(e:H b=some (.lst xs)):bM X (upd H b o) q v t u:=by
 obtain ⟨x,m,h1,h2⟩:=h;refine ⟨x,m,?_,h2⟩;cases h1 with
 | bA e' l bx bm=>exact .bA (by rw [a9 (fun z=>by rw [z,e] at e';cases e')];exact e') l bx bm
 | rem a b c=>exact .rem a b c
end My
namespace L2
open PySem PySem.Spec PyProof.Rows
section
variable {X:Cx} {a b:Expr} {rest:List Expr} {pos:Pos} {ta tb:TE}
end
end L2
namespace My
open PySem L2
end My
namespace L2
open PySem PySem.Spec PyProof.Rows
section
variable {prog:Program} {w:World} {A:Around} {E:aV} {s:Shared}
end
section
variable {prog:Program} {w:World} {A:Around} {E:aV} {s:Shared}
end
section
variable {X:Cx}
end
section
variable {prog:Program} {w:World} {A:Around} {E:aV} {s:Shared}
theorem VB{t sl:Addr}{ak:Array Value}{vl vu:Value}{lo hi:Option Int}{Q:aV}(ht:IsTup s.heap t ak)(hs:s.heap.IsSliceOf sl vl vu .none)(pl:IsPart vl lo)(pu:IsPart vu hi)
  (hw:HT.bJ ak.size 0 lo=0∧HT.bJ ak.size ak.size hi=ak.size) (q:Q (.ref t) s):wpAny (model prog w) A (getItem (.ref t) (.ref sl)) Q E s:=by
 obtain ⟨os,b1,b2,_⟩:=id hs;have ty:s.TypeIs (.ref sl) "slice":=⟨os,b1,b2⟩;unfold getItem
 try with_reducible refine xp ?_
 first | refine bI (cM ?_) | skip
 refine bI (wpAny_sequenceKey ht.typeIs (by decide) (bI (wpAny_callSpecial?_slot (name:=Str.ofString "__getitem__") ht.typeIs tP (wpAny_call_entry tP ht.typeIs entry_tuple_getitem ?_ (args_tuple_getitem _ _)))))
 show wpAny _ _ (Builtin.Tuple.tupleItemsOf (.ref t) >>= _) _ _ s;refine bI (tupleItemsOf_ ht (bI (wpAny_typeOf ty ?_)));rw [ai (by decide)]
 refine bI (HT.Jk hs pl pu ?_);have yes:((((HT.bJ ak.size 0 lo:Nat):Int) == 0 && (1:Int) == 1 && (HT.bJ ak.size ak.size hi-HT.bJ ak.size 0 lo) == ak.size)=true):=by rw [hw.1,hw.2];simp
 show wpAny _ _ (if (((HT.bJ ak.size 0 lo:Nat):Int) == 0 && (1:Int) == 1 && (HT.bJ ak.size ak.size hi-HT.bJ ak.size 0 lo) == ak.size)=true then _ else _) _ _ s
 rw [ai yes];refine bI ?_;unfold Builtin.Tuple.tupleIsExact;refine bI (wpAny_typeOf ht.typeIs (cM ?_));rw [ai (by decide)]
 exact bI (wpAny_rule (cM ⟨_,rfl,cM q⟩))
end
def VC(K:aB):V→Option Int→Option Int→Hp→VK→Prop:=fun x lo hi H Q=>∃a xs,x=.ref a∧dH K H a xs∧∀p H',(H'=H∧p=a∧jL xs lo hi=xs)∨(H p=none∧H'=upd H p (.tup (jL xs lo hi)))→Q (.ref p) H'
theorem VD{X:Cx}:As X (VC X.K):=by
 intro pins s σ H x v vl vu lo hi sl Q I rx hs pl pu h;obtain ⟨a,xs,rfl,hx,q⟩:=h;by_cases hw:HT.bJ xs.length 0 lo=0∧HT.bJ xs.length xs.length hi=xs.length
 ·cases rx
  obtain ⟨ak,r,ht,hz⟩:=I.tuple hx;have hlen:ak.toArray.size=xs.length:=by rw [df];exact r.length.symm
  refine ⟨"tuple",_,tP.lookup,ht.typeIs,?_⟩;refine VB ht hs pl pu (by rw [hlen];exact hw) ⟨.ref a,H,I,rfl,q a H (.inl ⟨rfl,rfl,?_⟩)⟩
  unfold jL;rw [hw.1,hw.2,List.drop_zero,Nat.sub_zero];exact k4
 ·exact Rt pins s σ H (.ref a) v vl vu lo hi sl Q I rx hs pl pu ⟨a,xs,rfl,hx,hw,fun p np=>q p _ (.inr ⟨np,rfl⟩)⟩
end L2
namespace My
open PySem L2
end My
namespace L2
open PySem PySem.Spec PyProof.Rows
end L2
namespace My
open PySem L2
end My
namespace L2
open PySem PySem.Spec PyProof.Rows
section
variable {X:Cx}
end
end L2
namespace My
open PySem L2
end My
namespace L2
open PySem
section
variable {prog:Program} {w:World} {A:Around} {E:aV} {s:Shared}
end
end L2
namespace My
open PySem L2
end My
namespace L2
open PySem PySem.Spec PyProof.Rows My
end L2
namespace My
open PySem L2
section
variable {P a d:Addr} {H Hc:Hp} {n m:Nat} {L:aR}
end
section
variable {n:Nat} {E:Nat→Nat→Prop} {pos rk:Nat→Nat}
end
open PySem PySem.W PyProof.Rows Tm
section
variable {prog:Program} {w:World} {A:Around} {E:aV} {s:Shared}
end
open PySem PySem.W PyProof.Rows
section
variable {prog:Program} {w:World} {A:Around} {E:aV} {s:Shared}
end
end My
namespace L2
open PySem PySem.W PyProof.Rows My
end L2
namespace My
open PySem PySem.W PyProof.Rows
section
variable {prog:Program} {w:World} {A:Around} {E:aV} {s:Shared} {R:Result→Shared→Prop}
end
open PySem PySem.W PyProof.Rows L2
section
variable {prog:Program} {w:World} {A:Around} {s:Shared}
end
end My
namespace L2
open PySem PySem.W PyProof.Rows My
end L2
namespace My
open PySem L2
end My
namespace L2
open PySem PySem.Spec PyProof.Rows My
end L2
namespace My
open PySem L2
end My
namespace L2
open PySem
section
variable {prog:Program} {w:World} {A:Around} {E:aV} {s:Shared}
end
open PySem PySem.Spec PyProof.Rows My
end L2
namespace My
open PySem L2
end My
namespace L2
open PySem PySem.W PyProof.Rows
section
variable {prog:Program} {w:World} {A:Around} {E:aV} {s:Shared}
end
open AutoSeq1 (wpAny_loadPart')
section
variable {prog:Program} {w:World} {A:Around} {E:aV} {s:Shared}
end
end L2
namespace My
open PySem L2
end My
namespace L2
open PySem PySem.Spec PyProof.Rows My
end L2
namespace My
open PySem L2
open PySem L2 Classical
theorem eI{a b:TS}{D:Ends}{σ:St}{H:Hp}(h:∀R:St→Hp→Prop,(∀σ H,b D σ H→R σ H)→a {D with nx:=R} σ H):Du a b D σ H:=h _ fun _ _ h=>h
end My
namespace L2
open PySem PySem.Spec PyProof.Rows
end L2
namespace My
open PySem L2 Classical
open PySem L2
end My
namespace L2
open PySem PySem.Spec PyProof.Rows My
section
variable {X:Cx}
end
end L2
namespace My
open PySem L2
end My
namespace L2
open PySem PySem.Spec PyProof.Rows My
end L2
namespace My
open PySem L2
end My
namespace L2
open PySem PySem.Spec PyProof.Rows
section
variable {prog:Program} {w:World} {A:Around} {E:aV} {s:Shared}
end
open AutoSeq1 (wpAny_loadPart')
section
variable {prog:Program} {w:World} {A:Around} {E:aV} {s:Shared}
end
section
variable {prog:Program} {w:World} {A:Around} {E:aV} {s:Shared}
end
section
variable {X:Cx}
end
open PySem PySem.Spec PyProof.Rows My
end L2
namespace My
open PySem L2
def kH(T:Addr)(H H':Hp):Prop:=∀b o,b≠T→H b=some o→H' b=some o
theorem kH.of{T:Addr}{H H1:Hp}(a:ag H H1):kH T H H1:=fun c o _ e=>a c o e
end My
namespace L2
open PySem
end L2
namespace My
open PySem L2
def Lx(m:Nat):Nat:=m*m+3*m+1
end My
namespace L2
open PySem
variable {X:Cx}
open PySem PySem.Spec PyProof.Rows
section
variable {prog:Program} {w:World} {A:Around} {E:aV} {s:Shared}
end
section
variable {X:Cx} {tg:Expr}
end
section
variable {prog:Program} {w:World} {K:Type} [DecidableEq K] {knd:HeapKind prog w K} {A:Around} {E:aV} {s:Shared}
end
section
variable {prog:Program} {w:World} {A:Around} {E:aV} {s:Shared}
end
section
variable {X:Cx} {pins:bg} {σ:St} {H:Hp} {s:Shared}
end
section
variable {X:Cx} {tg:Expr}
end
open PySem PySem.W PyProof.Rows My
end L2
namespace My
open PySem L2
end My
namespace L2
open PySem
end L2
namespace My
end My
namespace L2
open PySem PySem.Spec PyProof.Rows
open PySem PySem.Spec PyProof.Rows PySem.W
open PySem PySem.Spec PyProof.Rows PySem.W Att
section
variable {prog:Program} {w:World} {A:Around} {E:aV} {s:Shared}
end
section
variable {X:Cx}
end
end L2
namespace My
open PySem L2
def E4(n:Nat)(g:Nat→List Nat):Nat:=((List.range n).map fun x=>Lx (g x).length).sum
section
variable {n:Nat} {dJ:Nat→Nat→Prop} {eS:Nat→Prop} {p q:Nat}
end
theorem uC{n:Nat}{o:List Nat}(ho:o.Perm (List.range n)){k x:Nat}:x∈o.take k↔qD n o k x:=by
 have nd:=iA ho;constructor
 ·intro h
  obtain ⟨i,hi,e⟩:=k6 h;rw [kY] at hi;rw [List.getElem_take] at e;subst e;exact ⟨(dY ho).mp (dD _),by rw [mE nd];lia⟩
 ·rintro ⟨h1,h2⟩
  obtain ⟨hk,e⟩:=gr ((dY ho).mpr h1);have:o.idxOf x<(o.take k).length:=by rw [kY];lia
  have:=dD this
  rwa [List.getElem_take,e] at this
def cO(o:List Nat)(k:Nat):List Nat:=(o.take k).reverse
def sT(M:aX)(D:Nat→Int)(o:List Nat)(k i j:Nat):Int:=
 if k≤o.idxOf i∧k≤o.idxOf j then aI M (cO o k) (M i) j else if o.idxOf i≤o.idxOf j then aI M (cO o (o.idxOf i)) (M i) j else aI M (cO o (o.idxOf j)) (M i) j*D j
def sU(M:aX)(D:Nat→Int)(o:List Nat)(k i j:Nat):Int:=
 if k≤o.idxOf i∧k≤o.idxOf j then D i*aK M (cO o k) else if o.idxOf i≤o.idxOf j then D i*aK M (cO o (o.idxOf i)) else D i*aK M (cO o (o.idxOf j+1))
section
variable {q:Int} {M:aX} {D:Nat→Int} {o:List Nat} {n k:Nat}
theorem uD(h:k<o.length):cO o (k+1)=o[k]::cO o k:=by unfold cO;rw [List.take_succ,gW h];simp
theorem dr(ho:o.Perm (List.range n)){x:Nat}:x∈cO o k↔qD n o k x:=by unfold cO;rw [List.mem_reverse];exact uC ho
theorem pb(h:cV q M (cO o k)):∀{j:Nat},j≤k→cV q M (cO o j):=by
 have go:∀d j,j+d=k→cV q M (cO o j):=fun d=>by
  induction d with
  | zero=>intro j e;rw [show j=k by lia];exact h
  | succ d ih=>
   intro j e;have:=ih (j+1) (by lia)
   by_cases hl:j<o.length
   ·rw [uD hl] at this
    exact this.1
   ·have e:cO o j=cO o (j+1):=by unfold cO;rw [tV (by lia),tV (by lia)]
    rw [e];exact this
 exact fun{j} hj=>go (k-j) j (by lia)
theorem VE(hq:aF q){L:aR}{ms:List Nat}{X p:Nat}(ho:o.Perm (List.range n))(hp:p<n)(ip:o.idxOf p=k)(g:cV q M (cO o k))(nW:¬q∣aI M (cO o k) (M p) p)(hD:∀i,¬q∣D i)
  (zero:∀a b,a<n→b<n→a≠b→¬aL n L a b→M a b=0) (gO:iY n L o p ms) (bd:∀k i j,k≤n→(sT M D o k i j).natAbs≤X∧(sU M D o k i j).natAbs≤X):Lv q X n p ms (sT M D o k) (sU M D o k) (sT M D o (k+1)) (sU M D o (k+1)):=by
 have lo:=gL ho;have Ly:=iA ho;have kl:k<o.length:=by rw [←ip];exact (gr ((dY ho).mpr hp)).1
 have kn:k<n:=by lia
 have pk:o[k]=p:=by have:=(gr ((dY ho).mpr hp)).2;simp only [ip] at this;exact this
 have cs:cO o (k+1)=p::cO o k:=by rw [uD kl,pk]
 have g':cV q M (cO o (k+1)):=by rw [cs];exact ⟨g,nW⟩
 have dz:∀j,j≤k+1→¬q∣aK M (cO o j):=fun j hj=>nV hq (pb g' hj);have mlt:∀{i},i∈ms→i<n∧k<o.idxOf i:=fun{i} h=>by have:=(gO i).mp h;rw [ip] at this;exact ⟨this.1,this.2.1⟩
 have yF:aK M (cO o (k+1))=aI M (cO o k) (M p) p:=by rw [cs];rfl
 have step:∀i j,aI M (cO o k) (M p) p*aI M (cO o k) (M i) j-aI M (cO o k) (M i) p*aI M (cO o k) (M p) j=aK M (cO o k)*aI M (cO o (k+1)) (M i) j:=fun i j=>by rw [cs];exact Bd hq g p (M i) j
 have cm:∀{i},i<n→k<o.idxOf i→i∉ms→aI M (cO o k) (M i) p=0∧aI M (cO o k) (M p) i=0:=fun{i} hi hk nm=>by
  have nc:i∉cO o k:=fun z=>by have:=((dr ho).mp z).2;lia
  have pc:p∉cO o k:=fun z=>by have:=((dr ho).mp z).2;lia
  have ne:p≠i:=fun z=>by rw [←z] at hk;lia
  have nw:¬Wk (aL n L) (·∈cO o k) p i:=fun z=>nm ((gO i).mpr ⟨hi,by lia,by rw [ip];exact z.mono fun x hx=>(dr ho).mp hx⟩)
  have lc:∀c∈cO o k,c<n:=fun c hc=>((dr ho).mp hc).1;exact ⟨o_ hq zero g lc i p hi hp nc pc (Ne.symm ne) fun z=>nw (z.symm Bb),o_ hq zero g lc p i hp hi pc nc ne nw⟩
 have tp:∀j,k≤o.idxOf j→sT M D o k p j=aI M (cO o k) (M p) j∧sU M D o k p j=D p*aK M (cO o k):=fun j hj=>by
  unfold sT sU;rw [ai ⟨by lia,hj⟩,ai ⟨by lia,hj⟩]
  exact ⟨rfl,rfl⟩
 have tk:∀i j,k≤o.idxOf i→k≤o.idxOf j→sT M D o k i j=aI M (cO o k) (M i) j∧sU M D o k i j=D i*aK M (cO o k):=fun i j hi hj=>by unfold sT sU;rw [ai ⟨hi,hj⟩,ai ⟨hi,hj⟩];exact ⟨rfl,rfl⟩
 have uc:∀i j,k+1≤o.idxOf i→k+1≤o.idxOf j→sT M D o (k+1) i j=aI M (cO o (k+1)) (M i) j∧sU M D o (k+1) i j=D i*aK M (cO o (k+1)):=fun i j hi hj=>by unfold sT sU;rw [ai ⟨hi,hj⟩,ai ⟨hi,hj⟩];exact ⟨rfl,rfl⟩
 have yG:∀i,k<o.idxOf i→sT M D o (k+1) i p=aI M (cO o k) (M i) p*D p∧sU M D o (k+1) i p=D i*aK M (cO o (k+1)):=fun i hi=>by
  unfold sT sU;rw [ao (by lia),ao (by lia),ao (by lia),ao (by lia),ip]
  exact ⟨rfl,rfl⟩
 refine ⟨?_,fun i j _ _=>?_,fun i j _ _=>bd (k+1) i j kn,fun i hi=>?_,fun i hi j hj=>?_,fun i j cR fz h=>?_⟩
 ·rw [(tp p (by lia)).1]
  exact nW
 ·unfold sU
  split
  ·exact gN hq (hD i) (dz _ (by lia))
  ·rename_i h1
   split
   ·exact gN hq (hD i) (dz _ (by lia))
   ·exact gN hq (hD i) (dz _ (by lia))
 ·have h1:=(mlt hi).2
  rw [(tk i p (by lia) (by lia)).1,(tk i p (by lia) (by lia)).2,(tp p (by lia)).1,(tp p (by lia)).2,(yG i h1).1,(yG i h1).2,yF]
  exact Cg.of_eq (by grind)
 ·have h1:=(mlt hi).2
  have h2:=(mlt hj).2;rw [(tk i j (by lia) (by lia)).1,(tk i j (by lia) (by lia)).2,(tp j (by lia)).1,(tp j (by lia)).2,(yG i h1).1,(yG i h1).2,(uc i j (by lia) (by lia)).1,(uc i j (by lia) (by lia)).2]
  have st:=step i j;rw [←yF] at st;generalize aI M (cO o k) (M i) j=x at st ⊢;generalize aI M (cO o k) (M i) p=y at st ⊢;generalize aI M (cO o k) (M p) j=w at st ⊢;generalize aI M (cO o (k+1)) (M i) j=x' at st ⊢;generalize aK M (cO o k)=d at st ⊢;generalize aK M (cO o (k+1))=d' at st ⊢;refine Cg.of_eq ?_;have e:(x*(D i*d'*(D p*d))-y*D p*w*(D i*d))*(D i*d')=D i*D p*d*(d'*x-y*w)*(D i*d'):=by grind
  rw [e,st];grind
 ·by_cases h1:k<o.idxOf i∧k<o.idxOf j
  ·rw [(tk i j (by lia) (by lia)).1,(tk i j (by lia) (by lia)).2,(uc i j (by lia) (by lia)).1,(uc i j (by lia) (by lia)).2]
   have st:=step i j;rw [←yF] at st;have z:aI M (cO o k) (M i) p*aI M (cO o k) (M p) j=0:=by
    rcases h with h | ⟨_,h⟩;·rw [(cm cR h1.1 h).1,fj]
    ·rw [(cm fz h1.2 h).2,dE]
   rw [z,k8] at st;exact Cg.of_eq (by grind)
  ·by_cases h2:k<o.idxOf i∧o.idxOf j=k
   ·have ej:j=p:=z_ fun z=>uz ho fz hp z (by lia)
    subst ej;have nm:i∉ms:=by
     rcases h with h | ⟨h,_⟩;·exact h
     ·exact absurd rfl h
    rw [(tk i j (by lia) (by lia)).1,(yG i h2.1).1,(cm cR h2.1 nm).1]
    exact Cg.of_eq (by simp)
   ·have e:sT M D o (k+1) i j=sT M D o k i j∧sU M D o (k+1) i j=sU M D o k i j:=by
     by_cases h3:o.idxOf i=k∧k≤o.idxOf j
     ·have a1:¬(k+1≤o.idxOf i∧k+1≤o.idxOf j):=by lia
      have a2:o.idxOf i≤o.idxOf j:=by lia
      have a3:k≤o.idxOf i∧k≤o.idxOf j:=by lia
      unfold sT sU;rw [ao a1,ai a2,ai a3,ao a1,ai a2,ai a3,h3.1];exact ⟨rfl,rfl⟩
     ·have a1:¬(k+1≤o.idxOf i∧k+1≤o.idxOf j):=by lia
      have a2:¬(k≤o.idxOf i∧k≤o.idxOf j):=by lia
      unfold sT sU;rw [ao a1,ao a2,ao a1,ao a2];exact ⟨rfl,rfl⟩
    rw [e.1,e.2];exact Cg.refl _
end
end My
namespace L2
open PySem PySem.Spec PyProof.Rows
def yH(K:aB)(a:Addr)(n:Nat):It:=
 ⟨fun i H=>i<n∧∃xs,aZ K H a xs∧xs.length=n,fun i H x H'=>H'=H∧∀xs,aZ K H a xs→xs[n-1-i]?=some x,fun i H=>n≤i⟩
theorem VF{P:Program}{w:World}{K:aB}{tg:Expr}(a it:Addr)(n:Nat):Turn P w K tg (yH K a n) [it] it (fun i h=>i≤n∧h.IsRevIter it a ((n:Int)-1-i)) where
 mem:=by simp
 obj:=fun i h st b hb=>by
  have e:b=it:=by simpa using hb
  subst e;obtain ⟨_,o,e,c,d⟩:=st;exact ⟨o,e,fun v z=>by rw [d] at z;cases z⟩
 keep:=fun i h h' st k=>⟨st.1,by obtain ⟨_,o,e,c,d⟩:=st;exact ⟨o,k it (by simp) o e,c,d⟩⟩
 item:=by
  intro X hP hw hK hc i pins s σ H E I hf st hg;subst hP hw hK;obtain ⟨il,xs,hq,hx⟩:=hg;obtain ⟨ak,rv,p,hz⟩:=I.list hq;have hl:=rv.length;have hi:n-1-i<xs.length:=by lia
  obtain ⟨u,hu,ru⟩:=rv.get (gW hi);obtain ⟨f0,f1,f2,f3,f4,f5⟩:=hf it (by simp)
  have E5:s.heap.IsRevIter it a ((n-1-i:Nat):Int):=by
   have:=st.2
   rwa [show (n:Int)-1-(i:Int)=((n-1-i:Nat):Int) by lia] at this
  refine wpAny_pyNext_rev_item E5 p.isList (x:=u) (by simpa using hu) fun h' jd sb=>?_
  have I1:Inv X pins σ H {s with heap:=h'}:=I.turned (t':=s.toks) (fun b o hb e=>(sb.2 b hb).trans e) f0 f1 f3 f4 f5;obtain ⟨o,e,c,d⟩:=id jd;have gY:i+1≤n∧h'.IsRevIter it a ((n:Int)-1-((i+1:Nat):Int)):=⟨by lia,by rwa [show (n:Int)-1-((i+1:Nat):Int)=((n-1-i:Nat):Int)-1 by lia]⟩
  exact ⟨u,rfl,x3 (s:={s with heap:=h'}) e c d (by decide) ⟨xs[n-1-i],H,I1,ru,⟨rfl,fun ys hy=>by rw [I.xT hy hq];exact gW hi⟩,gY,fun b hb=>(hf b hb).1⟩⟩
 done:=by
  intro X hP hw hK hc i pins s σ H E I hf st hg;subst hP hw hK;have hg:n≤i:=hg;obtain ⟨f0,f1,f2,f3,f4,f5⟩:=hf it (by simp)
  have E5:s.heap.IsRevIter it a (-1):=by
   have:=st.2
   rwa [show (n:Int)-1-(i:Int)=-1 by have:=st.1;lia] at this
  exact wpAny_pyNext_rev_end (I.ok.hd hc) E5 fun h' eb=>⟨rfl,I.turned (t':=s.toks) (fun b o hb e=>eb b o hb e) f0 f1 f3 f4 f5⟩
 self:=fun _ _ _ _ _ st h=>wpAny_pyIter_revIter st.2 h
section
variable {X:Cx} {tg:Expr}
def VG(K:aB)(ta:TA):TI:=fun σ H R=>ta σ H fun vs H1=>∃(l:Addr) (xs:List V),vs=[.ref l]∧aZ K H1 l xs∧R (yH K l xs.length) H1
theorem VH{a:Expr}{ta:TA}{p pos:Pos}(hg:Gl X "reversed")(hm:X.mg "reversed"=none)(ha:PA X [a] ta)(hs:starEach [a] X.env=[(false,eval a X.env)]:=by rfl):PI X tg (.Call (.Name "reversed" p) [a] [] pos) (VG X.K ta):=by
 intro pins s σ H R I h;refine Call_ (oG I hg hm boot_reversed (tN (aS (ha pos pins s σ H _ I h) fun us s1 ⟨vs,H1,I1,r1,q1⟩=>?_) hs rfl));obtain ⟨l,xs,e,hq,q⟩:=q1;subst e;cases r1 with
 | cons r rr=>
  cases rr;cases r;obtain ⟨ak,rv,pl,hz⟩:=I1.list hq;have hl:=rv.length;refine call_reversed_list pl.isList ?_;refine wpAny_pyIter_revIter (i:=(ak.toArray.size:Int)-1) ⟨_,fZ _ rfl,rfl,rfl⟩ ?_;refine ⟨s1.heap.objs.size,[s1.heap.objs.size],_,_,H1,rfl,I1.kept (t':=s1.toks) fun b o e=>dy _ e,VF l _ xs.length,⟨cN _,_,fZ _ rfl,rfl,?_⟩,fun b hb=>?_,q⟩
  ·rw [hl,df,show ((ak.length:Int)-1-((0:Nat):Int))=(ak.length:Int)-1 by lia]
   rfl
  ·have e:b=s1.heap.objs.size:=by simpa using hb
   subst e;exact I1.qc (aE _) (I1.aC.fresh (aE _))
theorem VI{K:aB}{a:Addr}{xs:List V}{g:TG}{tb:TS}{D:Ends}{σ:St}{H:Hp}(Pv:Nat→St→Hp→Prop)(h0:Pv 0 σ H)(hl:∀i σ H,i≤xs.length→Pv i σ H→aZ K H a xs)
  (hs:∀i x σ H,i<xs.length→xs[xs.length-1-i]?=some x→Pv i σ H→g x σ H fun σ2 H2=>tb {D with nx:=Pv (i+1),ct:=Pv (i+1),bk:=D.nx} σ2 H2) (hd:∀σ H,Pv xs.length σ H→D.nx σ H) :
  ∃W:Nat→Nat→St→Hp→Prop,(∃m,W 0 m σ H)∧∀i m σ H,W i m σ H→
   ((yH K a xs.length).stop i H∧D.nx σ H)∨((yH K a xs.length).go i H∧∃N:St→Hp→Prop,(∀σ' H',N σ' H'→∃m',m'<m∧W (i+1) m' σ' H')∧∀x H',(yH K a xs.length).fm i H x H'→g x σ H' fun σ2 H2=>tb {D with nx:=N,ct:=N,bk:=D.nx} σ2 H2):=by
 refine ⟨fun i m σ H=>m=xs.length-i∧i≤xs.length∧Pv i σ H,⟨xs.length,by simp,cN _,h0⟩,?_⟩
 rintro i m σ H ⟨rfl,hi,p⟩;have q1:=hl i σ H hi p;by_cases cI:i<xs.length
 ·refine .inr ⟨⟨cI,xs,q1,rfl⟩,Pv (i+1),fun σ' H' p'=>⟨xs.length-(i+1),by lia,rfl,cI,p'⟩,fun v H' hy=>?_⟩
  obtain ⟨rfl,hy⟩:=hy;exact hs i v σ H' cI (hy xs q1) p
 ·have e:i=xs.length:=by lia
  subst e;exact .inl ⟨aE _,hd σ H p⟩
end
end L2
namespace My
open PySem L2
structure Bk (q:Int) (n X:Nat) (ay:iI) (o:List Nat) (M:aX) (D:Nat→Int):Prop where
 qG:∀i j,i<n→j<n→q∣(atT ay i j).1*D i-M i j*(atT ay i j).2
 dn:∀i,¬q∣D i
 zero:∀i j,i<n→j<n→(atT ay i j).1=0→M i j=0
 bd:∀k i j,k≤n→(sT M D o k i j).natAbs≤X∧(sU M D o k i j).natAbs≤X
 X1:1000≤X
 gP:X≤10 ^ 140
structure E6 (H0 H:Hp) (q:Int) (n X:Nat) (L:aR) (o:List Nat) (M:aX) (D:Nat→Int) (k:Nat) (wk ot:Addr) (rs:Nat→Addr) (vf:Nat→Nat→V) (ls:Nat→Addr) (g:Nat→List Nat):Prop where
 tab:WTab H wk n rs vf
 new:H0 wk=none∧∀i,i<n→H0 (rs i)=none
 qG:ft X H q n vf (sT M D o k) (sU M D o k)
 gO:uy H ot n ls g
 ok:∀p,p<n→ju n o p (g p)∧iY n L o p (g p)
 sep:(∀i,i<n→ot≠rs i∧∀j,j<n→ls j≠rs i)
def VJ(C N:Addr):Sp:=fun vs H Q _=>∃(z a d:Addr) (q:Int) (B X n:Nat) (ay:iI) (o:List Nat) (M:aX) (D:Nat→Int),vs=[.ref z,.ref a,.ref d]∧dj C H z q∧aF q∧lI B H q a ay∧B≤10 ^ 140∧ay.length=n∧1≤n∧n≤40∧(∀ps∈ay,ps.length=n)∧H d=some (.lst (cQ o))∧o.Perm (List.range n)∧Bk q n X ay o M D ∧
 (∀(k:Nat) (hk:k<o.length),cV q M (cO o k)→q∣aI M (cO o k) (M o[k]) o[k]→∀(tp wk ot:Addr) (H':Hp) (rs ls:Nat→Addr) (vf:Nat→Nat→V) (g:Nat→List Nat),ag H H'→H' tp=some (.tup [.ref wk,.ref ot,.int ((k:Int)+1)])→E6 H H' q n X (eQ n (dq ay) n) o M D k wk ot rs vf ls g→Q (.ref tp) H') ∧
 (cV q M (cO o n)→∀(tp wk ot:Addr) (H':Hp) (rs ls:Nat→Addr) (vf:Nat→Nat→V) (g:Nat→List Nat),ag H H'→H' tp=some (.tup [.ref wk,.ref ot,.bh])→E6 H H' q n X (eQ n (dq ay) n) o M D n wk ot rs vf ls g→Q (.ref tp) H')
section
variable {H:Hp} {q:Int} {a:Addr} {B n:Nat} {ay:iI}
theorem VL(h:lI B H q a ay)(l:ay.length=n)(w:∀ps∈ay,ps.length=n):∃(ra:Nat→Addr) (vf:Nat→Nat→V),H a=some (.lst ((List.range n).map fun i=>V.ref (ra i)))∧(∀i,i<n→H (ra i)=some (.lst ((List.range n).map (vf i))))∧∀i j,i<n→j<n→bC B H q (vf i j) (atT ay i j).1 (atT ay i j).2:=by
 obtain ⟨vs,ea,lv,f⟩:=h;have row:∀i,i<n→∃(r:Addr) (us:List V),vs[i]?=some (.ref r)∧H r=some (.lst us)∧us.length=n∧∀j,j<n→bC B H q (us.getD j .bh) (atT ay i j).1 (atT ay i j).2:=fun i hi=>by
  have hv:i<vs.length:=by lia
  have hp:i<ay.length:=by lia
  obtain ⟨r,er,us,eu,lu,fu⟩:=f i vs[i] ay[i] (gW hv) (gW hp);have lw:=w _ (dD hp);refine ⟨r,us,by rw [gW hv,er],eu,by lia,fun j hj=>?_⟩
  have hu:j<us.length:=by lia
  have hr:j<(ay[i]).length:=by lia
  have:=fu j us[j] ay[i][j] (gW hu) (gW hr);unfold atT;rw [getD_at hp,getD_at hr,getD_at hu];exact this
 refine ⟨fun i=>if h:i<n then (row i h).choose else 0,fun i j=>if h:i<n then (row i h).choose_spec.choose.getD j .bh else .bh,?_,fun i hi=>?_,fun i j hi hj=>?_⟩
 ·rw [ea]
  congr 2
  refine ke (by simp;lia) fun i h1 h2=>?_
  have hi:i<n:=by simpa using h2
  have e:some vs[i]=some (V.ref (row i hi).choose):=(gW h1).symm.trans (row i hi).choose_spec.choose_spec.1;rw [Option.some.inj e];simp [hi]
 ·simp only [dif_pos hi]
  have e:=(row i hi).choose_spec.choose_spec;refine e.2.1.trans ?_
  congr 2
  refine ke (by rw [aG,cK];exact e.2.2.1) fun j h1 h2=>?_
  rw [gC,jC,getD_at h1]
 ·simp only [dif_pos hi]
  exact (row i hi).choose_spec.choose_spec.2.2.2 j hj
theorem VM{X:Nat}{v:V}{x m t u:Int}(h:bC B H q v x m)(d:q∣x*u-t*m)(nu:¬q∣u)(bt:t.natAbs≤X)(bu:u.natAbs≤X):bM X H q v t u:=bM.bd (B:=B) ⟨x,m,h,d,nu⟩ bt bu
end
variable {n:Nat}
theorem VN{f:Nat→Nat→Bool}:∀z∈eQ n f n,0≤z.1∧z.1<z.2∧z.2<(n:Int):=fun z hz=>by obtain ⟨i,j,_,h2,h3,h4,rfl⟩:=mem_of hz;dsimp only;lia
theorem Lz{ay:iI}{a b:Nat}(ha:a<n)(hb:b<n)(ab:a≠b)(h:¬aL n (eQ n (dq ay) n) a b):(atT ay a b).1=0:=z_ fun z=>h ⟨ha,hb,by
 have t1:o7 ay a b=true:=by unfold o7;unfold atT at z;simpa using z
 rcases Nat.lt_or_gt_of_ne ab with l | l;·exact .inl (EJ l hb (by unfold dq;rw [t1];rfl) (by lia))
 ·exact .inr (EJ l ha (by unfold dq;rw [t1,Bool.or_true]) (by lia))⟩
variable {B:Nat} {H:Hp} {q x:Int} {v:V}
theorem VO{B':Nat}{m x' m':Int}(h:bC B H q v x m)(g:bC B' H q v x' m'):x=x'∧m=m':=by
 cases h with
 | bA e l=>
  cases g with
  | bA e' l'=>rw [e] at e';cases e';exact ⟨rfl,rfl⟩
 | rem=>cases g;exact ⟨rfl,rfl⟩
def sL(M:aX)(o:List Nat)(n k i:Nat):Int:=aI M (cO o (min k (o.idxOf i))) (M i) n
def sW(M:aX)(D:Nat→Int)(o:List Nat)(k i:Nat):Int:=D i*aK M (cO o (min k (o.idxOf i)))
def fA(H:Hp)(e:Addr)(n:Nat)(av:Nat→V):Prop:=H e=some (.lst ((List.range n).map av))
def VP(C:Addr):Sp:=fun vs H Q _=>∃(z wk ot d e:Addr) (q:Int) (X n:Nat) (L:aR) (o:List Nat) (M:aX) (D:Nat→Int) (rs ls:Nat→Addr) (vf:Nat→Nat→V) (g:Nat→List Nat) (av:Nat→V),vs=[.ref z,.ref wk,.ref ot,.ref d,.ref e]∧dj C H z q∧aF q∧1≤n∧n≤40∧WTab H wk n rs vf∧ft X H q n vf (sT M D o n) (sU M D o n)∧uy H ot n ls g∧(∀p,p<n→ju n o p (g p)∧iY n L o p (g p))∧H d=some (.lst (cQ o))∧o.Perm (List.range n)∧fA H e n av∧(∀i,i<n→bM X H q (av i) (M i n) (D i)) ∧
 cV q M (cO o n)∧(∀i,¬q∣D i)∧(∀a b,a<n→b<n→a≠b→¬aL n L a b→M a b=0)∧1000≤X∧X≤10 ^ 140∧(∀k i j,k≤n→(sT M D o k i j).natAbs≤X∧(sU M D o k i j).natAbs≤X)∧(∀k i,k≤n→(sL M o n k i).natAbs≤X∧(sW M D o k i).natAbs≤X) ∧
 ∀(r:Addr) (lv:Nat→V) (H':Hp),ag H H'→H r=none→fA H' r n lv→(∀i,i<n→bM X H' q (lv i) (sL M o n n i) (sW M D o n i))→Q (.ref r) H'
variable {k:Nat}
theorem VQ{M:aX}{D:Nat→Int}{o:List Nat}{p:Nat}{L:aR}{ms:List Nat}(hq:aF q)(ho:o.Perm (List.range n))(hp:p<n)(ip:o.idxOf p=k)(gn:cV q M (cO o n))
  (zero:∀a b,a<n→b<n→a≠b→¬aL n L a b→M a b=0) (gO:iY n L o p ms) :
  (∀i∈ms,Cg q ((sL M o n k i*(sU M D o n i p*sW M D o k p)-sT M D o n i p*sL M o n k p*sW M D o k i)*sW M D o (k+1) i) (sL M o n (k+1) i*(sW M D o k i*(sU M D o n i p*sW M D o k p)))) ∧
  ∀i,i<n→i∉ms→Cg q (sL M o n k i*sW M D o (k+1) i) (sL M o n (k+1) i*sW M D o k i):=by
 have lo:=gL ho;have kl:k<o.length:=by rw [←ip];exact (gr ((dY ho).mpr hp)).1
 have pk:o[k]=p:=by have:=(gr ((dY ho).mpr hp)).2;simp only [ip] at this;exact this
 have cs:cO o (k+1)=p::cO o k:=by rw [uD kl,pk]
 have g:=pb gn (show k≤n by lia)
 have yF:aK M (cO o (k+1))=aI M (cO o k) (M p) p:=by rw [cs];rfl
 have step:∀i j,aK M (cO o (k+1))*aI M (cO o k) (M i) j-aI M (cO o k) (M i) p*aI M (cO o k) (M p) j=aK M (cO o k)*aI M (cO o (k+1)) (M i) j:=fun i j=>by rw [yF,cs];exact Bd hq g p (M i) j
 have lp:sL M o n k p=aI M (cO o k) (M p) n∧sW M D o k p=D p*aK M (cO o k):=by unfold sL sW;rw [ip,Nat.min_self];exact ⟨rfl,rfl⟩
 have lk:∀i,k<o.idxOf i→sL M o n k i=aI M (cO o k) (M i) n∧sW M D o k i=D i*aK M (cO o k)∧sL M o n (k+1) i=aI M (cO o (k+1)) (M i) n∧sW M D o (k+1) i=D i*aK M (cO o (k+1)):=fun i h=>by
  unfold sL sW;rw [Nat.min_eq_left (by lia),Nat.min_eq_left (by lia)]
  exact ⟨rfl,rfl,rfl,rfl⟩
 have tl:∀i,i<n→k<o.idxOf i→sT M D o n i p=aI M (cO o k) (M i) p*D p∧sU M D o n i p=D i*aK M (cO o (k+1)):=fun i hi h=>by
  have h1:¬(n≤o.idxOf i∧n≤o.idxOf p):=by lia
  have h2:¬o.idxOf i≤o.idxOf p:=by lia
  unfold sT sU;rw [ao h1,ao h2,ao h1,ao h2,ip];exact ⟨rfl,rfl⟩
 refine ⟨fun i hi=>?_,fun i hi nm=>?_⟩
 ·have hl:=(gO i).mp hi
  rw [ip] at hl;obtain ⟨a1,a2,a3,a4⟩:=lk i hl.2.1;rw [a1,a2,a3,a4,(tl i hl.1 hl.2.1).1,(tl i hl.1 hl.2.1).2,lp.1,lp.2];have st:=step i n;generalize aI M (cO o k) (M i) n=x at st ⊢;generalize aI M (cO o k) (M i) p=y at st ⊢;generalize aI M (cO o k) (M p) n=w at st ⊢;generalize aI M (cO o (k+1)) (M i) n=x' at st ⊢;generalize aK M (cO o k)=d at st ⊢;generalize aK M (cO o (k+1))=d' at st ⊢;refine Cg.of_eq ?_;have e:(x*(D i*d'*(D p*d))-y*D p*w*(D i*d))*(D i*d')=D i*D p*d*(d'*x-y*w)*(D i*d'):=by grind
  rw [e,st];grind
 ·by_cases h:k<o.idxOf i
  ·obtain ⟨a1,a2,a3,a4⟩:=lk i h
   rw [a1,a2,a3,a4];have nc:i∉cO o k:=fun z=>by have:=((dr ho).mp z).2;lia
   have pc:p∉cO o k:=fun z=>by have:=((dr ho).mp z).2;lia
   have ne:i≠p:=fun z=>by rw [z] at h;lia
   have z:aI M (cO o k) (M i) p=0:=o_ hq zero g (fun c hc=>((dr ho).mp hc).1) i p hi hp nc pc ne fun w=>nm ((gO i).mpr ⟨hi,by lia,by rw [ip];exact (w.symm Bb).mono fun x hx=>(dr ho).mp hx⟩)
   have st:=step i n;rw [z,fj,k8] at st;exact Cg.of_eq (by grind)
  ·have e:sL M o n (k+1) i=sL M o n k i∧sW M D o (k+1) i=sW M D o k i:=by
    unfold sL sW;rw [Nat.min_eq_right (by lia),Nat.min_eq_right (by lia)]
    exact ⟨rfl,rfl⟩
   rw [e.1,e.2];exact Cg.refl _
structure E7 (q:Int) (X n:Nat) (T U:aX) (g:Nat→List Nat) (ps:List Nat) (A B x y:Nat→Int) (S R:aX):Prop where
 s0:∀p∈ps,Cg q (A p*R p 0) (S p 0*B p)
 VR:∀p∈ps,∀l j,(g p)[l]?=some j→Cg q ((S p l*(U p j*y j)-T p j*x j*R p l)*R p (l+1)) (S p (l+1)*(R p l*(U p j*y j)))
 fin:∀p∈ps,Cg q (S p (g p).length*U p p*y p) (x p*(R p (g p).length*T p p))
 E8:∀p∈ps,∀l,¬q∣R p l
 E9:∀p,¬q∣y p
 nW:∀p∈ps,¬q∣T p p
 bd:(∀p∈ps,∀l,l≤(g p).length→(S p l).natAbs≤X∧(R p l).natAbs≤X)∧∀p,(x p).natAbs≤X∧(y p).natAbs≤X
 yE:∀p,p<n→p∉ps→A p=x p∧B p=y p
def VS(C:Addr):Sp:=fun vs H Q _=>∃(z wk ot d e:Addr) (q:Int) (X n:Nat) (ps:List Nat) (T U:aX) (rs ls:Nat→Addr) (vf:Nat→Nat→V) (g:Nat→List Nat) (av:Nat→V) (A B x y:Nat→Int) (S R:aX),vs=[.ref z,.ref wk,.ref ot,.ref d,.ref e]∧dj C H z q∧aF q∧n≤40∧WTab H wk n rs vf∧ft X H q n vf T U∧(∀i j,i<n→j<n→(T i j).natAbs≤X∧(U i j).natAbs≤X)∧uy H ot n ls g∧H d=some (.lst (cQ ps))∧ps.Nodup∧(∀p∈ps,p<n∧(∀j∈g p,j<n∧j≠p))∧(∀k p,ps[k]?=some p→∀j∈g p,j∉ps.take (k+1))∧fA H e n av∧(∀i,i<n→bM X H q (av i) (A i) (B i))∧1000≤X∧X≤10 ^ 140∧E7 q X n T U g ps A B x y S R ∧
 ∀(r:Addr) (lv:Nat→V) (H':Hp),ag H H'→H r=none→fA H' r n lv→(∀i,i<n→bM X H' q (lv i) (x i) (y i))→Q (.ref r) H'
theorem E_{l l':List Int}(p:l.Perm l'):l.sum=l'.sum:=by
 induction p with
 | nil=>rfl
 | cons x _ ih=>rw [dF,dF,ih]
 | swap x y l=>rw [dF,dF,dF,dF];lia
 | trans _ _ a b=>exact a.trans b
theorem uE{F:Nat→Int}{p:Nat}:∀{C l:List Nat},C.Nodup→l.Nodup→(∀c∈l,c∈C)→(∀c∈C,c∉l→F c=0)→(C.map F).sum=(l.map F).sum
 | [],l,_,_,sub,_=>by
  cases l with
  | nil=>rfl
  | cons x r=>exact absurd (sub x (jy ..)) (by simp)
 | c::C,l,nd,nl,sub,z=>by
  rw [j4] at nd;by_cases h:c∈l
  ·have pm:=List.perm_cons_erase h
   have e:(l.map F).sum=F c+((l.erase c).map F).sum:=by rw [E_ (pm.map F),cX,dF]
   rw [cX,dF,e,uE (p:=p) (l:=l.erase c) nd.2 (nl.erase c) (fun x hx=>?_) fun x hx nx=>?_]
   ·have:=sub x (List.mem_of_mem_erase hx)
    rcases cH.mp this with rfl | h2;·exact absurd hx (List.Nodup.not_mem_erase nl)
    ·exact h2
   ·refine z x (fY _ hx) fun hl=>nx ?_
    exact (List.mem_erase_of_ne (fun e:x=c=>nd.1 (e▸hx))).mpr hl
  ·rw [cX,dF,z c (jy ..) h,oC]
   exact uE (p:=p) nd.2 nl (fun x hx=>(cH.mp (sub x hx)).resolve_left fun e=>h (e▸hx)) fun x hx nx=>z x (fY _ hx) nx
section
variable {q:Int} {M:aX} {D:Nat→Int} {o:List Nat} {n:Nat} {L:aR} {g:Nat→List Nat}
def rS(M:aX)(o:List Nat)(g:Nat→List Nat)(C:List Nat)(m:Nat)(a:Nat→Int)(p l:Nat):Int:=aI M (cO o (o.idxOf p)) (M p) m*a p-(((g p).take l).map fun j=>aI M (cO o (o.idxOf p)) (M p) j*dM M C m j).sum
theorem VT(hq:aF q)(ho:o.Perm (List.range n))(gd:cV q M (cO o n))(zero:∀a b,a<n→b<n→a≠b→¬aL n L a b→M a b=0){p:Nat}(hp:p<n)(dP:ju n o p (g p)∧iY n L o p (g p)){m:Nat}(hm:m∉cO o n) :
  aI M (cO o (o.idxOf p)) (M p) p*dM M (cO o n) m p+((g p).map fun j=>aI M (cO o (o.idxOf p)) (M p) j*dM M (cO o n) m j).sum=aK M (cO o n)*aI M (cO o (o.idxOf p)) (M p) m:=by
 have lo:=gL ho;have kl:=(gr ((dY ho).mpr hp)).1;have nd:(cO o n).Nodup:=by
  unfold cO;rw [tV (by lia)]
  exact (xH _).nodup_iff.mpr (iA ho)
 have mem:∀c,c∈cO o n↔c<n:=fun c=>by rw [dr ho];exact ⟨fun h=>h.1,fun h=>⟨h,by have:=(gr ((dY ho).mpr h)).1;lia⟩⟩
 have sub:∀r∈cO o (o.idxOf p),r∈cO o n:=fun r hr=>(mem r).mpr ((dr ho).mp hr).1;have Fb:(g p).Nodup:=dP.1.up.imp (fun h=>dR h);have pg:p∉g p:=fun zz=>by have:=dP.1.la p zz;lia
 rw [←Lr hq gd nd hm sub ((mem p).mpr hp),uE (p:=p) (l:=p::g p) nd (j4.mpr ⟨pg,Fb⟩) (fun c hc=>?_) fun c hc nc=>?_,cX,dF]
 ·rcases cH.mp hc with rfl | hc
  ·exact (mem _).mpr hp
  ·exact (mem _).mpr (dP.1.lt c hc)
 ·rw [cH,not_or] at nc
  have cn:=(mem c).mp hc;by_cases h:c∈cO o (o.idxOf p);·rw [Be h,fj]
  ·have ci:o.idxOf p<o.idxOf c:=by have h1:¬o.idxOf c<o.idxOf p:=fun z=>h ((dr ho).mpr ⟨cn,z⟩);have h2:=uz ho cn hp nc.1;lia
   have pc:p∉cO o (o.idxOf p):=fun z=>by have:=((dr ho).mp z).2;lia
   rw [o_ hq zero (pb gd (by lia)) (fun c hc=>((dr ho).mp hc).1) p c hp cn pc h (Ne.symm nc.1) fun w=>nc.2 ((dP.2 c).mpr ⟨cn,ci,w.mono fun x hx=>(dr ho).mp hx⟩),fj]
theorem VU{X:Nat}(hq:aF q)(ho:o.Perm (List.range n))(gd:cV q M (cO o n))(hD:∀i,¬q∣D i)(zero:∀a b,a<n→b<n→a≠b→¬aL n L a b→M a b=0)(dP:∀p,p<n→ju n o p (g p)∧iY n L o p (g p))
  (b1:∀p l,p<n→l≤(g p).length→(rS M o g (cO o n) n (fun _=>aK M (cO o n)) p l).natAbs≤X∧(D p*aK M (cO o (o.idxOf p))*aK M (cO o n)).natAbs≤X) (b2:∀p,(dM M (cO o n) n p).natAbs≤X∧(aK M (cO o n)).natAbs≤X) :
  E7 q X n (sT M D o n) (sU M D o n) g o (sL M o n n) (sW M D o n) (dM M (cO o n) n) (fun _=>aK M (cO o n)) (rS M o g (cO o n) n fun _=>aK M (cO o n)) (fun p _=>D p*aK M (cO o (o.idxOf p))*aK M (cO o n)):=by
 have lo:=gL ho;have lt:∀{p},p∈o→p<n∧o.idxOf p<n:=fun{p} hp=>⟨(dY ho).mp hp,by have:=(gr hp).1;lia⟩
 have up:∀{p},p∈o→∀j,o.idxOf p≤o.idxOf j→sT M D o n p j=aI M (cO o (o.idxOf p)) (M p) j∧sU M D o n p j=D p*aK M (cO o (o.idxOf p)):=fun{p} hp j h=>by
  have h1:¬(n≤o.idxOf p∧n≤o.idxOf j):=by have:=(lt hp).2;lia
  unfold sT sU;rw [ao h1,ai h,ao h1,ai h];exact ⟨rfl,rfl⟩
 have dz:∀j,j≤n→¬q∣aK M (cO o j):=fun j hj=>nV hq (pb gd hj);have lw:∀{p},p∈o→sL M o n n p=aI M (cO o (o.idxOf p)) (M p) n∧sW M D o n p=D p*aK M (cO o (o.idxOf p)):=fun{p} hp=>by
  have:=(lt hp).2;unfold sL sW;rw [Nat.min_eq_right (by lia)]
  exact ⟨rfl,rfl⟩
 have VV:n∉cO o n:=fun z=>by have:=((dr ho).mp z).1;lia
 refine ⟨fun p hp=>?_,fun p hp l j hj=>?_,fun p hp=>?_,fun p hp l=>?_,fun p=>dz n (aE _),fun p hp=>?_,⟨fun p hp l hl=>b1 p l (lt hp).1 hl,b2⟩,fun p hp h=>absurd ((dY ho).mpr hp) h⟩
 ·rw [(lw hp).1,(lw hp).2]
  refine Cg.of_eq ?_;unfold rS;simp;grind
 ·have jm:=gT hj
  have jl:=(dP p (lt hp).1).1.la j jm;rw [(up hp j (by lia)).1,(up hp j (by lia)).2]
  unfold rS;rw [take_snoc hj,m4,zY,List.map_singleton,List.sum_singleton];exact Cg.of_eq (by grind)
 ·rw [(up hp p (aE _)).1,(up hp p (aE _)).2]
  have VW:=VT hq ho gd zero (lt hp).1 (dP p (lt hp).1) VV;unfold rS;rw [k4];exact Cg.of_eq (by grind)
 ·exact gN hq (gN hq (hD p) (dz _ (by have:=(lt hp).2;lia))) (dz n (aE _))
 ·rw [(up hp p (aE _)).1]
  have:=dz (o.idxOf p+1) (by have:=(lt hp).2;lia)
  have kl:=(gr hp).1
  rwa [uD kl,(gr hp).2] at this
end
section
variable {q:Int} {M:aX} {D:Nat→Int} {o:List Nat} {n:Nat} {L:aR} {g:Nat→List Nat}
def b9(M:aX)(o:List Nat)(k t c:Nat):Int:=if c=t then aK M (cO o k) else if o.idxOf c<k then -dM M (cO o k) t c else 0
def mS(M:aX)(o:List Nat)(g:Nat→List Nat)(k t p l:Nat):Int:=-(((g p).take l).map fun j=>aI M (cO o (o.idxOf p)) (M p) j*b9 M o k t j).sum
variable {t:Nat}
theorem VX(hq:aF q)(ho:o.Perm (List.range n))(ht:t<n)(it:o.idxOf t=k)(gd:cV q M (cO o k))(zero:∀a b,a<n→b<n→a≠b→¬aL n L a b→M a b=0){p:Nat}(hp:p<n)(pk:o.idxOf p<k)(dP:ju n o p (g p)∧iY n L o p (g p)) :
  aI M (cO o (o.idxOf p)) (M p) p*b9 M o k t p+((g p).map fun j=>aI M (cO o (o.idxOf p)) (M p) j*b9 M o k t j).sum=0:=by
 have lo:=gL ho;have all:∀c,c∈List.range n↔c<n:=fun c=>fB;have LA:(cO o k).Nodup:=by unfold cO;exact (xH _).nodup_iff.mpr ((xt k o).nodup (iA ho))
 have tC:t∉cO o k:=fun z=>by have:=((dr ho).mp z).2;lia
 have Fb:(g p).Nodup:=dP.1.up.imp (fun h=>dR h);have pg:p∉g p:=fun zz=>by have:=dP.1.la p zz;lia
 have e1:((List.range n).map fun c=>aI M (cO o (o.idxOf p)) (M p) c*b9 M o k t c).sum=((p::g p).map fun c=>aI M (cO o (o.idxOf p)) (M p) c*b9 M o k t c).sum:=uE (p:=p) Ab (j4.mpr ⟨pg,Fb⟩) (fun c hc=>(all c).mpr (by
   rcases cH.mp hc with rfl | hc;·exact hp
   ·exact dP.1.lt c hc)) fun c hc nc=>by
  rw [cH,not_or] at nc;have cn:=(all c).mp hc;by_cases h:c∈cO o (o.idxOf p);·rw [Be h,fj]
  ·have ci:o.idxOf p<o.idxOf c:=by have h1:¬o.idxOf c<o.idxOf p:=fun z=>h ((dr ho).mpr ⟨cn,z⟩);have h2:=uz ho cn hp nc.1;lia
   have pc:p∉cO o (o.idxOf p):=fun z=>by have:=((dr ho).mp z).2;lia
   rw [o_ hq zero (pb gd (by lia)) (fun c hc=>((dr ho).mp hc).1) p c hp cn pc h (Ne.symm nc.1) fun w=>nc.2 ((dP.2 c).mpr ⟨cn,ci,w.mono fun x hx=>(dr ho).mp hx⟩),fj]
 have e2:((List.range n).map fun c=>aI M (cO o (o.idxOf p)) (M p) c*b9 M o k t c).sum=((t::cO o k).map fun c=>aI M (cO o (o.idxOf p)) (M p) c*b9 M o k t c).sum:=uE (p:=p) Ab (j4.mpr ⟨tC,LA⟩) (fun c hc=>(all c).mpr (by
   rcases cH.mp hc with rfl | hc;·exact ht
   ·exact ((dr ho).mp hc).1)) fun c hc nc=>by
  rw [cH,not_or] at nc;have cn:=(all c).mp hc;have:¬o.idxOf c<k:=fun z=>nc.2 ((dr ho).mpr ⟨cn,z⟩);unfold b9;rw [ao nc.1,ao this,dE]
 rw [←dF,←cX (f:=fun j=>aI M (cO o (o.idxOf p)) (M p) j*b9 M o k t j),←e1,e2,cX,dF];have e3:((cO o k).map fun c=>aI M (cO o (o.idxOf p)) (M p) c*b9 M o k t c).sum=-((cO o k).map fun c=>aI M (cO o (o.idxOf p)) (M p) c*dM M (cO o k) t c).sum:=by
  have:((cO o k).map fun c=>aI M (cO o (o.idxOf p)) (M p) c*b9 M o k t c)=(cO o k).map fun c=>-1*(aI M (cO o (o.idxOf p)) (M p) c*dM M (cO o k) t c):=m5 fun c hc=>by have h1:c≠t:=fun z=>tC (z▸hc);unfold b9;rw [ao h1,ai ((dr ho).mp hc).2];grind
  rw [this,qF];lia
 rw [e3,Lr hq gd LA tC (fun r hr=>(dr ho).mpr ⟨((dr ho).mp hr).1,by have:=((dr ho).mp hr).2;lia⟩) ((dr ho).mpr ⟨hp,pk⟩)]
 unfold b9;rw [ai rfl];grind
theorem VY{X:Nat}(hq:aF q)(ho:o.Perm (List.range n))(ht:t<n)(it:o.idxOf t=k)(gd:cV q M (cO o k))(hD:∀i,¬q∣D i)(zero:∀a b,a<n→b<n→a≠b→¬aL n L a b→M a b=0)(dP:∀p,p<n→ju n o p (g p)∧iY n L o p (g p))
  (b1:∀p l,p<n→l≤(g p).length→(mS M o g k t p l).natAbs≤X∧(D p*aK M (cO o (o.idxOf p))*aK M (cO o k)).natAbs≤X) (b2:∀p,(b9 M o k t p).natAbs≤X∧(aK M (cO o k)).natAbs≤X) :
  E7 q X n (sT M D o k) (sU M D o k) g (o.take k) (fun i=>if i=t then aK M (cO o k) else 0) (fun _=>aK M (cO o k)) (b9 M o k t) (fun _=>aK M (cO o k)) (mS M o g k t) (fun p _=>D p*aK M (cO o (o.idxOf p))*aK M (cO o k)):=by
 have lo:=gL ho;have lt:∀{p},p∈o.take k→p<n∧o.idxOf p<k:=fun{p} hp=>(uC ho).mp hp;have up:∀{p},p∈o.take k→∀j,o.idxOf p≤o.idxOf j→sT M D o k p j=aI M (cO o (o.idxOf p)) (M p) j∧sU M D o k p j=D p*aK M (cO o (o.idxOf p)):=fun{p} hp j h=>by
  have h1:¬(k≤o.idxOf p∧k≤o.idxOf j):=by have:=(lt hp).2;lia
  unfold sT sU;rw [ao h1,ai h,ao h1,ai h];exact ⟨rfl,rfl⟩
 have dz:∀j,j≤k→¬q∣aK M (cO o j):=fun j hj=>nV hq (pb gd hj);refine ⟨fun p hp=>?_,fun p hp l j hj=>?_,fun p hp=>?_,fun p hp l=>?_,fun p=>dz k (aE _),fun p hp=>?_,⟨fun p hp l hl=>b1 p l (lt hp).1 hl,b2⟩,fun p hp h=>⟨?_,rfl⟩⟩
 ·have:p≠t:=fun z=>by have:=(lt hp).2;rw [z] at this;lia
  unfold mS;simp [this];exact Cg.refl _
 ·have jm:=gT hj
  have jl:=(dP p (lt hp).1).1.la j jm;rw [(up hp j (by lia)).1,(up hp j (by lia)).2]
  unfold mS;rw [take_snoc hj,m4,zY,List.map_singleton,List.sum_singleton];exact Cg.of_eq (by grind)
 ·rw [(up hp p (aE _)).1,(up hp p (aE _)).2]
  have VW:=VX (M:=M) hq ho ht it gd zero (lt hp).1 (lt hp).2 (dP p (lt hp).1);unfold mS;rw [k4];exact Cg.of_eq (by grind)
 ·exact gN hq (gN hq (hD p) (dz _ (by have:=(lt hp).2;lia))) (dz k (aE _))
 ·rw [(up hp p (aE _)).1]
  have:=dz (o.idxOf p+1) (by have:=(lt hp).2;lia)
  have pm:p∈o:=List.mem_of_mem_take hp;have kl:=(gr pm).1
  rwa [uD kl,(gr pm).2] at this
 ·have:¬o.idxOf p<k:=fun z=>h ((uC ho).mpr ⟨hp,z⟩)
  unfold b9;by_cases e:p=t;·rw [ai e,ai e]
  ·rw [ao e,ao e,ao this]
end
def VZ(C:Addr):Sp:=fun vs H Q _=>∃(z wk ot d:Addr) (q:Int) (X n k t:Nat) (L:aR) (o:List Nat) (M:aX) (D:Nat→Int) (rs ls:Nat→Addr) (vf:Nat→Nat→V) (g:Nat→List Nat),vs=[.ref z,.ref wk,.ref ot,.ref d,.int ((k:Int)+1)]∧dj C H z q∧aF q∧n≤40∧WTab H wk n rs vf∧ft X H q n vf (sT M D o k) (sU M D o k)∧uy H ot n ls g∧(∀p,p<n→ju n o p (g p)∧iY n L o p (g p))∧H d=some (.lst (cQ o))∧o.Perm (List.range n)∧t<n∧o.idxOf t=k∧cV q M (cO o k)∧(∀i,¬q∣D i)∧(∀a b,a<n→b<n→a≠b→¬aL n L a b→M a b=0)∧1000≤X∧X≤10 ^ 140∧(∀k i j,k≤n→(sT M D o k i j).natAbs≤X∧(sU M D o k i j).natAbs≤X) ∧
 (∀p l,p<n→l≤(g p).length→(mS M o g k t p l).natAbs≤X∧(D p*aK M (cO o (o.idxOf p))*aK M (cO o k)).natAbs≤X)∧(∀p,(b9 M o k t p).natAbs≤X∧(aK M (cO o k)).natAbs≤X) ∧
 ∀(r:Addr) (lv:Nat→V) (H':Hp),ag H H'→H r=none→fA H' r n lv→(∀i,i<n→bM X H' q (lv i) (b9 M o k t i) (aK M (cO o k)))→Q (.ref r) H'
structure Fe (q:Int) (n X:Nat) (H:Hp) (e:Addr) (av:Nat→V) (o:List Nat) (M:aX) (D:Nat→Int):Prop where
 row:fA H e n av
 qG:∀i,i<n→bM X H q (av i) (M i n) (D i)
 bl:∀k i,k≤n→(sL M o n k i).natAbs≤X∧(sW M D o k i).natAbs≤X
 bo:∀(g:Nat→List Nat),(∀p,p<n→(g p).length≤n)→∀p l,p<n→l≤(g p).length→(rS M o g (cO o n) n (fun _=>aK M (cO o n)) p l).natAbs≤X∧(D p*aK M (cO o (o.idxOf p))*aK M (cO o n)).natAbs≤X
 bc:∀p,(dM M (cO o n) n p).natAbs≤X∧(aK M (cO o n)).natAbs≤X
 bt:∀(g:Nat→List Nat),(∀p,p<n→(g p).length≤n)→∀k t p l,k<n→p<n→l≤(g p).length→(mS M o g k t p l).natAbs≤X∧(D p*aK M (cO o (o.idxOf p))*aK M (cO o k)).natAbs≤X
 bm:∀k t p,k<n→(b9 M o k t p).natAbs≤X∧(aK M (cO o k)).natAbs≤X
def V0(C:Addr):Sp:=fun vs H Q _=>∃(z a d e:Addr) (q:Int) (B X n:Nat) (ay:iI) (o:List Nat) (M:aX) (D:Nat→Int) (av:Nat→V),vs=[.ref z,.ref a,.ref d,.ref e]∧dj C H z q∧aF q∧lI B H q a ay∧B≤10 ^ 140∧ay.length=n∧1≤n∧n≤40∧(∀ps∈ay,ps.length=n)∧H d=some (.lst (cQ o))∧o.Perm (List.range n)∧Bk q n X ay o M D∧Fe q n X H e av o M D ∧
 (∀(k:Nat) (hk:k<o.length),cV q M (cO o k)→q∣aI M (cO o k) (M o[k]) o[k]→∀(tp r:Addr) (lv:Nat→V) (H':Hp),ag H H'→H r=none→H tp=none→H' tp=some (.tup [.str (Str.ofString "stops"),.int ((k:Int)+1),.ref r])→fA H' r n lv→(∀i,i<n→bM X H' q (lv i) (b9 M o k o[k] i) (aK M (cO o k)))→Q (.ref tp) H') ∧
 (cV q M (cO o n)→∀(tp r:Addr) (lv:Nat→V) (g:Nat→List Nat) (H':Hp),ag H H'→H r=none→H tp=none→(∀p,p<n→ju n o p (g p)∧iY n (eQ n (dq ay) n) o p (g p))→H' tp=some (.tup [.str (Str.ofString "one"),.ref r,.int (E4 n g:Int)])→fA H' r n lv→(∀i,i<n→bM X H' q (lv i) (dM M (cO o n) n i) (aK M (cO o n)))→Q (.ref tp) H')
theorem V1{r:List V→Hp→VK→Prop}{te:TE}{tr:TA}{σ:St}{Q:List V→Hp→Prop}(h:te σ H fun x H1=>r [x] H1 fun y H2=>tr σ H2 fun ys H3=>Q (y::ys) H3):ql (Ap r (ql te oK)) tr σ H Q:=h
variable {b:Int}
theorem LB(hq:aF q)(nb:¬q∣b)(h:q∣b*x):q∣x:=z_ fun nx=>yt hq nb nx h
theorem V2{a:Int}(ho:uj H q v a b)(hq:aF q)(nb:¬q∣b)(ba:a.natAbs≤B)(bb:b.natAbs≤B):∃p:Int×Int,bC B H q v p.1 p.2∧gI q p (a,b):=by
 rcases ho with ⟨rfl,r,rfl,e⟩ | ⟨q2,r,rfl,r0,r1,er⟩
 ·have hb:b≠0:=fun z=>nb (z▸j7 0)
  obtain ⟨l,w,b1,b2⟩:=J1 (a:=a) hb;exact ⟨(jn a b,jo a b),.bA e l (aj b1 ba) (aj b2 bb),⟨0,by dsimp only;lia⟩⟩
 ·have q3:q≤997:=by rcases hq with h | h <;> lia
  refine ⟨(r,1),.rem r0 r1 q3,?_⟩;show q∣r*b-a*1;have h1:Cg q (r*(b % q)) a:=(nO q _).symm.trans (er▸nO q a);have h2:Cg q (r*b) (r*(b % q)):=((nO q b).mulL r).symm;have h3:=h2.trans h1;rw [d7];exact h3
theorem LC(ps:aR):∀n k,qz ps n≤k→k<n→(ps.getD k o1).1=0
 | 0,_,_,h=>by lia
 | n+1,k,h1,h2=>by
  unfold qz at h1;by_cases z:(ps.getD n o1).1=0
  ·rw [ai z] at h1
   by_cases e:k=n;·rw [e];exact z
   ·exact LC ps n k h1 (by lia)
  ·rw [ao z] at h1
   lia
theorem V3(ps:aR):(Er ps).length=qz ps ps.length:=by unfold Er;rw [kY];have:=Kr ps ps.length;lia
variable {ps:aR}
theorem af3(h:(Er ps).length≤k):(ps.getD k o1).1=0:=by
 rw [V3] at h;by_cases hk:k<ps.length;·exact LC ps ps.length k h hk
 ·rw [ED (by lia)];rfl
theorem LD{t f D:Int}{p:Int×Int}{T:Nat}(hq:aF q)(hT:1000≤T)(hc:Canon q p)(e:t*p.2=p.1*b)(ok:cT q b)(kI:cT q D)(db:b∣D)(w:gI q p (f,D))(bf:f.natAbs≤T):t.natAbs≤T:=by
 by_cases z:q=0
 ·subst z
  have hp:=(hc.bot).1 rfl;have hb:=ok.1 rfl;have hD:=kI.1 rfl;obtain ⟨k,ek⟩:=w;have e2:p.1*D=f*p.2:=by dsimp only at ek;omega
  have e3:t*D=f*b:=by
   have:(t*D)*p.2=(f*b)*p.2:=by rw [Int.mul_right_comm,e,Int.mul_right_comm,e2,Int.mul_right_comm]
   exact zX (show p.2≠0 by lia) this
  have e4:t.natAbs*D.natAbs=f.natAbs*b.natAbs:=by rw [←b_,e3,b_]
  have e5:b.natAbs≤D.natAbs:=uu db (by lia)
  have e6:t.natAbs*D.natAbs≤f.natAbs*D.natAbs:=by rw [e4];exact kZ _ e5
  exact aj (Nat.le_of_mul_le_mul_right e6 (by lia)) bf
 ·have e1:=(hc.2 z)
  have q3:q≤997:=by rcases hq with h | h <;> lia
  rw [e1.1,ok.2 z] at e;lia
theorem bK.yI{a:Addr}(h:bK B H q a ps):∀p∈ps,Canon q p:=fun p hp=>by
 obtain ⟨vs,e,l,k⟩:=h;obtain ⟨i,hi,rfl⟩:=k6 hp;have hv:i<vs.length:=by lia
 exact (k i vs[i] ps[i] (by simp [hv]) (by simp [hi])).canon
theorem V4(hq:aF q):Canon q o1:=⟨fun _=>⟨by decide,by decide⟩,fun z=>⟨rfl,by decide,by rcases hq with h | h;exact absurd h z;show (0:Int)<q;lia⟩⟩
theorem LF(hq:aF q)(h:∀p∈ps,Canon q p)(k:Nat):Canon q (ps.getD k o1):=by
 by_cases hk:k<ps.length;·rw [getD_at hk];exact h _ (dD _)
 ·rw [ED (by lia)];exact V4 hq
theorem Bl{q:Int}{F:Nat}(hF:1≤F):∀(xs:aR),(∀p∈xs,cT q p.2∧p.2.natAbs≤F)→∃D:Int,cT q D∧(∀p∈xs,p.2∣D)∧D.natAbs≤F ^ xs.length∧∀p∈xs,D.natAbs≤p.2.natAbs*F ^ (xs.length-1)
 | [],_=>⟨1,cT.one,fun p hp=>by simp at hp,by simp,fun p hp=>by simp at hp⟩
 | x::xs,h=>by
  obtain ⟨D,h1,h2,h3,h4⟩:=Bl hF xs (fun p hp=>h p (fY _ hp));have hx:=h x jy;refine ⟨x.2*D,hx.1.mul h1,fun p hp=>?_,?_,fun p hp=>?_⟩
  ·rcases cH.mp hp with e | e
   ·rw [e];exact Int.dvd_mul_right ..
   ·exact jA (h2 p e) (pN ..)
  ·rw [b_,d8,k7,iG]
   exact cq h3 hx.2
  ·rw [b_,d8,i8]
   rcases cH.mp hp with e | e;·rw [e];exact kZ _ h3
   ·have l:1≤xs.length:=List.length_pos_of_mem e
    refine aj (cq hx.2 (h4 p e)) (mP ?_);rw [show xs.length=xs.length-1+1 by lia,k7,i8]
    rw [pR,iG F]
theorem Ff{α:Type}{N:Nat}{F:Nat→α}{d:α}(hk:k<N):((List.range N).map F).getD k d=F k:=by rw [getD_at (by simpa using hk),gC,jC]
end My
namespace L2
open PySem PySem.Spec PyProof.Rows
end L2
namespace My
open PySem L2
variable {q a b:Int}
theorem Cg.mul{c d:Int}(h1:Cg q a b)(h2:Cg q c d):Cg q (a*c) (b*d):=(h1.mulR c).trans (h2.mulL b)
theorem Cg.LG(h:Cg q a b)(n:¬q∣a):¬q∣b:=h.symm.nz n
variable {B:Nat} {r:Int→Int}
theorem yJ(h:∀d,(r d).natAbs≤B)(k:Nat):(aH k r).natAbs≤cF k*B ^ k:=by
 have:=uw (List.range k) (eO r) fun i c=>h _
 rwa [cK] at this
theorem uF(h:∀d,(r d).natAbs≤B)(k j:Nat):(b5 k r j).natAbs≤cF (k-1)*B ^ (k-1):=by
 have:=uw ((List.range (k-1)).map fun c=>c+1) (bw j (eO r)) fun i c=>by
  unfold bw
  split <;> exact h _
 rw [aG,cK] at this;unfold b5;rw [b_,show (sgn j).natAbs=1 by unfold sgn;split <;> rfl,tU]
 exact this
end My
namespace L2
open PySem PySem.Spec PyProof.Rows
section
variable {X:Cx} {e:Expr} {te:TE} {pos p2:Pos}
end
end L2
namespace My
open PySem L2
def V5(B:Nat)(H0 H:Hp)(q:Int)(r:Addr)(N:Nat)(f:Nat→List (Int×Int)):Prop:=∃vs:List V,H r=some (.lst vs)∧vs.length=N∧∀(i:Nat) (v:V),vs[i]?=some v→∃x:Addr,v=.ref x∧x≠r∧H0 x=none∧bK B H q x (f i)
def gu(ps:aR)(n i:Nat):List (Int×Int):=(List.range n).map fun j=>ps.getD (ps.length / 2+i-j) o1
def qH(n:Nat):Prop:=n % 2=0∨80≤n
def V6(N:Addr):Sp:=fun vs H Q E=>∃(a:Addr) (xs:List V),vs=[.ref a]∧H a=some (.lst xs)∧xs.length≤1000∧(qH xs.length→E (.ref N) none H)∧(¬qH xs.length→Q (.int (((xs.length+1) / 2:Nat):Int)) H)
def V7(N:Addr):Sp:=fun vs H Q E=>∃(n:Nat) (a:Addr) (xs:List V),vs=[.int (n:Int),.ref a]∧H a=some (.lst xs)∧(xs.length≠n→E (.ref N) none H)∧(xs.length=n→Q .bh H)
def V8:Sp:=fun vs H Q _=>∃(a:Addr) (q:Int) (ps:aR) (B n i:Nat),vs=[.ref a,.int (i:Int),.int (n:Int)]∧bK B H q a ps∧ps.length=2*n-1∧1≤n∧n≤40∧i<n∧∀(r:Addr) (H':Hp),ag H H'→H r=none→bK B H' q r (gu ps n i)→Q (.ref r) H'
def V9(N:Addr):Sp:=fun vs H Q E=>∃(z:V) (a:Addr) (xs:List V),vs=[z,.ref a]∧H a=some (.lst xs)∧xs.length≤1000∧(qH xs.length→E (.ref N) none H) ∧
 (¬qH xs.length→∃(q:Int) (ps:aR) (B:Nat),bK B H q a ps∧∀(r:Addr) (H':Hp),ag H H'→H r=none→V5 B H H' q r ((ps.length+1) / 2) (gu ps ((ps.length+1) / 2))→Q (.ref r) H')
theorem Bm(ps:aR)(n i:Nat):(gu ps n i).length=n:=by simp [gu]
def bL(ts:List Int):Int→Int:=fun d=>if 0≤((ts.length / 2:Nat):Int)+d then ts.getD (((ts.length / 2:Nat):Int)+d).toNat 0 else 0
variable {M:Nat} {ts:List Int}
theorem V_(h:∀x∈ts,x.natAbs≤M)(d:Int):(bL ts d).natAbs≤M:=by
 unfold bL
 split
 ·exact qB h _
 ·exact cN _
structure cG (q:Int) (r:Int→Int) (k:Nat) (fs bs:List Int) (aJ last:Int):Prop where
 k1:1≤k
 lf:fs.length=k
 lb:bs.length=k
 f:∀j,j<k→Cg q (fs.getD j 0) (b5 k r j)
 b:∀j,j<k→Cg q (bs.getD j 0) (b5 k (bj r) (k-1-j))
 m:Cg q aJ (aH k r)
 l:Cg q last (aH (k-1) r)
 nz:∀m,m<k→¬q∣aH m r
 rf:q≠0→∀x∈fs,0≤x∧x<q
 rb:q≠0→∀x∈bs,0≤x∧x<q
 rm:q≠0→0≤aJ∧aJ<q
 rl:q≠0→0≤last∧last<q
variable {b:Int}
theorem mH{a:Int}(h:Cg 0 a b):a=b:=by have:=j_.mp h;lia
variable {q:Int}
theorem yK(hq:aF q)(z:q≠0):2≤q∧q≤997:=by rcases hq with h | h <;> lia
variable {r:Int→Int}
theorem cG.start(hq:aF q)(hr:q≠0→0≤r 0∧r 0<q):cG q r 1 [1] [1] (r 0) 1 where
 k1:=aE 1
 lf:=rfl
 lb:=rfl
 f:=fun j hj=>by
  obtain rfl:j=0:=by lia
  rw [yz (aE 1)];exact Cg.refl 1
 b:=fun j hj=>by
  obtain rfl:j=0:=by lia
  show Cg q 1 (b5 1 (bj r) 0);rw [yz (aE 1)];exact Cg.refl 1
 m:=by rw [EB];exact Cg.refl _
 l:=Cg.refl 1
 nz:=fun m hm=>by
  obtain rfl:m=0:=by lia
  exact cT.one.nz hq
 rf:=fun z x hx=>by have:=yK hq z;rw [gA.mp hx];lia
 rb:=fun z x hx=>by have:=yK hq z;rw [gA.mp hx];lia
 rm:=hr
 rl:=fun z=>by have:=yK hq z;lia
variable {k:Nat} {aJ last:Int}
theorem cG.ne{fs bs:List Int}(h:cG q r k fs bs aJ last)(n:¬q∣aJ):∀m,m<k+1→¬q∣aH m r:=fun m hm=>by
 rcases Nat.lt_or_ge m k with z | z;·exact h.nz m z
 ·rw [show m=k by lia]
  exact h.m.LG n
theorem mI{a:Int}(h:¬q∣a):a≠0:=fun e=>h (e▸gB q)
def kJ(r:Int→Int)(fs:List Int):Int:=ah fs.length fun j=>r ((fs.length:Int)-(j:Int))*fs.getD j 0
def kK(r:Int→Int)(bs:List Int):Int:=ah bs.length fun j=>r (-1-(j:Int))*bs.getD j 0
theorem cG.down{fs bs:List Int}(h:cG q r k fs bs aJ last):Cg q (kJ r fs) (topDown k r):=by unfold kJ topDown;rw [h.lf];exact o6 fun j hj=>(h.f j hj).mulL _
theorem cG.up{fs bs:List Int}(h:cG q r k fs bs aJ last):Cg q (kK r bs) (topDown k (bj r)):=by unfold kK;rw [←KH,h.lb];exact o6 fun j hj=>(h.b j hj).mulL _
variable {j:Nat}
theorem cG.fx{fs bs:List Int}(h:cG q r k fs bs aJ last)(hj:j<k+1):Cg q ((fs++[0]).getD j 0) (fR k r j):=by
 unfold fR;by_cases z:j<k
 ·rw [ai z,d9,ic (by rw [h.lf];exact z),←d9]
  exact h.f j z
 ·rw [ao z,d9,gS (by rw [h.lf];lia),h.lf,show j-k=0 by lia]
  exact Cg.refl 0
theorem cG.bx{fs bs:List Int}(h:cG q r k fs bs aJ last)(hj:j<k+1):Cg q (([0]++bs).getD j 0) (fq k r j):=by
 unfold fq;cases j with
 | zero=>exact Cg.refl 0
 | succ j=>
  rw [ao (by lia),show k-(j+1)=k-1-j by lia]
  exact h.b j (by lia)
theorem cG.Wa{fs bs:List Int}(h:cG q r k fs bs aJ last)(n:¬q∣aJ)(hj:j<k+1):Cg q (aJ*(fs++[0]).getD j 0-kJ r fs*([0]++bs).getD j 0) (last*b5 (k+1) r j):=by refine ((h.m.mul (h.fx hj)).sub (h.down.mul (h.bx hj))).trans ?_;rw [Uq h.k1 (fun m hm=>mI (h.ne n m hm)) hj];exact (h.l.mulR _).symm
theorem cG.Wb{fs bs:List Int}(h:cG q r k fs bs aJ last)(n:¬q∣aJ)(hj:j<k+1):Cg q (aJ*([0]++bs).getD j 0-kK r bs*(fs++[0]).getD j 0) (last*b5 (k+1) (bj r) (k-j)):=by refine ((h.m.mul (h.bx hj)).sub (h.up.mul (h.fx hj))).trans ?_;rw [Ur h.k1 (fun m hm=>mI (h.ne n m hm)) hj];exact (h.l.mulR _).symm
theorem cG.We{fs bs:List Int}(h:cG q r k fs bs aJ last)(n:¬q∣aJ):Cg q (aJ*aJ-kJ r fs*kK r bs) (last*aH (k+1) r):=by refine ((h.m.mul h.m).sub (h.down.mul h.up)).trans ?_;rw [Us h.k1 (fun m hm=>mI (h.ne n m hm))];exact (h.l.mulR _).symm
variable {gs cs:List Int}
theorem cG.next{fs bs:List Int}{more:Int}(h:cG q r k fs bs aJ last)(n:¬q∣aJ)(lg:gs.length=k+1)(lc:cs.length=k+1)(hg:∀j,j<k+1→Cg q (gs.getD j 0) (b5 (k+1) r j))(hc:∀j,j<k+1→Cg q (cs.getD j 0) (b5 (k+1) (bj r) (k-j)))(hm:Cg q more (aH (k+1) r))
  (rg:q≠0→∀x∈gs,0≤x∧x<q) (rc:q≠0→∀x∈cs,0≤x∧x<q) (rm:q≠0→0≤more∧more<q):cG q r (k+1) gs cs more aJ where
 k1:=by lia
 lf:=lg
 lb:=lc
 f:=hg
 b:=hc
 m:=hm
 l:=h.m
 nz:=h.ne n
 rf:=rg
 rb:=rc
 rm:=rm
 rl:=h.rm
structure fU (q:Int) (r:Int→Int) (G M h:Nat):Prop where
 r:∀d,(r d).natAbs≤M
 w:q≠0→M≤1000
 dc:h<40
 mG:M≤G
 G1:10 ^ 8≤G
 G2:G≤10 ^ 300
 f:q=0→cF h*M ^ h≤G
 M1:1≤M
theorem kL{a b:Nat}(hM:1≤M)(h:a≤b):cF a*M ^ a≤cF b*M ^ b:=cq (KR h) (tQ hM h)
variable {x:Int}
theorem jX(hq:aF q)(z:q≠0)(h:0≤x∧x<q):x.natAbs≤1000:=by have:=yK hq z;lia
variable {G h:Nat}
theorem fU.fs{fs bs:List Int}(B:fU q r G M h)(I:cG q r k fs bs aJ last)(hq:aF q)(hk:k≤h+1):∀x∈fs,x.natAbs≤G:=fun x hx=>by
 by_cases z:q=0
 ·subst z
  obtain ⟨j,hj,rfl⟩:=k6 hx;have e:=mH (I.f j (by rw [←I.lf];exact hj))
  rw [getD_at hj] at e;rw [e];exact aj (uF B.r k j) (aj (kL B.M1 (by lia)) (B.f rfl))
 ·exact aj (jX hq z (I.rf z x hx)) (aj (by decide) B.G1)
theorem fU.bs{fs bs:List Int}(B:fU q r G M h)(I:cG q r k fs bs aJ last)(hq:aF q)(hk:k≤h+1):∀x∈bs,x.natAbs≤G:=fun x hx=>by
 by_cases z:q=0
 ·subst z
  obtain ⟨j,hj,rfl⟩:=k6 hx;have e:=mH (I.b j (by rw [←I.lb];exact hj))
  rw [getD_at hj] at e;rw [e];exact aj (uF (fun d=>B.r (-d)) k _) (aj (kL B.M1 (by lia)) (B.f rfl))
 ·exact aj (jX hq z (I.rb z x hx)) (aj (by decide) B.G1)
theorem fU.mu{fs bs:List Int}(B:fU q r G M h)(I:cG q r k fs bs aJ last)(hq:aF q)(hk:k≤h):aJ.natAbs≤G:=by
 by_cases z:q=0
 ·subst z
  rw [mH I.m];exact aj (yJ B.r k) (aj (kL B.M1 hk) (B.f rfl))
 ·exact aj (jX hq z (I.rm z)) (aj (by decide) B.G1)
theorem fU.la{fs bs:List Int}(B:fU q r G M h)(I:cG q r k fs bs aJ last)(hq:aF q)(hk:k≤h+1):last.natAbs≤G:=by
 by_cases z:q=0
 ·subst z
  rw [mH I.l];exact aj (yJ B.r _) (aj (kL B.M1 (by lia)) (B.f rfl))
 ·exact aj (jX hq z (I.rl z)) (aj (by decide) B.G1)
theorem fU.LH{fs bs:List Int}(B:fU q r G M h)(I:cG q r k fs bs aJ last)(hq:aF q)(hk:k≤h+1):aJ.natAbs≤40*M*G:=by
 by_cases z:q=0
 ·subst z
  rw [mH I.m];refine aj (yJ B.r k) (aj (kL B.M1 hk) ?_);show (h+1)*cF h*M ^ (h+1)≤_;rw [k7];have e:(h+1)*cF h*(M ^ h*M)=(h+1)*M*(cF h*M ^ h):=by simp only [mY,pR,iG]
  rw [e];have:=B.dc;exact cq (pQ M (by lia)) (B.f rfl)
 ·refine aj (jX hq z (I.rm z)) (aj (aj (by decide) B.G1) (jB _ ?_))
  have:=B.M1;lia
variable {f:Nat→Int}
theorem Fg{N:Nat}(hk:k≤40){g:Nat→Int}(hf:∀j,j<k→(f j).natAbs≤M)(hg:∀j,j<k→(g j).natAbs≤N):(ah k fun j=>f j*g j).natAbs≤40*(M*N):=
 aj (qA k _ fun j hj=>by rw [b_];exact cq (hf j hj) (hg j hj)) (pQ _ hk)
theorem fU.dn{fs bs:List Int}(B:fU q r G M h)(I:cG q r k fs bs aJ last)(hq:aF q)(hk:k≤h):(kJ r fs).natAbs≤G:=by
 have Wf:=B.dc;have k1:=I.k1;by_cases z:q=0
 ·subst z
  rw [mH I.down];unfold topDown;refine aj (qA k _ (M:=M*(cF (k-1)*M ^ (k-1))) fun j _=>by rw [b_];exact cq (B.r _) (uF B.r k j)) (aj (mP ?_) (aj (kL B.M1 hk) (B.f rfl)))
  obtain ⟨m,rfl⟩:∃m,k=m+1:=⟨k-1,by lia⟩
  rw [i8];show _=(m+1)*cF m*M ^ (m+1);rw [k7];simp only [mY,pR,iG]
 ·unfold kJ
  have lf:=I.lf;refine aj (Fg (M:=1000) (N:=1000) (by lia) (fun j _=>aj (B.r _) (B.w z)) fun j hj=>?_) (aj (by decide) B.G1)
  exact qB (fun x hx=>jX hq z (I.rf z x hx)) j
theorem fU.Wg{fs bs:List Int}(B:fU q r G M h)(I:cG q r k fs bs aJ last)(hq:aF q)(hk:k≤h):(kK r bs).natAbs≤G:=by
 have Wf:=B.dc;have k1:=I.k1;by_cases z:q=0
 ·subst z
  rw [mH I.up];unfold topDown;refine aj (qA k _ (M:=M*(cF (k-1)*M ^ (k-1))) fun j _=>by rw [b_];exact cq (B.r _) (uF (fun d=>B.r (-d)) k j)) (aj (mP ?_) (aj (kL B.M1 hk) (B.f rfl)))
  obtain ⟨m,rfl⟩:∃m,k=m+1:=⟨k-1,by lia⟩
  rw [i8];show _=(m+1)*cF m*M ^ (m+1);rw [k7];simp only [mY,pR,iG]
 ·unfold kK
  have lb:=I.lb;refine aj (Fg (M:=1000) (N:=1000) (by lia) (fun j _=>aj (B.r _) (B.w z)) fun j hj=>?_) (aj (by decide) B.G1)
  exact qB (fun x hx=>jX hq z (I.rb z x hx)) j
theorem LI:∀(n:Nat) (ts us:List Int),ts.length=n→us.length=n→Kk ts us=ah n fun j=>ts.getD j 0*us.getD j 0
 | 0,[],[],_,_=>rfl
 | n+1,t::ts,u::us,h1,h2=>by
  have:=LI n ts us (by simpa using h1) (by simpa using h2)
  unfold Kk at *;show t*u+(List.zipWith (· * ·) ts us).sum=t*u+ah n fun j=>ts.getD j 0*us.getD j 0;rw [this]
def Wh:Sp:=fun vs H Q _=>∃(a b:Addr) (ts us:List Int),vs=[.ref a,.ref b]∧H a=some (.lst (ts.map V.int))∧H b=some (.lst (us.map V.int))∧ts.length=us.length∧ts.length≤100∧(∀t∈ts,a8 t)∧(∀t∈us,a8 t)∧∀H':Hp,ag H H'→Q (.int (ah us.length fun j=>ts.getD j 0*us.getD j 0)) H'
def Wi:Sp:=fun vs H Q _=>∃(a:Addr) (ts:List Int) (i:Int) (n:Nat),vs=[.ref a,.int i,.int (n:Int)]∧H a=some (.lst (ts.map V.int))∧ts.length≤100∧n≤100∧-100≤i∧i≤100∧(∀j:Nat,j<n→0≤((ts.length / 2:Nat):Int)+i-j∧((ts.length / 2:Nat):Int)+i-j<ts.length)∧∀(r:Addr) (H':Hp),ag H H'→H r=none→H' r=some (.lst (((List.range n).map fun(j:Nat)=>bL ts (i-j)).map V.int))→Q (.ref r) H'
def Wj(C:Addr):Sp:=fun vs H Q _=>∃(z a:Addr) (q:Int) (ts:List Int) (b:Int) (u:Nat→Int),vs=[.ref z,.ref a,.int b]∧dj C H z q∧aF q∧H a=some (.lst (ts.map V.int))∧ts.length≤500∧(∀t∈ts,a8 t)∧a8 b∧¬q∣b∧(∀i,i<ts.length→Cg q (ts.getD i 0) (b*u i)) ∧
 ∀(c:Addr) (H':Hp) (rs:List Int),ag H H'→H c=none→H' c=some (.lst (rs.map V.int))→rs.length=ts.length→(∀i,i<ts.length→Cg q (rs.getD i 0) (u i))→(q≠0→∀x∈rs,0≤x∧x<q)→Q (.ref c) H'
def qI(l:Addr)(H:Hp)(v:V)(fs bs:List Int)(aJ:Int):Prop:=∃p f b:Addr,v=.ref p∧H p=some (.tup [.ref f,.ref b,.int aJ])∧H f=some (.lst (fs.map V.int))∧H b=some (.lst (bs.map V.int))∧p≠l∧f≠l∧b≠l
variable {l:Addr} {H H':Hp} {v:V}
theorem qI.mono{fs bs:List Int}(h:qI l H v fs bs aJ)(s:ag H H'):qI l H' v fs bs aJ:=by obtain ⟨p,f,b,e,e1,e2,e3,n⟩:=h;exact ⟨p,f,b,e,s _ _ e1,s _ _ e2,s _ _ e3,n⟩
theorem qI.put{fs bs:List Int}{o:HO}(h:qI l H v fs bs aJ):qI l (upd H l o) v fs bs aJ:=by obtain ⟨p,f,b,e,e1,e2,e3,n1,n2,n3⟩:=h;exact ⟨p,f,b,e,by rw [a9 n1];exact e1,by rw [a9 n2];exact e2,by rw [a9 n3];exact e3,n1,n2,n3⟩
def Wl(C:Addr):Sp:=fun vs H Q _=>∃(z a p f b:Addr) (q:Int) (ts fs bs:List Int) (aJ last:Int) (G M h k:Nat),vs=[.ref z,.ref a,.ref p,.int last]∧dj C H z q∧aF q∧H a=some (.lst (ts.map V.int))∧ts.length=2*h+1∧H p=some (.tup [.ref f,.ref b,.int aJ])∧H f=some (.lst (fs.map V.int))∧H b=some (.lst (bs.map V.int))∧cG q (bL ts) k fs bs aJ last∧fU q (bL ts) G M h∧k≤h∧¬q∣aJ ∧
 ∀(p' f' b':Addr) (gs cs:List Int) (more:Int) (H':Hp),ag H H'→H p'=none→H f'=none→H b'=none→H' p'=some (.tup [.ref f',.ref b',.int more])→H' f'=some (.lst (gs.map V.int))→H' b'=some (.lst (cs.map V.int))→cG q (bL ts) (k+1) gs cs more aJ→Q (.ref p') H'
structure kM (l:Addr) (H:Hp) (q:Int) (r:Int→Int) (h:Nat) (vs:List V) (fF bF:Nat→List Int) (mF:Nat→Int):Prop where
 at':∀(i:Nat) (v:V),vs[i]?=some v→qI l H v (fF i) (bF i) (mF i)∧∃last,cG q r (i+1) (fF i) (bF i) (mF i) last
 len:1≤vs.length∧vs.length≤h+1
def Wm(C:Addr):Sp:=fun vs H Q _=>∃(z a:Addr) (q:Int) (ts:List Int) (G M h:Nat),vs=[.ref z,.ref a]∧dj C H z q∧aF q∧H a=some (.lst (ts.map V.int))∧ts.length=2*h+1∧fU q (bL ts) G M h∧(q≠0→∀x∈ts,0≤x∧x<q) ∧
 ∀(l:Addr) (vs:List V) (fF bF:Nat→List Int) (mF:Nat→Int) (H':Hp),ag H H'→H l=none→H' l=some (.lst vs)→kM l H' q (bL ts) h vs fF bF mF→(vs.length<h+1→q∣aH vs.length (bL ts))→Q (.ref l) H'
theorem cG.yL{fs bs:List Int}(h:cG q r k fs bs aJ last)(n:aJ≠0):¬q∣aJ:=fun d=>by
 by_cases z:q=0
 ·subst z
  exact n (j_.mp d)
 ·have:=h.rm z
  have:=xB (by lia) d
  lia
theorem cG.Fh{fs bs:List Int}(h:cG q r k fs bs 0 last):q∣aH k r:=by have:=h.m;unfold Cg at this;rw [oB] at this;exact Int.dvd_neg.mp this
variable {fF bF:Nat→List Int} {mF:Nat→Int}
theorem kM.push{p f b:Addr}{vs:List V}{more:Int}(P:kM l H q r h vs fF bF mF)(hl:vs.length≤h)(ep:H p=some (.tup [.ref f,.ref b,.int more]))(ef:H f=some (.lst (gs.map V.int)))(eb:H b=some (.lst (cs.map V.int)))(np:p≠l)(nf:f≠l)(nb:b≠l)(I:cG q r (vs.length+1) gs cs more last) :
  kM l (upd H l (.lst (vs++[.ref p]))) q r h (vs++[.ref p]) (fun i=>if i=vs.length then gs else fF i) (fun i=>if i=vs.length then cs else bF i) (fun i=>if i=vs.length then more else mF i) where
 at':=fun i v hv=>by
  rcases Nat.lt_or_ge i vs.length with z | z
  ·rw [ic z] at hv
   rw [ao (by lia),ao (by lia),ao (by lia)]
   obtain ⟨h1,h2⟩:=P.at' i v hv;exact ⟨h1.put,h2⟩
  ·have hi:i=vs.length:=by have:=(b6.mp hv).1;rw [eL,mR] at this;lia
   subst hi;rw [gS (aE _),mV] at hv;cases hv;rw [ai rfl,ai rfl,ai rfl];exact ⟨⟨p,f,b,rfl,by rw [a9 np];exact ep,by rw [a9 nf];exact ef,by rw [a9 nb];exact eb,np,nf,nb⟩,last,I⟩
 len:=by rw [eL,mR];lia
theorem kM.mono{vs:List V}(P:kM l H q r h vs fF bF mF)(s:ag H H'):kM l H' q r h vs fF bF mF where
 at':=fun i v hv=>⟨(P.at' i v hv).1.mono s,(P.at' i v hv).2⟩
 len:=P.len
structure Bn (q:Int) (ps:aR) (D:Int) (f:Nat→Int) (T h:Nat):Prop where
 len:ps.length=2*h+1
 dc:h<40
 ok:cT q D
 dvd:∀p∈ps,p.2∣D
 bD:D.natAbs≤10 ^ 60
 T1:1000≤T
 T2:T≤10 ^ 60
 w:∀i,i<2*h+1→gI q (ps.getD i o1) (f i,D)∧(f i).natAbs≤T
 g:q=0→cF h*T ^ h≤10 ^ 160
variable {i:Nat}
theorem kM.Wn{vs:List V}(P:kM l H q r h vs fF bF mF)(hi:i+1<vs.length):mF i≠0:=fun z=>by
 obtain ⟨_,_,I⟩:=P.at' i vs[i] (by simp [show i<vs.length by lia])
 obtain ⟨_,_,I'⟩:=P.at' (i+1) vs[i+1] (by simp [hi])
 rw [z] at I;exact I'.nz (i+1) (by lia) I.Fh
variable {ps:aR} {B:Nat}
theorem Bn.bd{D:Int}{T:Nat}(g:Bn q ps D f T h)(hq:aF q)(hc:∀p∈ps,Canon q p)(wd:A6 q ps ts b D B):fU q (bL ts) (10 ^ 160) (if q=0 then T else 1000) h∧(q≠0→∀x∈ts,0≤x∧x<q):=by
 have each:∀x∈ts,x.natAbs≤T∧(q≠0→0≤x∧x<q):=fun x hx=>by
  obtain ⟨i,hi,rfl⟩:=k6 hx;have cf:i<ps.length:=by rw [←wd.len];exact hi
  have e:=(wd.each i cf).1;have c:=hc _ (dD cf);rw [getD_at hi,getD_at cf] at e;have w:=g.w i (by rw [←g.len];exact cf)
  rw [getD_at cf] at w;refine ⟨LD hq g.T1 c e wd.ok g.ok wd.dvd w.1 w.2,fun z=>?_⟩;have c2:=c.2 z;rw [c2.1,wd.ok.2 z,d7,d7] at e;rw [e];exact c2.2
 have T1:=g.T1;refine ⟨⟨fun d=>?_,fun z=>by rw [ao z];exact aE _,g.dc,?_,by decide +kernel,by decide +kernel,fun z=>by rw [ai z];exact g.g z,by split <;> lia⟩,fun z x hx=>(each x hx).2 z⟩
 ·refine V_ (fun x hx=>?_) d
  by_cases z:q=0;·rw [ai z];exact (each x hx).1
  ·rw [ao z];exact jX hq z ((each x hx).2 z)
 ·split
  ·exact aj g.T2 (by decide +kernel)
  ·decide +kernel
theorem Wo{y M N:Int}{p:Int×Int}(hq:aF q)(nM:¬q∣M)(h:gI q p (x*b,M))(hx:Cg q x y)(hm:Cg q M N):gI q p (y*b,N):=by
 obtain ⟨k,e⟩:=h;obtain ⟨k1,e1⟩:=hx;obtain ⟨k2,e2⟩:=hm;dsimp only at e;refine ⟨k-p.1*k2+k1*b*p.2,?_⟩;dsimp only;have ey:y=x-q*k1:=by lia
 have en:N=M-q*k2:=by lia
 rw [ey,en];grind
variable {c:TT} {t u:TS} {D:Ends} {σ:St}
theorem yM(M:St→Hp→Prop)(hM:∀σ H,M σ H→D.nx σ H)(k:∀R:St→Hp→Prop,(∀σ H,M σ H→R σ H)→xU c t u {D with nx:=R} σ H):xU c t u D σ H:=k D.nx hM
def cp(h:Nat):Nat:=[10 ^ 12,10 ^ 12,100,100,9,9].getD (min h 5) 9
theorem uH(h:Nat):4≤cp h∧cp h≤10 ^ 20:=by
 unfold cp;have:min h 5≤5:=by lia
 generalize min h 5=m at this
 match m,this with
 | 0,_=>exact ⟨by decide,by decide⟩
 | 1,_=>exact ⟨by decide,by decide⟩
 | 2,_=>exact ⟨by decide,by decide⟩
 | 3,_=>exact ⟨by decide,by decide⟩
 | 4,_=>exact ⟨by decide,by decide⟩
 | 5,_=>exact ⟨by decide,by decide⟩
 | n+6,h=>lia
theorem Wq(h:Nat):d5 ([.int (10 ^ 12),.int (10 ^ 12),.int 100,.int 100,.int 9,.int 9]:List V) (min (h:Int) 5)=some (.int (cp h:Int)):=by
 unfold cp;rw [show min (h:Int) 5=((min h 5:Nat):Int) by lia]
 have:min h 5≤5:=by lia
 generalize min h 5=m at this
 match m,this with
 | 0,_=>rfl
 | 1,_=>rfl
 | 2,_=>rfl
 | 3,_=>rfl
 | 4,_=>rfl
 | 5,_=>rfl
 | n+6,h=>lia
variable {F:Nat}
theorem Bo{i:Int}(h:bC B H q v (iw q i).1 (iw q i).2)(hi:i.natAbs≤F)(hF:1≤F):bC F H q v (iw q i).1 (iw q i).2:=by
 by_cases z:q=0
 ·subst z
  have e:iw 0 i=(i,1):=rfl;rw [e] at h ⊢;cases h with
  | bA e l bx bm=>exact .bA e l hi (by show Int.natAbs 1≤F;lia)
  | rem h0 h1 h2=>lia
 ·generalize hp:(iw q i).1=x at h ⊢
  generalize hm:(iw q i).2=m at h ⊢;cases h with
  | bA e l bx bm=>exact absurd rfl z
  | rem h0 h1 h2=>exact .rem h0 h1 h2
variable {P a:Addr}
theorem Fi{wi:TI}{ρ:St→St}{te:TE}{Q:VK}{n:Nat}(hn:n<sizeLine)
  (hE:∀R:It→Hp→Prop,(∀(H1:Hp),aQ P H H1→cJ H1 P a→R (l9 0 n) H1)→wi σ H R)
  (Pr:Addr→Nat→V→Hp→Prop) (mono:∀D i y Hc H' ys,Pr D i y Hc→Hc D=some (.lst ys)→D≠P→(∀b o,b≠D→b≠P→Hc b=some o→H' b=some o)→Pr D i y H')
  (step:∀(D:Addr) (i:Nat),i<n→∀(Hc:Hp) (R:VK),aQ P H Hc→cJ Hc P a→(∃ys,Hc D=some (.lst ys))→D≠P→(∀y H3,aQ P Hc H3→cJ H3 P a→Pr D i y H3→R y H3)→te (some (.int (0+(i:Int)))::ρ σ) Hc R)
  (fin:∀(D:Addr) (ys:List V) (Hc:Hp),D≠P→er P H D=none→aQ P H Hc→cJ Hc P a→ys.length=n→(∀(i:Nat) (y:V),ys[i]?=some y→Pr D i y Hc)→Hc D=some (.lst ys)→Q (.ref D) Hc):jO wi ρ (fun _ H Q=>Q true H) te σ H Q:=by
 refine hE _ fun H1 s1 p1=>?_;intro D nD;have nP:=p1.ne nD;refine ⟨fun i m ys Hc=>m=n-i∧i≤n∧Hc D=some (.lst ys)∧aQ P H1 Hc∧cJ Hc P a∧ys.length=i∧∀j y,ys[j]?=some y→Pr D j y Hc,⟨_,rfl,cN _,az,(aQ.refl H1).but nD,p1.upd nP,rfl,fun j y e=>by simp at e⟩,?_⟩
 rintro i m ys Hc ⟨rfl,hi,eD,sH,pc,el,hP⟩;refine ⟨eD,?_⟩;by_cases cI:i<n
 ·refine .inr ⟨cI,fun x H' hy=>?_⟩
  obtain ⟨rfl,rfl⟩:=hy;rw [ai rfl];refine step D i (by lia) _ _ (s1.trans sH) pc ⟨ys,eD⟩ nP fun y H3 s3 p3 hp=>?_
  have e3:=s3.at nP eD;refine ⟨e3,by lia,n-(i+1),by lia,rfl,cI,az,(sH.trans s3).but nD,p3.upd nP,by simp [el],fun j y' e=>?_⟩
  have cm:∀b o,b≠D→b≠P→H3 b=some o→upd H3 D (.lst (ys++[y])) b=some o:=fun b o nb _ e=>by rw [a9 nb];exact e
  by_cases hj:j<i
  ·have e':ys[j]?=some y':=by rw [ic (by lia)] at e;exact e
   refine mono D j y' H' _ ys (hP j y' e') eD nP fun b o nb np e=>?_;exact cm b o nb np (s3.at np e)
  ·have hj:j=i:=by have:=(b6.mp e).1;simp at this;lia
   subst hj;have e':y'=y:=by rw [gS (by lia),el,mV] at e;simpa using e.symm
   subst e';exact mono D _ _ H3 _ ys hp e3 nP cm
 ·have e:i=n:=by lia
  subst e;exact .inl ⟨aE _,fin D ys Hc nP (none_of s1 (by rw [nJ nP];exact nD)) (s1.trans sH) pc el hP eD⟩
def lJ(P:Addr)(H H':Hp)(q:Int)(r:Addr)(h F:Nat):Prop:=r≠P∧er P H r=none∧∃vs:List V,H' r=some (.lst vs)∧vs.length=2*h+1∧∀(i:Nat) (v:V),vs[i]?=some v→∃xm:Int×Int,bC F (er P H') q v xm.1 xm.2
theorem lJ.put{Hx:Hp}{r:Addr}{vs:List V}{xm:Int×Int}(n:r≠P)(f:er P H r=none)(e:Hx r=some (.lst vs))(l:vs.length=2*h+1)(hP:∀(i:Nat) (v:V),vs[i]?=some v→∃xm:Int×Int,bC F (er P Hx) q v xm.1 xm.2)(s:aQ P H Hx)(p:cJ Hx P a)(g:bC F (er P Hx) q v xm.1 xm.2) :
  aQ P H (upd Hx r (.lst (vs.set i v)))∧cJ (upd Hx r (.lst (vs.set i v))) P a∧lJ P H (upd Hx r (.lst (vs.set i v))) q r h F:=by
 have cm:∀b o,b≠r→b≠P→Hx b=some o→upd Hx r (.lst (vs.set i v)) b=some o:=fun b o nb _ e=>by rw [a9 nb];exact e
 refine ⟨s.but (by rw [nJ n] at f;exact f),p.upd n,n,f,_,az,by rw [List.length_set];exact l,fun j w hw=>?_⟩
 by_cases z:j=i
 ·subst z
  have hj:j<vs.length:=by have:=(b6.mp hw).1;rw [List.length_set] at this;exact this
  rw [Dd hj] at hw;cases hw;exact ⟨_,g.ur e cm⟩
 ·rw [List.getElem?_set_ne (by lia)] at hw
  obtain ⟨xm',g'⟩:=hP j w hw;exact ⟨_,g'.ur e cm⟩
structure Wr (q:Int) (ps:aR) (D:Int) (f:Nat→Int) (T h:Nat):Prop where
 g:Bn q ps D f T h
 Fj:D.natAbs≤10 ^ 36
 Fl:T≤10 ^ 36
 s:q=0→cF h*(10 ^ 20*T) ^ h≤10 ^ 160
theorem Ws(h5:h≤5):1000≤cp h ^ (2*h+1)∧cp h ^ (2*h+1)≤10 ^ 36∧cF h*(10 ^ 20*cp h ^ (2*h+1)) ^ h≤10 ^ 160:=by
 match h,h5 with
 | 0,_=>exact ⟨by decide +kernel,by decide +kernel,by decide +kernel⟩
 | 1,_=>exact ⟨by decide +kernel,by decide +kernel,by decide +kernel⟩
 | 2,_=>exact ⟨by decide +kernel,by decide +kernel,by decide +kernel⟩
 | 3,_=>exact ⟨by decide +kernel,by decide +kernel,by decide +kernel⟩
 | 4,_=>exact ⟨by decide +kernel,by decide +kernel,by decide +kernel⟩
 | 5,_=>exact ⟨by decide +kernel,by decide +kernel,by decide +kernel⟩
 | n+6,h=>lia
theorem Wt(hq:aF q)(dc:h<40)(h5:q=0→h≤5)(l:ps.length=2*h+1)(hR:bK (cp h) H q a ps):∃(D:Int) (f:Nat→Int) (T:Nat),Wr q ps D f T h:=by
 have fk:=uH h;have hc:=hR.yI;by_cases z:q=0
 ·subst z
  have sz:=Ws (h5 rfl);obtain ⟨D,kI,yN,uI,qJ⟩:=Bl (F:=cp h) (by lia) ps (hR.yx (by lia))
  rw [l] at uI qJ;rw [i8] at qJ;have hD:=kI.1 rfl;have Fm:∀p∈ps,p.1.natAbs≤cp h:=fun p hp=>by
   obtain ⟨vs,ea,lv,fv⟩:=hR;obtain ⟨i,hi,rfl⟩:=k6 hp;have hv:=fv i vs[i] ps[i] (by simp [show i<vs.length by lia]) (by simp [hi])
   generalize ps[i]=p at hv;obtain ⟨x,m⟩:=p;generalize vs[i]=v at hv;cases hv with
   | bA e l bx bm=>exact bx
   | rem h0 h1 h2=>lia
  refine ⟨D,fun i=>(ps.getD i o1).1*(D / (ps.getD i o1).2),cp h ^ (2*h+1),⟨⟨l,dc,kI,yN,aj uI (aj sz.2.1 (by decide +kernel)),sz.1,aj sz.2.1 (by decide +kernel),fun i hi=>?_,fun _=>aj ?_ sz.2.2⟩,aj uI sz.2.1,sz.2.1,fun _=>sz.2.2⟩⟩
  ·have cf:i<ps.length:=by lia
   rw [getD_at cf];have pm:=dD cf;obtain ⟨m',em⟩:=yN _ pm;have m0:ps[i].2≠0:=fun e=>by rw [e,fj] at em;lia
   have ed:D / ps[i].2=m':=by rw [em];exact f9 _ m0
   rw [ed];refine ⟨⟨0,by dsimp only;rw [em];grind⟩,?_⟩
   have b1:=Fm _ pm;have b2:=qJ _ pm;rw [em,b_] at b2;have b3:m'.natAbs≤cp h ^ (2*h):=Dk b2 (j6.mpr m0);rw [b_,k7,iG];exact cq b3 b1
  ·exact kZ _ (Nat.pow_le_pow_left (jB _ (by decide)) _)
 ·refine ⟨1,fun i=>(ps.getD i o1).1,1000,⟨⟨l,dc,cT.one,fun p hp=>?_,by decide,aE _,by decide +kernel,fun i hi=>?_,fun e=>absurd e z⟩,by decide,by decide +kernel,fun e=>absurd e z⟩⟩
  ·rw [((hc p hp).2 z).1]
   exact j7 1
  ·have c:=(LF hq hc i).2 z
   refine ⟨⟨0,by dsimp only;rw [c.1];lia⟩,?_⟩
   exact jX hq z c.2
theorem Wu(q:Int):(lH q).prime=if q=0 then .bh else .int q:=by
 unfold lH
 split <;> rfl
theorem Wv(hc:∀Q:Bool→Hp→Prop,(∀b,Q b H)→c σ H Q)(ht:t D σ H)(hu:u D σ H):xU c t u D σ H:=hc _ fun b=>by
 cases b with
 | true=>rw [ai rfl];exact ht
 | false=>rw [ao dZ];exact hu
end My
namespace L2
open PySem
end L2
namespace My
open PySem L2
structure Ww (q:Int) (ps xs:aR) (h k:Nat) (r:Int→Int) (b:Int) (x:Nat→Int) (M:Int) (R X:Nat):Prop where
 len:ps.length=2*h+1
 dc:h<40
 lx:xs.length=k
 kh:k≤h+1
 nb:¬q∣b
 nM:¬q∣M
 w:∀i,i<2*h+1→gI q (ps.getD i o1) (r ((i:Int)-(h:Int)),b)
 v:∀j,j<k→gI q (xs.getD j o1) (x j,M)
 bR:∀d,(r d).natAbs≤R
 bX:∀j,j<k→(x j).natAbs≤X
 s:40*(R*X)≤10 ^ 300
 t:(b*M).natAbs≤10 ^ 300
def de(r:Int→Int)(x:Nat→Int)(i k:Nat):Int:=ah k fun j=>r ((i:Int)-(j:Int))*x j
structure LJ (q:Int) (h:Nat) (r:Int→Int) (b:Int):Prop where
 bR:∀d,(r d).natAbs≤10 ^ 60
 bb:b.natAbs≤10 ^ 60
 bF:q=0→∀k j,k≤h+1→(b5 k r j).natAbs≤10 ^ 160∧(b5 k (bj r) j).natAbs≤10 ^ 160
 bD:q=0→∀k,k≤h+1→(aH k r).natAbs≤10 ^ 222
variable {q b:Int} {r:Int→Int} {h:Nat}
theorem fU.grow{T:Nat}(B:fU q r (10 ^ 160) (if q=0 then T else 1000) h)(hT:T≤10 ^ 60)(hb:b.natAbs≤10 ^ 60):LJ q h r b:=by
 have yO:(if q=0 then T else 1000)≤10 ^ 60:=by
  split
  ·exact hT
  ·decide +kernel
 have M1:=B.M1;refine ⟨fun d=>aj (B.r d) yO,hb,fun z k j hk=>⟨?_,?_⟩,fun z k hk=>?_⟩;·exact aj (uF B.r k j) (aj (kL M1 (by lia)) (B.f z))
 ·exact aj (uF (fun d=>B.r (-d)) k j) (aj (kL M1 (by lia)) (B.f z))
 ·refine aj (yJ B.r k) (aj (kL M1 hk) ?_)
  show (h+1)*cF h*_ ^ (h+1)≤_;rw [k7];have e:∀M:Nat,(h+1)*cF h*(M ^ h*M)=(h+1)*M*(cF h*M ^ h):=fun M=>by simp only [mY,pR,iG]
  rw [e];have:=B.dc;exact aj (cq (cq (show h+1≤40 by lia) yO) (B.f z)) (by decide +kernel)
variable {ps:aR}
theorem Wx(rep:∀i,i<2*h+1→r ((i:Int)-(h:Int))*(ps.getD i o1).2=(ps.getD i o1).1*b):∀i,i<2*h+1→gI q (ps.getD i o1) (r ((i:Int)-(h:Int)),b):=fun i hi=>⟨0,by have:=rep i hi;dsimp only;lia⟩
structure LK (q:Int) (ps:aR) (h k:Nat) (xs:aR) (r:Int→Int) (b:Int):Prop where
 ok:cT q b
 rep:∀i,i<2*h+1→r ((i:Int)-(h:Int))*(ps.getD i o1).2=(ps.getD i o1).1*b
 k1:1≤k
 kh:k≤h+1
 nz:∀m,m<k→¬q∣aH m r
 z:q∣aH k r
 lx:xs.length=k
 w:∀j,j<k→gI q (xs.getD j o1) (b5 k (bj r) (k-1-j),aH (k-1) r)
 B:LJ q h r b
theorem Wy{xs:List V}{v:V}(h1:1≤xs.length)(h:xs[xs.length-1]?=some v):d5 xs (-1)=some v:=by
 have ne:xs≠[]:=fun e=>by rw [e] at h1;simp at h1
 have e:xs=xs.dropLast++[v]:=by
  have g:xs.getLast ne=v:=by
   rw [List.getLast_eq_getElem];have:=gW (l:=xs) (i:=xs.length-1) (by lia)
   rw [this] at h;exact Option.some.inj h
  rw [←g];exact (List.dropLast_concat_getLast ne).symm
 rw [e];exact Js _ _
theorem LL{ts:List Int}{D:Int}{B:Nat}(wd:A6 q ps ts b D B)(lp:ps.length=2*h+1):∀i,i<2*h+1→bL ts ((i:Int)-(h:Int))*(ps.getD i o1).2=(ps.getD i o1).1*b:=fun i hi=>by
 have e:=(wd.each i (by lia)).1
 have em:bL ts ((i:Int)-(h:Int))=ts.getD i 0:=by unfold bL;rw [wd.len,lp,show (2*h+1) / 2=h by lia,ai (by lia),show ((h:Int)+((i:Int)-(h:Int))).toNat=i by lia]
 rw [em];exact e
end My
namespace L2
open PySem PySem.Spec PyProof.Rows
end L2
namespace My
open PySem L2
theorem LM(j:Nat):sgn j*sgn j=1:=by unfold sgn;split <;> decide
theorem Wz(k:Nat)(r:Int→Int){j0:Nat}(hj:j0<k):∃y:Nat→Int,(∀c,c<k→(ah k fun i=>y i*r ((i:Int)-(c:Int)))=if c=j0 then aH k (bj r) else 0)∧∀M:Nat,(∀d,(r d).natAbs≤M)→∀i,(y i).natAbs≤cF (k-1)*M ^ (k-1):=by
 obtain ⟨xs,ys,e⟩:∃xs ys,List.range k=xs++j0::ys:=List.append_of_mem (fB.mpr hj);have lk:xs.length+ys.length+1=k:=by have:=eY List.length e;rw [cK,eL,d8] at this;lia
 have ed:aA (j0::(xs++ys)) (eO (bj r))=sgn xs.length*aH k (bj r):=by unfold aH;rw [e,Ez,←iH,LM,mX]
 have mem:∀c,c<k→c≠j0→c∈xs++ys:=fun c hc ne=>by
  have:=fB.mpr hc;rw [e] at this;rcases i7.mp this with h | h;·exact xn _ h
  ·rcases cH.mp h with h | h
   ·exact absurd h ne
   ·exact fC _ h
 refine ⟨fun i=>sgn xs.length*(sgn i*aA (xs++ys) (bw i (eO (bj r)))),fun c hc=>?_,fun M hM i=>?_⟩
 ·have e1:(ah k fun i=>sgn xs.length*(sgn i*aA (xs++ys) (bw i (eO (bj r))))*r ((i:Int)-(c:Int)))=sgn xs.length*aA (c::(xs++ys)) (eO (bj r)):=by
   rw [jU,eL,lk,cU];refine bZ fun i _=>?_;have:eO (bj r) i c=r ((i:Int)-(c:Int)):=by
    unfold eO bj
    congr 1
    lia
   rw [this];grind
  rw [e1];by_cases z:c=j0;·rw [ai z,z,ed,←iH,LM,mX]
  ·rw [ao z,nN c _ _ (mem c hc z),dE]
 ·have b:=uw (B:=M) (xs++ys) (bw i (eO (bj r))) fun a c=>by
   unfold bw
   split <;> exact hM _
  rw [eL,show xs.length+ys.length=k-1 by lia] at b
  rw [b_,b_];have s1:∀j,(sgn j).natAbs=1:=fun j=>by unfold sgn;split <;> rfl
  rw [s1,s1,tU,tU];exact b
variable {q:Int} {k M Y:Nat} {r:Int→Int} {y:Nat→Int}
theorem WA{D l:Int}{x:Nat→Int}(hq:aF q)(eD:aH k (bj r)=D)(nD:¬q∣D)(hr:∀d,(r d).natAbs≤M)(hy:∀i,i<k→(y i).natAbs≤Y)(hx:∀i,i<k→Cg q (de r x i k) (D*(l*y i))):∃u:Nat→Int,(∀j,j<k→Cg q (x j) (l*u j))∧∀j,j<k→(u j).natAbs≤k*(cF (k-1)*M ^ (k-1)*Y):=by
 have each:∀j,∃u:Int,j<k→Cg q (x j) (l*u)∧u.natAbs≤k*(cF (k-1)*M ^ (k-1)*Y):=fun j=>by
  by_cases hj:j<k
  ·obtain ⟨a,ha,ba⟩:=Wz k r hj
   refine ⟨ah k fun i=>a i*y i,fun _=>⟨?_,?_⟩⟩
   ·refine LB hq nD ?_
    have e1:(ah k fun i=>a i*de r x i k)=D*x j:=by
     unfold de;rw [←Ko k k a (fun i j=>r ((i:Int)-(j:Int))) x];rw [bZ (g:=fun c=>if c=j then D*x c else 0) fun c hc=>by
      rw [ha c hc,eD];by_cases z:c=j;·rw [ai z,ai z]
      ·rw [ao z,ao z,fj],A4 k j (fun c=>D*x c) hj]
    have e2:Cg q (ah k fun i=>a i*de r x i k) (ah k fun i=>a i*(D*(l*y i))):=o6 fun i hi=>(hx i hi).mulL _;have e3:(ah k fun i=>a i*(D*(l*y i)))=D*(l*ah k fun i=>a i*y i):=by rw [cU,cU];exact bZ fun i _=>by grind
    rw [e1,e3] at e2;rw [pS];exact e2
   ·refine qA k _ fun i hi=>?_
    rw [b_];exact cq (ba M hr i) (hy i hi)
  ·exact ⟨0,fun h=>absurd h hj⟩
 obtain ⟨u,hu⟩:=Classical.axiomOfChoice each;exact ⟨u,fun j hj=>(hu j hj).1,fun j hj=>(hu j hj).2⟩
structure lK (q:Int) (r:Int→Int) (y:Nat→Int) (W k:Nat) (aY:List Int) (last:Int):Prop where
 la:aY.length=k
 c:∀i,i<k→Cg q (de r (fun j=>aY.getD j 0) i k) (last*y i)
 l:Cg q last (aH k r)
 ra:q≠0→∀x∈aY,0≤x∧x<q
 rl:q≠0→0≤last∧last<q
 b:q=0→∀x∈aY,x.natAbs≤W
variable {W:Nat}
theorem lK.start(hq:aF q):lK q r y W 0 [] 1 where
 la:=rfl
 c:=fun i hi=>by lia
 l:=Cg.refl 1
 ra:=fun _ x hx=>by cases hx
 rl:=fun z=>by have:=yK hq z;lia
 b:=fun _ x hx=>by cases hx
def gQ(r:Int→Int)(y:Nat→Int)(aY:List Int)(last:Int):Int:=last*y aY.length-ah aY.length fun j=>r ((aY.length:Int)-(j:Int))*aY.getD j 0
variable {aY:List Int} {last aJ Bp:Int}
theorem lK.step{fs bs:List Int}(A:lK q r y W k aY last)(I:cG q r (k+1) fs bs aJ Bp)(hq:aF q)(nm:¬q∣aJ)(hr:∀d,(r d).natAbs≤M)(hy:∀i,i<k+1→(y i).natAbs≤Y) :
  ∃u:Nat→Int,(∀j,j<k+1→Cg q (aJ*(aY++[0]).getD j 0+gQ r y aY last*bs.getD j 0) (last*u j))∧∀j,j<k+1→(u j).natAbs≤(k+1)*(cF k*M ^ k*Y):=by
 have tD:aH (k+1) (bj r)=aH (k+1) r:=kC r (k+1) fun m hm=>mI (I.nz m hm);have nD:¬q∣aH (k+1) r:=I.m.LG nm;have z:=WA (k:=k+1) (r:=r) (x:=fun j=>aJ*(aY++[0]).getD j 0+gQ r y aY last*bs.getD j 0) (y:=y) (l:=last) (M:=M) (Y:=Y) hq tD nD hr hy fun i hi=>?_
 ·rw [i8] at z
  exact z
 have la:=A.la;have e1:de r (fun j=>aJ*(aY++[0]).getD j 0+gQ r y aY last*bs.getD j 0) i (k+1)=aJ*de r (fun j=>aY.getD j 0) i k+gQ r y aY last*de r (fun j=>bs.getD j 0) i (k+1):=by
  have a1:de r (fun j=>(aY++[0]).getD j 0) i (k+1)=de r (fun j=>aY.getD j 0) i k:=by
   unfold de;rw [jT];have z0:(aY++[0]).getD k 0=0:=by
    rw [d9,gS (by lia),show k-aY.length=0 by lia]
    rfl
   dsimp only;rw [z0,dE,mZ];refine bZ fun j hj=>?_;rw [d9,ic (by lia),←d9]
  rw [←a1];unfold de;rw [cU,cU,←jS];exact bZ fun j _=>by grind
 have cb:Cg q (de r (fun j=>bs.getD j 0) i (k+1)) (if i=k then aH (k+1) r else 0):=by
  have c1:Cg q (de r (fun j=>bs.getD j 0) i (k+1)) (ah (k+1) fun j=>r ((i:Int)-(j:Int))*b5 (k+1) (bj r) (k+1-1-j)):=o6 fun j hj=>(I.b j hj).mulL _;rw [A9 (by lia) r i hi,tD] at c1
  exact c1
 rw [e1];by_cases z:i=k
 ·subst z
  rw [ai rfl] at cb;have es:gQ r y aY last=last*y i-de r (fun j=>aY.getD j 0) i i:=by unfold gQ de;rw [la]
  refine ((I.m.mulR _).add (cb.mulL _)).trans ?_;rw [es];refine Cg.of_eq ?_;grind
 ·rw [ao z] at cb
  refine ((I.m.mul (A.c i (by lia))).add (cb.mulL _)).trans (Cg.of_eq ?_)
  grind
theorem lK.next{fs bs rs:List Int}(A:lK q r y W k aY last)(I:cG q r (k+1) fs bs aJ Bp)(hq:aF q)(nm:¬q∣aJ)(nl:¬q∣last){u:Nat→Int}(hu:∀j,j<k+1→Cg q (aJ*(aY++[0]).getD j 0+gQ r y aY last*bs.getD j 0) (last*u j))(lr:rs.length=k+1)(nY:∀j,j<k+1→Cg q (rs.getD j 0) (u j))(rr:q≠0→∀x∈rs,0≤x∧x<q)(bu:q=0→∀j,j<k+1→(u j).natAbs≤W)(hr:∀d,(r d).natAbs≤M)(hy:∀i,i<k+1→(y i).natAbs≤Y):lK q r y W (k+1) rs aJ where
 la:=lr
 c:=fun i hi=>by
  refine LB hq nl ?_;rw [pS];have tD:aH (k+1) (bj r)=aH (k+1) r:=kC r (k+1) fun m hm=>mI (I.nz m hm);have la:=A.la;have a1:de r (fun j=>(aY++[0]).getD j 0) i (k+1)=de r (fun j=>aY.getD j 0) i k:=by
   unfold de;rw [jT];have z0:(aY++[0]).getD k 0=0:=by
    rw [d9,gS (by lia),show k-aY.length=0 by lia]
    rfl
   dsimp only;rw [z0,dE,mZ];refine bZ fun j hj=>?_;rw [d9,ic (by lia),←d9]
  have cb:Cg q (de r (fun j=>bs.getD j 0) i (k+1)) (if i=k then aH (k+1) r else 0):=by
   have c1:Cg q (de r (fun j=>bs.getD j 0) i (k+1)) (ah (k+1) fun j=>r ((i:Int)-(j:Int))*b5 (k+1) (bj r) (k+1-1-j)):=o6 fun j hj=>(I.b j hj).mulL _;rw [A9 (by lia) r i hi,tD] at c1
   exact c1
  have e0:Cg q (last*de r (fun j=>rs.getD j 0) i (k+1)) (ah (k+1) fun j=>r ((i:Int)-(j:Int))*(aJ*(aY++[0]).getD j 0+gQ r y aY last*bs.getD j 0)):=by
   unfold de;rw [cU];refine o6 fun j hj=>?_;have:=((nY j hj).mulL last).trans (hu j hj).symm;have e:last*(r ((i:Int)-(j:Int))*rs.getD j 0)=r ((i:Int)-(j:Int))*(last*rs.getD j 0):=by grind
   rw [e];exact this.mulL _
  have e1:(ah (k+1) fun j=>r ((i:Int)-(j:Int))*(aJ*(aY++[0]).getD j 0+gQ r y aY last*bs.getD j 0))=aJ*de r (fun j=>aY.getD j 0) i k+gQ r y aY last*de r (fun j=>bs.getD j 0) i (k+1):=by rw [←a1];unfold de;rw [cU,cU,←jS];exact bZ fun j _=>by grind
  rw [e1] at e0;refine e0.trans ?_;by_cases z:i=k
  ·subst z
   rw [ai rfl] at cb;have es:gQ r y aY last=last*y i-de r (fun j=>aY.getD j 0) i i:=by unfold gQ de;rw [la]
   have WB:=cb.trans I.m.symm;refine ((Cg.refl _).add (WB.mulL _)).trans ?_;rw [es];refine Cg.of_eq ?_;grind
  ·rw [ao z] at cb
   refine (((A.c i (by lia)).mulL aJ).add (cb.mulL _)).trans (Cg.of_eq ?_)
   grind
 l:=I.m
 ra:=rr
 rl:=I.rm
 b:=fun z x hx=>by
  subst z;obtain ⟨j,hj,rfl⟩:=k6 hx;have e:=mH (nY j (by lia))
  rw [getD_at hj] at e;rw [e];exact bu rfl j (by lia)
def WC(C:Addr):Sp:=fun vs H Q _=>∃(z a l am:Addr) (q:Int) (ts ys:List Int) (ws:List V) (fF bF:Nat→List Int) (mF:Nat→Int) (M h Y:Nat),vs=[.ref z,.ref a,.ref l,.ref am]∧dj C H z q∧aF q∧H a=some (.lst (ts.map V.int))∧ts.length=2*h+1∧H l=some (.lst ws)∧kM l H q (bL ts) h ws fF bF mF∧ws.length=h+1∧mF h≠0∧H am=some (.lst (ys.map V.int))∧ys.length=h+1∧(∀x∈ys,x.natAbs≤Y)∧1000≤Y∧Y≤10 ^ 20∧M≤10 ^ 60∧fU q (bL ts) (10 ^ 160) M h ∧
 ∀(c:Addr) (aY:List Int) (H':Hp),ag H H'→H c=none→H' c=some (.lst (aY.map V.int))→lK q (bL ts) (fun i=>ys.getD i 0) (40*(10 ^ 160*Y)) (h+1) aY (mF h)→Q (.ref c) H'
structure LN (q:Int) (as:aR) (D:Int) (f:Nat→Int) (n:Nat):Prop where
 len:as.length=n
 ok:cT q D
 dvd:∀p∈as,p.2∣D
 bD:D.natAbs≤10 ^ 20
 w:∀i,i<n→gI q (as.getD i o1) (f i,D)∧(f i).natAbs≤10 ^ 20
structure Fn (q:Int) (ps as:aR) (h:Nat) (xs:aR) (r:Int→Int) (b:Int):Prop where
 ok:cT q b
 rep:∀i,i<2*h+1→r ((i:Int)-(h:Int))*(ps.getD i o1).2=(ps.getD i o1).1*b
 nz:∀m,m<h+2→¬q∣aH m r
 lx:xs.length=h+1
 WD:∃(x:Nat→Int) (M:Int),Ww q ps xs h (h+1) r b x M (10 ^ 36) (10 ^ 218)∧∀i,i<h+1→gI q (as.getD i o1) (de r x i (h+1),b*M)
def WE(C:Addr):Sp:=fun vs H Q _=>∃(z a m:Addr) (q:Int) (ps:aR) (D:Int) (f:Nat→Int) (T h:Nat) (as:aR) (Da:Int) (fa:Nat→Int),vs=[.ref z,.ref a,.ref m]∧dj C H z q∧aF q∧bK (10 ^ 150) H q a ps∧Bn q ps D f T h∧T≤10 ^ 36∧D.natAbs≤10 ^ 36∧bK (10 ^ 150) H q m as∧LN q as Da fa (h+1) ∧
 (∀(t mv:Addr) (xs:aR) (k:Nat) (r:Int→Int) (b:Int) (H':Hp),ag H H'→H t=none→H mv=none→H' t=some (.tup [.str "stops",.int (k:Int),.ref mv])→bK (10 ^ 230) H' q mv (mz xs (h+1))→LK q ps h k xs r b→Q (.ref t) H') ∧
 (∀(t mv:Addr) (xs:aR) (r:Int→Int) (b:Int) (H':Hp),ag H H'→H t=none→H mv=none→H' t=some (.tup [.str "one",.ref mv])→bK (10 ^ 260) H' q mv xs→Fn q ps as h xs r b→Q (.ref t) H')
variable {as:aR} {h:Nat}
theorem WG{ps xs:aR}{b c:Int}{ys:List Int}(hq:aF q)(len:ps.length=2*h+1)(dc:h<40)(ok:cT q b)(WH:cT q c)(rep:∀i,i<2*h+1→r ((i:Int)-(h:Int))*(ps.getD i o1).2=(ps.getD i o1).1*b)(WI:∀i,i<h+1→ys.getD i 0*(as.getD i o1).2=(as.getD i o1).1*c)(A:lK q r (fun i=>ys.getD i 0) W (h+1) aY aJ)(nz:∀m,m<h+2→¬q∣aH m r)(lx:xs.length=h+1)
  (w:∀j,j<h+1→gI q (xs.getD j o1) (aY.getD j 0*b,aJ*c)) (bR:∀d,(r d).natAbs≤10 ^ 36) (bb:b.natAbs≤10 ^ 36) (ba:∀x∈aY,x.natAbs≤10 ^ 182) (bm:aJ.natAbs≤10 ^ 198) (bc:c.natAbs≤10 ^ 20):Fn q ps as h xs r b:=by
 have nm:¬q∣aJ:=A.l.nz (nz (h+1) (by lia))
 refine ⟨ok,rep,nz,lx,fun j=>aY.getD j 0*b,aJ*c,⟨len,dc,lx,aE _,ok.nz hq,yt hq nm (WH.nz hq),Wx rep,w,bR,fun j _=>?_,by decide +kernel,?_⟩,fun i hi=>?_⟩
 ·rw [b_]
  exact aj (cq (qB ba j) bb) (by decide +kernel)
 ·rw [b_,b_]
  exact aj (cq bb (cq bm bc)) (by decide +kernel)
 ·have e1:de r (fun j=>aY.getD j 0*b) i (h+1)=b*de r (fun j=>aY.getD j 0) i (h+1):=by unfold de;rw [cU];exact bZ fun j _=>by grind
  rw [e1];obtain ⟨k,e⟩:=A.c i hi;have ra:=WI i hi;generalize de r (fun j=>aY.getD j 0) i (h+1)=S at e ⊢;generalize as.getD i o1=p at ra ⊢;generalize ys.getD i 0=y at e ra;refine ⟨-(k*b*p.2),?_⟩;dsimp only;have:S=aJ*y+q*k:=by lia
  rw [this];grind
theorem WJ{H:Hp}{a:Addr}(hq:aF q)(h5:q=0→h≤5)(l:as.length=h+1)(hR:bK 100 H q a as):∃(D:Int) (f:Nat→Int),LN q as D f (h+1):=by
 have hc:=hR.yI;by_cases z:q=0
 ·subst z
  have h5:=h5 rfl;obtain ⟨D,kI,yN,uI,qJ⟩:=Bl (F:=100) (by decide) as (hR.yx (by decide))
  rw [l] at uI qJ;rw [i8] at qJ;have p1:100 ^ (h+1)≤10 ^ 20:=aj (tQ (by decide) (show h+1≤6 by lia)) (by decide)
  have hD:=kI.1 rfl;have Fm:∀p∈as,p.1.natAbs≤100:=fun p hp=>by
   obtain ⟨vs,ea,lv,fv⟩:=hR;obtain ⟨i,hi,rfl⟩:=k6 hp;have hv:=fv i vs[i] as[i] (by simp [show i<vs.length by lia]) (by simp [hi])
   generalize as[i]=p at hv;obtain ⟨x,m⟩:=p;generalize vs[i]=v at hv;cases hv with
   | bA e l bx bm=>exact bx
   | rem h0 h1 h2=>lia
  refine ⟨D,fun i=>(as.getD i o1).1*(D / (as.getD i o1).2),l,kI,yN,aj uI p1,fun i hi=>?_⟩;have cf:i<as.length:=by lia
  rw [getD_at cf];have pm:=dD cf;obtain ⟨m',em⟩:=yN _ pm;have m0:as[i].2≠0:=fun e=>by rw [e,fj] at em;lia
  have ed:D / as[i].2=m':=by rw [em];exact f9 _ m0
  rw [ed];refine ⟨⟨0,by dsimp only;rw [em];grind⟩,?_⟩
  have b1:=Fm _ pm;have b2:=qJ _ pm;rw [em,b_] at b2;have b3:m'.natAbs≤100 ^ h:=Dk b2 (j6.mpr m0);rw [b_];refine aj ?_ p1;rw [k7,iG];exact cq b3 b1
 ·refine ⟨1,fun i=>(as.getD i o1).1,l,cT.one,fun p hp=>?_,by decide,fun i hi=>?_⟩
  ·rw [((hc p hp).2 z).1]
   exact j7 1
  ·have c:=(LF hq hc i).2 z
   exact ⟨⟨0,by dsimp only;rw [c.1];lia⟩,aj (jX hq z c.2) (by decide)⟩
def WK(K:aB):Sp:=fun vs H Q _=>∃(P a td:Addr) (ns:List Int) (q:Int) (first:Bool),vs=[.ref P,.ref td,.bl first]∧cJ H P a∧aZ K (er P H) a (ns.map V.int)∧gK (er P H) td q∧aF q ∧
 ∀(r:Addr) (ps:aR) (h:Nat) (H':Hp),aQ P H H'→cJ H' P a→er P H r=none→r≠P→h<40→(first=false→h≤11)→(q=0→h≤5)→ps.length=2*h+1→bK (cp h) (er P H') q r ps→Q (.ref r) H'
section
variable {q:Int} {M:aX} {o:List Nat} {n k:Nat}
theorem LO{F:Nat→Int}:∀{l:List Nat},(∀c∈l,F c=0)→(l.map F).sum=0
 | [],_=>rfl
 | x::l,h=>by rw [cX,dF,h x (jy ..),LO fun c hc=>h c (fY _ hc),oC]
theorem Fo{q:Int}:∀{m:Nat} {F:Nat→Int},(∀i,i<m→q∣F i)→q∣ah m F
 | 0,_,_=>gB q
 | m+1,F,h=>by show q∣F 0+ah m fun i=>F (i+1);exact tR (h 0 (by lia)) (Fo fun i hi=>h (i+1) (by lia))
theorem uJ(hq:aF q){u x:Int}(nu:¬q∣u)(h:q∣u*x):q∣x:=by
 have:=yC hq nu (show Cg q (u*x) 0 by unfold Cg;rwa [k8])
 unfold Cg at this
 rwa [k8] at this
theorem LP(hq:aF q):∀{C:List Nat},cV q M C→C.Nodup→∀y:Nat→Int,(∀r∈C,q∣(C.map fun c=>M r c*y c).sum)→∀c∈C,q∣y c
 | [],_,_,_,_,_,hc=>nomatch hc
 | p::C,g,nd,y,h,c,hc=>by
  rw [j4] at nd;have e:q∣((p::C).map fun c=>aI M C (M p) c*y c).sum:=by
   obtain ⟨z,hz⟩:=Ln M C (M p);have e1:(fun c=>aI M C (M p) c*y c)=fun c=>aK M C*(M p c*y c)+ah C.length fun i=>z i*(M (C.getD i 0) c*y c):=by
    funext c
    rw [hz c,Int.add_mul,iH,dS (ah _ _),cU]
    congr 1
    exact bZ fun i _=>by grind
   rw [e1,EW,qF,EX];refine tR (xI (h p (jy ..))) (Fo fun i hi=>?_);rw [qF];refine xI (h _ (fY _ ?_));rw [d9,gW hi];exact dD hi
  rw [cX,dF,LO (fun c hc=>by rw [Be hc,fj]),mZ] at e
  have yp:q∣y p:=uJ hq g.2 e;have hC:∀r∈C,q∣(C.map fun c=>M r c*y c).sum:=fun r hr=>by
   have:=h r (fY _ hr);rw [cX,dF] at this;have e2:=Int.dvd_sub this (xI (b:=M r p) yp)
   rwa [show ∀x y:Int,x+y-x=y from fun x y=>by lia] at e2
  rcases cH.mp hc with rfl | hc;·exact yp
  ·exact LP hq g.1 nd.2 y hC c hc
theorem Fp(ho:o.Perm (List.range n))(k:Nat):(cO o k).Nodup:=by unfold cO;exact (xH _).nodup_iff.mpr ((xt k o).nodup (iA ho))
theorem WL(ho:o.Perm (List.range n))(hk:k<o.length)(r:Nat):((List.range n).map fun c=>M r c*b9 M o k o[k] c).sum=aI M (cO o k) (M r) o[k]:=by
 have lo:=gL ho;have ht:o[k]<n:=(dY ho).mp (dD hk);have it:o.idxOf o[k]=k:=mE (iA ho) hk;have nd:=Fp ho k;have tC:o[k]∉cO o k:=fun z=>by have:=((dr ho).mp z).2;lia
 rw [Lq nd tC,uE (p:=0) (l:=o[k]::cO o k) Ab (j4.mpr ⟨tC,nd⟩) (fun c hc=>fB.mpr (by
  rcases cH.mp hc with rfl | hc;·exact ht
  ·exact ((dr ho).mp hc).1)) fun c hc nc=>?_,cX,dF]
 ·have e:((cO o k).map fun c=>M r c*b9 M o k o[k] c)=(cO o k).map fun c=>-1*(M r c*dM M (cO o k) o[k] c):=m5 fun c hc=>by have h1:c≠o[k]:=fun z=>tC (z▸hc);unfold b9;rw [ao h1,ai ((dr ho).mp hc).2];grind
  rw [e,qF];unfold b9;rw [ai rfl];grind
 ·rw [cH,not_or] at nc
  have cn:=fB.mp hc;have:¬o.idxOf c<k:=fun z=>nc.2 ((dr ho).mpr ⟨cn,z⟩);unfold b9;rw [ao nc.1,ao this,dE]
theorem WM(ho:o.Perm (List.range n)):(cO o n).Perm (List.range n):=by
 unfold cO;rw [tV (by rw [gL ho];exact aE _)]
 exact (xH _).trans ho
theorem WN(hq:aF q)(ho:o.Perm (List.range n))(g:cV q M (cO o n)){r:Nat}(hr:r<n):((List.range n).map fun c=>M r c*dM M (cO o n) n c).sum=aK M (cO o n)*M r n:=by
 have pm:=WM ho;rw [←EV hq g (Fp ho n) (fun z=>by have:=((dr ho).mp z).1;lia) (pm.mem_iff.mpr (fB.mpr hr))]
 exact (E_ (pm.map _)).symm
theorem Bq(g:Nat→Int):∀n,ah n g=((List.range n).map g).sum
 | 0=>rfl
 | n+1=>by rw [jT,Bq g n,List.range_succ,m4,zY,List.map_singleton,List.sum_singleton]
theorem WO(hq:aF q){X:Nat}{H:Hp}{v v':V}{T U T' U':Int}(h:bM X H q v T U)(h':bM Y H q v' T' U')(e:Cg q (T*U') (T'*U)):∃x m,bC X H q v x m∧bC Y H q v' x m:=by
 have h2:=h.eq hq e h'.choose_spec.choose_spec.2.2;obtain ⟨x,m,a1,a2,a3⟩:=h2;obtain ⟨x',m',b1,b2,b3⟩:=h';have c:Cg q (x*m') (x'*m):=by
  have c1:Cg q (U'*(x*m')) (U'*(x'*m)):=by have d1:Cg q (m'*(x*U')) (m'*(T'*m)):=Cg.mulL m' a2;have d2:Cg q (m*(x'*U')) (m*(T'*m')):=Cg.mulL m b2;exact (Cg.of_eq (by grind)).trans (d1.trans ((Cg.of_eq (by grind)).trans (d2.symm.trans (Cg.of_eq (by grind)))))
  have c2:Cg q (U'*(x*m'-x'*m)) 0:=(Cg.of_eq (by grind)).trans ((c1.sub (Cg.refl _)).trans (Cg.of_eq (k9 _)))
  have:=yC hq a3 c2;unfold Cg at this ⊢
  rwa [k8] at this
 cases a1 with
 | bA ea la _ _=>
  cases b1 with
  | bA eb lb bx bm=>
   have e:x*m'=x'*m:=by unfold Cg at c;have:=j_.mp c;lia
   obtain ⟨e1,e2⟩:x=x'∧m=m':=by have u1:=Ku la lb.pos e;have u2:=Ku lb lb.pos rfl;exact ⟨u1.1.trans u2.1.symm,u1.2.trans u2.2.symm⟩
   subst e1 e2;exact ⟨x,m,.bA ea la (by assumption) (by assumption),.bA eb lb bx bm⟩
  | rem=>lia
 | rem a b d=>
  cases b1 with
  | bA=>lia
  | rem a' b' d'=>
   have:x=x':=by
    rw [d7,d7] at c;obtain ⟨k,hk⟩:=c;have:k=0:=by
     rcases Int.lt_trichotomy k 0 with z | z | z
     ·have:q*k≤q*(-1):=oz (by lia) (by lia)
      lia
     ·exact z
     ·have:q*1≤q*k:=oz (by lia) (by lia)
      lia
    rw [this,dE] at hk;lia
   subst this;exact ⟨x,1,.rem a b d,.rem a' b' d'⟩
end
end My
namespace L2
open PySem PySem.Spec PyProof.Rows
def WQ(K:aB)(n:Nat)(r:Bool):R2:=fun x y H Q=>∃a b xs ys,x=.ref a∧y=.ref b∧dH K H a xs∧dH K H b ys∧xs.length=ys.length∧(∀(j:Nat) (x y:V),xs[j]?=some x→ys[j]?=some y→qv K H n x y)∧Q (.bl r) H
theorem WR{n:Nat}(hu:X.A.units+64<cLine)(hn:n<60:=by decide):cP X (compareOp .NotEq) (WQ X.K n false):=by
 intro pins s σ H x y v u Q I rx ry h;obtain ⟨a,b,xs,ys,rfl,rfl,h1,h2,hl,hi,q⟩:=h;cases rx;cases ry;obtain ⟨us,r1,t1,_⟩:=I.tuple h1;obtain ⟨vs,r2,t2,_⟩:=I.tuple h2;have l1:=r1.length;have l2:=r2.length;refine SeqAt.RcNeAt.tuples (e:=fun _=>true) t1 t2 (by lia) (fun j z1 z2=>?_) _ _ _ _ ?_
 ·have Ej:j<us.length:=by simpa using z1
  have Ek:j<vs.length:=by simpa using z2
  obtain ⟨x,ex⟩:∃x,xs[j]?=some x:=⟨xs[j],by simp [show j<xs.length by lia]⟩
  obtain ⟨y,ey⟩:∃y,ys[j]?=some y:=⟨ys[j],by simp [show j<ys.length by lia]⟩
  obtain ⟨x',m8,rx⟩:=r1.get ex;obtain ⟨y',qw,ry⟩:=r2.get ey;have e1:us.toArray[j]=x':=by simpa using (b6.mp m8).2
  have e2:vs.toArray[j]=y':=by simpa using (b6.mp qw).2
  rw [e1,e2];exact Ei I n X.A.in1 x y x' y' (hi j x y ex ey) rx ry (by rw [Around.in1_units];lia)
 ·have e3:(us.toArray.size == vs.toArray.size)=true:=by simp;lia
  rw [all_range,e3];exact ⟨.bl false,H,I,rfl,q⟩
end L2
namespace My
open PySem L2
theorem Br{q:Int}(hq:aF q)(r:Int→Int):∀(k:Nat) (v:Nat→Int),(∀m,m≤k→¬q∣aH m r)→(∀i,i<k→q∣ah k fun j=>r ((i:Int)-(j:Int))*v j)→∀j,j<k→q∣v j
 | 0,_,_,_,_,hj=>absurd hj (ou _)
 | k+1,v,nz,h,j,hj=>by
  have ne:∀m,m≤k+1→aH m r≠0:=fun m hm e=>nz m hm (by rw [e];exact gB q)
  have eT:=kC r (k+1) fun m hm=>ne m (by lia)
  have v0:q∣v 0:=by
   have s1:q∣ah (k+1) fun i=>b5 (k+1) (bj r) i*ah (k+1) fun j=>r ((i:Int)-(j:Int))*v j:=Fo fun i hi=>jA (h i hi) (pN ..);have e1:(ah (k+1) fun i=>b5 (k+1) (bj r) i*ah (k+1) fun j=>r ((i:Int)-(j:Int))*v j)=ah (k+1) fun j=>ah (k+1) fun i=>v j*(bj r ((j:Int)-(i:Int))*b5 (k+1) (bj r) i):=by
    rw [←Ep];refine bZ fun i _=>?_;rw [cU];refine bZ fun j _=>?_;unfold bj;rw [show -((j:Int)-(i:Int))=(i:Int)-(j:Int) by lia]
    grind
   have e2:(ah (k+1) fun j=>ah (k+1) fun i=>v j*(bj r ((j:Int)-(i:Int))*b5 (k+1) (bj r) i))=ah (k+1) fun j=>if j=0 then v j*aH (k+1) (bj r) else 0:=bZ fun j hj=>by
    rw [←cU,yy k (bj r) j hj]
    split
    ·rfl
    ·exact dE _
   rw [e1,e2,A4 (k+1) 0 (fun j=>v j*aH (k+1) (bj r)) (by lia),eT] at s1
   rw [dS] at s1;exact uJ hq (nz (k+1) (aE _)) s1
  match j,hj with
  | 0,_=>exact v0
  | j+1,hj=>
   refine Br hq r k (fun j=>v (j+1)) (fun m hm=>nz m (by lia)) (fun i hi=>?_) j (by lia)
   have s:=h (i+1) (by lia)
   have e:(ah (k+1) fun j=>r (((i+1:Nat):Int)-(j:Int))*v j)=r (((i+1:Nat):Int)-((0:Nat):Int))*v 0+ah k fun j=>r ((i:Int)-(j:Int))*v (j+1):=by
    show _+ah k (fun j=>r (((i+1:Nat):Int)-((j+1:Nat):Int))*v (j+1))=_
    congr 1
    refine bZ fun j _=>?_;rw [show ((i+1:Nat):Int)-((j+1:Nat):Int)=(i:Int)-(j:Int) by lia]
   rw [e] at s;obtain ⟨a,ha⟩:=s;obtain ⟨b,hb⟩:=v0;refine ⟨a-r (((i+1:Nat):Int)-((0:Nat):Int))*b,?_⟩;rw [pS,←ha,hb];grind
structure lL (q:Int) (n:Nat) (r:Int→Int) (b:Int) (M:aX) (D:Nat→Int):Prop where
 nb:¬q∣b
 dn:∀i,¬q∣D i
 e:∀i j,i<n→j<n→Cg q (M i j*b) (r ((i:Int)-(j:Int))*D i)
section
variable {q b:Int} {n k k' m:Nat} {r:Int→Int} {M:aX} {D:Nat→Int}
variable {i:Nat}
theorem lL.sum(S:lL q n r b M D)(y:Nat→Int)(hi:i<n)(hm:m≤n):Cg q (b*ah m fun j=>M i j*y j) (D i*ah m fun j=>r ((i:Int)-(j:Int))*y j):=by rw [cU,cU];refine o6 fun j hj=>?_;exact (Cg.of_eq (by grind)).trans (((S.e i j hi (by lia)).mulR (y j)).trans (Cg.of_eq (by grind)))
variable {y:Nat→Int}
theorem lL.top(hq:aF q)(S:lL q n r b M D)(hi:i<n)(hm:m≤n)(h:q∣ah m fun j=>M i j*y j):q∣ah m fun j=>r ((i:Int)-(j:Int))*y j:=by refine uJ hq (S.dn i) ?_;obtain ⟨a,ha⟩:=S.sum y hi hm;obtain ⟨c,hc⟩:=h;exact ⟨b*c-a,by rw [pS,←ha,hc];grind⟩
theorem lL.low(hq:aF q)(S:lL q n r b M D)(hi:i<n)(hm:m≤n)(h:q∣ah m fun j=>r ((i:Int)-(j:Int))*y j):q∣ah m fun j=>M i j*y j:=by refine uJ hq S.nb ?_;obtain ⟨a,ha⟩:=S.sum y hi hm;obtain ⟨c,hc⟩:=h;exact ⟨D i*c+a,by rw [tS,←ha,hc];grind⟩
theorem Fq(hm:m≤n):cO (List.range n) m=(List.range m).reverse:=by unfold cO;rw [List.take_range,Nat.min_eq_left hm]
theorem WS(hm:m≤n)(F:Nat→Int):((cO (List.range n) m).map F).sum=ah m F:=by rw [Fq hm,Bq];exact E_ ((xH _).map _)
theorem WT(hq:aF q)(hm:m≤n)(g:cV q M (cO (List.range n) m))(h:∀i,i<m→q∣ah m fun j=>M i j*y j):∀j,j<m→q∣y j:=fun j hj=>by
 have mem:∀{x},x∈cO (List.range n) m↔x<m:=fun{x}=>by rw [Fq hm,List.mem_reverse,fB]
 refine LP hq g (Fp (List.Perm.refl _) m) y (fun r hr=>?_) j (mem.mpr hj);rw [WS hm];exact h r (mem.mp hr)
theorem LQ(hq:aF q)(hk:k<n)(g:cV q M (cO (List.range n) k))(d:q∣aI M (cO (List.range n) k) (M k) k):(∀i,i<k+1→q∣ah (k+1) fun c=>M i c*b9 M (List.range n) k k c)∧b9 M (List.range n) k k k=aK M (cO (List.range n) k)∧∀c,c<n→k<c→b9 M (List.range n) k k c=0:=by
 have cy:(List.range n).Perm (List.range n):=List.Perm.refl _;have mJ:k<(List.range n).length:=by rw [cK];exact hk
 have ek:(List.range n)[k]=k:=jC ..;have out:∀c,c<n→k<c→b9 M (List.range n) k k c=0:=fun c hc h=>by
  unfold b9;rw [ao (by lia)]
  have e:(List.range n).idxOf c=c:=by
   have:=mE (iA cy) (show c<(List.range n).length by rw [cK];exact hc)
   rwa [jC] at this
  rw [e,ao (by lia)]
 refine ⟨fun i hi=>?_,by unfold b9;rw [ai rfl],out⟩
 have e:=WL (M:=M) cy mJ i;rw [ek,←Bq] at e;have z:q∣aI M (cO (List.range n) k) (M i) k:=by
  by_cases h:i=k;·rw [h];exact d
  ·rw [Bf hq g i (by rw [Fq (by lia),List.mem_reverse,fB];lia) k]
   exact gB q
 rw [←e] at z;have e2:∀t,(ah (k+1+t) fun c=>if c<n then M i c*b9 M (List.range n) k k c else 0)=ah (k+1) fun c=>if c<n then M i c*b9 M (List.range n) k k c else 0:=fun t=>by
  induction t with
  | zero=>rfl
  | succ t ih=>
   rw [show k+1+(t+1)=k+1+t+1 by lia,jT,ih]
   split
   ·rename_i h
    rw [out _ h (by lia),dE,mZ]
   ·exact mZ _
 have e3:(ah n fun c=>M i c*b9 M (List.range n) k k c)=ah (k+1) fun c=>M i c*b9 M (List.range n) k k c:=by
  rw [bZ (g:=fun c=>if c<n then M i c*b9 M (List.range n) k k c else 0) fun c hc=>by rw [ai hc]]
  have:=e2 (n-(k+1));rw [show k+1+(n-(k+1))=n by lia] at this
  rw [this];refine bZ fun c hc=>?_;rw [ai (by lia)]
 rw [←e3];exact z
def kN(r:Int→Int)(k:Nat):Nat→Int:=fun j=>b5 k (bj r) (k-1-j)
theorem LR(k1:1≤k)(nz:∀m,m<k→¬q∣aH m r)(z:q∣aH k r):(∀i,i<k→q∣ah k fun j=>r ((i:Int)-(j:Int))*kN r k j)∧kN r k (k-1)=aH (k-1) r:=by
 have ne:∀m,m<k→aH m r≠0:=fun m hm e=>nz m hm (by rw [e];exact gB q)
 refine ⟨fun i hi=>?_,?_⟩
 ·have e:=A9 k1 r i hi
  show q∣ah k fun j=>r ((i:Int)-(j:Int))*b5 k (bj r) (k-1-j);rw [e]
  split
  ·rw [kC r k ne];exact z
  ·exact gB q
 ·unfold kN
  rw [mV,yz k1,kC r (k-1) fun m hm=>ne m (by lia)]
theorem LS(hq:aF q)(S:lL q n r b M D)(k1:1≤k)(kn:k≤n)(nz:∀m,m<k→¬q∣aH m r)(z:q∣aH k r)(hm:m≤n)(km:k≤m)(g:cV q M (cO (List.range n) m)):False:=by
 obtain ⟨hx,hl⟩:=LR k1 nz z;have:=WT hq kn (pb g km) (y:=kN r k) (fun i hi=>S.low hq (by lia) kn (hx i hi)) (k-1) (by lia)
 rw [hl] at this;exact nz (k-1) (by lia) this
theorem LU(hq:aF q)(S:lL q n r b M D)(hk:k'<n)(nz:∀m,m≤k'+1→¬q∣aH m r)(g:cV q M (cO (List.range n) k'))(d:q∣aI M (cO (List.range n) k') (M k') k'):False:=by
 obtain ⟨hy,hl,_⟩:=LQ hq hk g d;have:=Br hq r (k'+1) _ nz (fun i hi=>S.top hq (by lia) (by lia) (hy i hi)) k' (by lia)
 rw [hl] at this;exact nV hq g this
theorem WU(hq:aF q)(S:lL q n r b M D)(k1:1≤k)(kn:k≤n)(hk:k'<n)(nz:∀m,m<k→¬q∣aH m r)(z:q∣aH k r)(g:cV q M (cO (List.range n) k'))(d:q∣aI M (cO (List.range n) k') (M k') k') :
  k=k'+1∧∀j,j<n→Cg q ((if j<k then kN r k j else 0)*aK M (cO (List.range n) k')) (b9 M (List.range n) k' k' j*aH (k-1) r):=by
 have ek:k=k'+1:=by
  rcases Nat.lt_trichotomy k (k'+1) with h | h | h;·exact (LS hq S k1 kn nz z (m:=k') (by lia) (by lia) g).elim
  ·exact h
  ·exact (LU hq S hk (fun m hm=>nz m (by lia)) g d).elim
 refine ⟨ek,fun j hj=>?_⟩;obtain ⟨hx,LV⟩:=LR k1 nz z;obtain ⟨hy,LW,oy⟩:=LQ hq hk g d;by_cases uK:j<k
 ·rw [ai uK]
  generalize hd:aK M (cO (List.range n) k')=dt at LW;generalize ht:aH (k-1) r=tp at LV;have v0:dt*kN r k (k-1)-tp*b9 M (List.range n) k' k' (k-1)=0:=by
   rw [LV,show k-1=k' by lia,LW]
   grind
  have all:∀i,i<k-1→q∣ah (k-1) fun c=>r ((i:Int)-(c:Int))*(dt*kN r k c-tp*b9 M (List.range n) k' k' c):=fun i hi=>by
   have h1:=hx i (by lia)
   have h2:=S.top hq (show i<n by lia) (show k≤n by lia) (y:=b9 M (List.range n) k' k') (by rw [ek];exact hy i (by lia))
   have e:(ah k fun c=>r ((i:Int)-(c:Int))*(dt*kN r k c-tp*b9 M (List.range n) k' k' c))=dt*(ah k fun c=>r ((i:Int)-(c:Int))*kN r k c) + -tp*ah k fun c=>r ((i:Int)-(c:Int))*b9 M (List.range n) k' k' c:=by rw [cU,cU,←jS];refine bZ fun c _=>?_;grind
   have e2:(ah k fun c=>r ((i:Int)-(c:Int))*(dt*kN r k c-tp*b9 M (List.range n) k' k' c))=ah (k-1) fun c=>r ((i:Int)-(c:Int))*(dt*kN r k c-tp*b9 M (List.range n) k' k' c):=by
    have sl:∀F:Nat→Int,ah k F=ah (k-1) F+F (k-1):=fun F=>by
     obtain ⟨t,ht⟩:∃t,k=t+1:=⟨k-1,by lia⟩
     rw [ht,i8];exact jT t F
    rw [sl,v0,dE,mZ]
   rw [←e2,e];exact tR (xI h1) (xI h2)
  have fin:q∣dt*kN r k j-tp*b9 M (List.range n) k' k' j:=by
   by_cases h:j=k-1;·rw [h,v0];exact gB q
   ·exact Br hq r (k-1) _ (fun m hm=>nz m (by lia)) all j (by lia)
  obtain ⟨c,hc⟩:=fin;exact ⟨c,by rw [←hc];grind⟩
 ·rw [ao uK,oy j hj (by lia)]
  exact Cg.of_eq (by rw [fj,fj])
theorem WV(hq:aF q)(S:lL q n r b M D)(nz:∀m,m≤n→¬q∣aH m r)(g:cV q M (cO (List.range n) n)){x:Nat→Int}{Mx:Int}{as:Nat→Int×Int}(h1:∀i,i<n→gI q (as i) (ah n fun j=>r ((i:Int)-(j:Int))*x j,b*Mx))(h2:∀i,i<n→q∣(as i).1*D i-M i n*(as i).2)(na:∀i,i<n→¬q∣(as i).2):∀c,c<n→Cg q (x c*aK M (cO (List.range n) n)) (dM M (cO (List.range n) n) n c*Mx):=fun c hc=>by
 have cy:(List.range n).Perm (List.range n):=List.Perm.refl _;generalize hd:aK M (cO (List.range n) n)=dt;have fin:=Br hq r n (fun c=>dt*x c-Mx*dM M (cO (List.range n) n) n c) nz (fun i hi=>?_) c hc
 ·obtain ⟨a,ha⟩:=fin
  exact ⟨a,by rw [←ha];grind⟩
 ·have e:(ah n fun c=>r ((i:Int)-(c:Int))*(dt*x c-Mx*dM M (cO (List.range n) n) n c))=dt*(ah n fun c=>r ((i:Int)-(c:Int))*x c) + -Mx*ah n fun c=>r ((i:Int)-(c:Int))*dM M (cO (List.range n) n) n c:=by rw [cU,cU,←jS];refine bZ fun c _=>?_;grind
  rw [e];have s1:=S.sum (dM M (cO (List.range n) n) n) hi (aE n);have s2:=WN hq cy g hi;rw [←Bq,hd] at s2;rw [s2] at s1;refine uJ hq (yt hq (na i hi) (S.dn i)) ?_;obtain ⟨a1,e1⟩:=h1 i hi;obtain ⟨a2,e2⟩:=h2 i hi;obtain ⟨a3,e3⟩:=s1;dsimp only at e1;generalize (ah n fun c=>r ((i:Int)-(c:Int))*x c)=cx at e1 ⊢;generalize (ah n fun c=>r ((i:Int)-(c:Int))*dM M (cO (List.range n) n) n c)=cc at e3 ⊢;generalize as i=A at e1 e2 ⊢;refine ⟨-(a1*D i*dt)+a2*b*Mx*dt+a3*A.2*Mx,?_⟩;grind
end
theorem Fs:∀n,1≤cF n
 | 0=>aE _
 | n+1=>by have:=Fs n;show 1≤(n+1)*cF n;exact aj this (jB _ (by lia))
theorem LX{a b:Nat}(h:a≤b):cF a≤cF b:=by
 induction b with
 | zero=>rw [show a=0 by lia];exact aE _
 | succ b ih=>
  by_cases e:a=b+1;·rw [e];exact aE _
  ·refine aj (ih (by lia)) ?_
   show cF b≤(b+1)*cF b;exact jB _ (by lia)
def eJ(n B:Nat):Nat:=cF (n+1)*B ^ n
def eK(n B:Nat):Nat:=(n+1)*(B*(eJ n B*eJ n B))
section
variable {q:Int} {M:aX} {D:Nat→Int} {o:List Nat} {n B:Nat}
theorem Ft(b1:1≤B){m:Nat}(h:m≤n):cF m*B ^ m≤eJ n B:=cq (LX (by lia)) (tQ b1 h)
theorem LY(b1:1≤B):1≤eJ n B:=Nat.mul_pos (Fs _) (Nat.pow_pos b1)
theorem LZ(lo:o.length=n)(k:Nat):(cO o k).length≤n:=by unfold cO;rw [List.length_reverse,kY];lia
theorem qK(b1:1≤B)(hM:∀i k,(M i k).natAbs≤B)(out:∀i k,n≤i→M i k=0)(cy:o.Perm (List.range n))(k i j:Nat)(hi:k≤o.idxOf i):(aI M (cO o k) (M i) j).natAbs≤eJ n B:=by
 have lo:=gL cy;by_cases h:i<n
 ·have lt:o.idxOf i<o.length:=List.idxOf_lt_length_iff.mpr (cy.mem_iff.mpr (fB.mpr h))
  refine aj (Vx hM (hM i)) (Ft b1 ?_);unfold cO;rw [List.length_reverse,kY];lia
 ·have z:M i=fun k=>0:=funext fun k=>out i k (by lia)
  have e:aI M (cO o k) (fun _=>0) j=0:=by have:=Bg (C:=j::cO o k) (List.cons_ne_nil _ _) (R:=hJ M (cO o k)) 0 0 (fun _=>0) (fun _=>0);simp only [fj,mZ,oC] at this;exact this
  rw [z,e];exact cN _
theorem kP(b1:1≤B)(hM:∀i k,(M i k).natAbs≤B)(cy:o.Perm (List.range n))(k:Nat):(aK M (cO o k)).natAbs≤eJ n B:=aj (Vy hM) (Ft b1 (by have:=LZ (gL cy) k;lia))
theorem Bt(b1:1≤B)(hM:∀i k,(M i k).natAbs≤B)(cy:o.Perm (List.range n))(k m c:Nat):(dM M (cO o k) m c).natAbs≤eJ n B:=by
 have l:=LZ (gL cy) k;unfold dM;rw [pO];refine aj (KQ (m::cO o k) _ (EF 1 fun _=>B) fun i c'=>?_) ?_
 ·match i with
  | 0=>
   show (dl c c').natAbs≤1;unfold dl
   split <;> decide
  | i+1=>show (hJ M (cO o k) i c').natAbs≤B;exact Bh hM _ i c'
 ·rw [d8,KP,tU,KS]
  exact cq (LX (by lia)) (tQ b1 l)
theorem nZ(b1:1≤B):eJ n B≤eK n B:=by unfold eK;refine aj (jB (eJ n B) (LY (n:=n) b1)) ?_;refine aj (jB _ b1) (jB _ (by lia))
variable {a b:Int}
theorem Bu(b1:1≤B)(ha:a.natAbs≤eJ n B)(hb:b.natAbs≤B):(a*b).natAbs≤eK n B∧(b*a).natAbs≤eK n B:=by
 have h:(a*b).natAbs≤eK n B:=by rw [b_];unfold eK;refine aj (cq ha hb) ?_;rw [iG];refine aj (kZ B (jB (eJ n B) (LY (n:=n) b1))) (jB _ (by lia))
 exact ⟨h,by rw [dS];exact h⟩
theorem L0(b1:1≤B){c:Int}(ha:a.natAbs≤B)(hb:b.natAbs≤eJ n B)(hc:c.natAbs≤eJ n B):(a*b*c).natAbs≤eK n B:=by rw [b_,b_,mY];unfold eK;exact aj (cq ha (cq hb hc)) (jB _ (by lia))
theorem L3{F:Nat→Int}{Z:Nat}(h:∀j,(F j).natAbs≤Z):∀l:List Nat,((l.map F).sum).natAbs≤l.length*Z
 | []=>by simp
 | x::l=>by rw [cX,dF,d8,Nat.succ_mul];have:=L3 h l;have:=h x;lia
theorem L4(b1:1≤B){F:Nat→Int}{l:List Nat}(hl:l.length≤n)(h:∀j,(F j).natAbs≤eJ n B*eJ n B)(ha:a.natAbs≤eJ n B*eJ n B):(a-(l.map F).sum).natAbs≤eK n B:=by have h1:=L3 h l;have h2:l.length*(eJ n B*eJ n B)≤n*(eJ n B*eJ n B):=pQ _ hl;have h3:(n+1)*(eJ n B*eJ n B)≤eK n B:=kZ _ (jB _ b1);rw [Nat.succ_mul] at h3;lia
theorem Fu{F:Nat}(ha:a.natAbs≤F)(hb:b.natAbs≤F):(a*b).natAbs≤F*F:=by rw [b_];exact cq ha hb
theorem WW(b1:1≤B)(hM:∀i k,(M i k).natAbs≤B)(out:∀i k,n≤i→M i k=0)(hD:∀i,(D i).natAbs≤B)(cy:o.Perm (List.range n))(k i j:Nat):(sT M D o k i j).natAbs≤eK n B∧(sU M D o k i j).natAbs≤eK n B:=by
 constructor
 ·unfold sT
  split
  ·rename_i h
   exact aj (qK b1 hM out cy _ _ _ h.1) (nZ b1)
  ·split
   ·exact aj (qK b1 hM out cy _ _ _ (aE _)) (nZ b1)
   ·rename_i h
    exact (Bu b1 (qK b1 hM out cy _ _ _ (by lia)) (hD j)).1
 ·unfold sU
  split
  ·exact (Bu b1 (kP b1 hM cy _) (hD i)).2
  ·split <;> exact (Bu b1 (kP b1 hM cy _) (hD i)).2
theorem WX{H:Hp}{e:Addr}{av:Nat→V}{Y:Nat}(n1:1≤n)(b1:1≤B)(hM:∀i k,(M i k).natAbs≤B)(out:∀i k,n≤i→M i k=0)(hD:∀i,(D i).natAbs≤B)(cy:o.Perm (List.range n))(row:fA H e n av)(w:∀i,i<n→bM Y H q (av i) (M i n) (D i)):Fe q n (eK n B) H e av o M D:=by
 have bB:B≤eJ n B:=by
  have:=Ft (n:=n) b1 (show 1≤n by exact n1)
  rw [Nat.pow_one] at this;exact aj (by show B≤cF 1*B;exact jB _ (Fs 1)) this
 have bX:=aj bB (nZ (n:=n) b1);refine ⟨row,fun i hi=>(w i hi).bd (aj (hM i n) bX) (aj (hD i) bX),fun k i _=>⟨?_,?_⟩,fun g hg p l hp hl=>⟨?_,?_⟩,fun p=>⟨?_,?_⟩,fun g hg k t p l _ hp hl=>⟨?_,?_⟩,fun k t p _=>⟨?_,?_⟩⟩;·exact aj (qK b1 hM out cy _ _ _ (Nat.min_le_right ..)) (nZ b1)
 ·exact (Bu b1 (kP b1 hM cy _) (hD i)).2
 ·unfold rS
  exact L4 b1 (by rw [kY];have:=hg p hp;lia) (fun j=>Fu (qK b1 hM out cy _ _ _ (aE _)) (Bt b1 hM cy _ _ _)) (Fu (qK b1 hM out cy _ _ _ (aE _)) (kP b1 hM cy _))
 ·exact L0 b1 (hD p) (kP b1 hM cy _) (kP b1 hM cy _)
 ·exact aj (Bt b1 hM cy _ _ _) (nZ b1)
 ·exact aj (kP b1 hM cy _) (nZ b1)
 ·have mv:∀j,(b9 M o k t j).natAbs≤eJ n B:=fun j=>by
   unfold b9
   split
   ·exact kP b1 hM cy _
   ·split
    ·rw [pO];exact Bt b1 hM cy _ _ _
    ·exact cN _
  unfold mS;have:=L4 (n:=n) b1 (l:=(g p).take l) (a:=0) (by rw [kY];have:=hg p hp;lia) (fun j=>Fu (qK b1 hM out cy (o.idxOf p) p j (aE _)) (mv j)) (cN _)
  rwa [oB] at this
 ·exact L0 b1 (hD p) (kP b1 hM cy _) (kP b1 hM cy _)
 ·unfold b9
  split
  ·exact aj (kP b1 hM cy _) (nZ b1)
  ·split
   ·rw [pO];exact aj (Bt b1 hM cy _ _ _) (nZ b1)
   ·exact cN _
 ·exact aj (kP b1 hM cy _) (nZ b1)
theorem WY{ay:iI}(b1:1≤B)(hM:∀i k,(M i k).natAbs≤B)(out:∀i k,n≤i→M i k=0)(hD:∀i,(D i).natAbs≤B)(cy:o.Perm (List.range n))(w:∀i j,i<n→j<n→q∣(atT ay i j).1*D i-M i j*(atT ay i j).2)(dn:∀i,¬q∣D i)(zero:∀i j,i<n→j<n→(atT ay i j).1=0→M i j=0)(x1:1000≤eK n B)(WZ:eK n B≤10 ^ 140):Bk q n (eK n B) ay o M D:=
 ⟨w,dn,zero,fun k i j _=>WW b1 hM out hD cy k i j,x1,WZ⟩
end
section
variable {q:Int} {ps as:aR} {F h i:Nat} {H:Hp} {a am:Addr}
theorem L5(hq:aF q)(hF:1≤F)(hR:bK F H q a ps):∀p∈ps,cT q p.2∧p.2.natAbs≤F∧(q=0→p.1.natAbs≤F)∧(q≠0→p.1.natAbs≤997):=fun p hp=>by
 obtain ⟨b1,b2⟩:=hR.yx hF p hp;refine ⟨b1,b2,?_⟩;obtain ⟨_,_,v,hv⟩:=hR.nums hq p hp;generalize p.1=x at hv;generalize p.2=m at hv;cases hv with
 | bA _ _ bx _=>exact ⟨fun _=>bx,fun z=>absurd rfl z⟩
 | rem a b c=>exact ⟨fun z=>by lia,fun _=>by lia⟩
theorem L6{n j:Nat}(hj:j<n):(gu ps n i).getD j o1=ps.getD (ps.length / 2+i-j) o1:=by
 rw [getD_at (by rw [Bm];exact hj)]
 unfold gu;rw [gC,jC]
theorem Fv(lp:ps.length=2*h+1)(hi:i<h+1){p:Int×Int}(hp:p∈gu ps (h+1) i):p∈ps:=by
 unfold gu at hp;obtain ⟨j,hj,rfl⟩:=gc.mp hp;have hj:=fB.mp hj;rw [getD_at (by lia)]
 exact dD _
def jY(q:Int)(h:Nat):Nat:=if q=0 then 100*cp h ^ (h+1) else 997
theorem L7:1≤jY q h:=by
 unfold jY
 split
 ·exact Nat.mul_pos (by decide) (Nat.pow_pos (by have:=(uH h).1;lia))
 ·decide
theorem L8(lM:h≤11)(h5:q=0→h≤5):1000≤eK (h+1) (jY q h)∧eK (h+1) (jY q h)≤10 ^ 140:=by
 unfold jY;by_cases z:q=0
 ·rw [ai z]
  have:=h5 z
  match h,this with
  | 0,_ | 1,_ | 2,_ | 3,_ | 4,_ | 5,_=>decide +kernel
 ·rw [ao z]
  match h,lM with
  | 0,_ | 1,_ | 2,_ | 3,_ | 4,_ | 5,_ | 6,_ | 7,_ | 8,_ | 9,_ | 10,_ | 11,_=>decide +kernel
theorem W0(hq:aF q)(lp:ps.length=2*h+1)(hR:bK (cp h) H q a ps)(la:as.length=h+1)(hA:bK 100 H q am as)(hi:i<h+1):∃(d:Int) (f:Nat→Int),¬q∣d∧d.natAbs≤jY q h∧(∀k,(f k).natAbs≤jY q h)∧(∀j,j<h+1→(ps.getD (ps.length / 2+i-j) o1).1*d=f j*(ps.getD (ps.length / 2+i-j) o1).2)∧(as.getD i o1).1*d=f (h+1)*(as.getD i o1).2:=by
 have F1:1≤cp h:=by have:=(uH h).1;lia
 have cell:=L5 hq F1 hR;obtain ⟨e,oe,dv,be,bE⟩:=Bl (q:=q) F1 (gu ps (h+1) i) fun p hp=>let c:=cell p (Fv lp hi hp);⟨c.1,c.2.1⟩
 rw [Bm] at be bE;have ca:=L5 hq (by decide) hA (as.getD i o1) (by rw [getD_at (by lia)];exact dD _)
 generalize as.getD i o1=A at ca ⊢;have cx:∀j,j<h+1→ps.getD (ps.length / 2+i-j) o1∈gu ps (h+1) i:=fun j hj=>by
  rw [←L6 hj,getD_at (by rw [Bm];exact hj)]
  exact dD _
 generalize hx:(fun j=>ps.getD (ps.length / 2+i-j) o1)=x at cx;have hx:∀j,ps.getD (ps.length / 2+i-j) o1=x j:=fun j=>congrFun hx j;simp only [hx];simp only [hx] at cx;refine ⟨e*A.2,fun k=>if k<h+1 then (x k).1*(e / (x k).2)*A.2 else if k=h+1 then A.1*e else 0,(oe.mul ca.1).nz hq,?_,fun k=>?_,fun j hj=>?_,?_⟩
 ·unfold jY
  split
  ·rw [b_,iG]
   exact cq ca.2.1 be
  ·rename_i z
   rw [oe.2 z,ca.1.2 z]
   decide
 ·dsimp only
  by_cases hk:k<h+1
  ·rw [ai hk]
   have ck:=cell (x k) (Fv lp hi (cx k hk));obtain ⟨c,hc⟩:=dv (x k) (cx k hk);have ne:(x k).2≠0:=fun z=>ck.1.nz hq (by rw [z];exact gB q)
   have ec:e / (x k).2=c:=by rw [hc];exact f9 _ ne
   rw [ec];unfold jY
   split
   ·rename_i z
    have b:=bE (x k) (cx k hk);rw [hc,b_] at b;have b:=Dk b (show 0<(x k).2.natAbs by lia)
    rw [b_,b_,iG,k7,iG (cp h ^ h)];exact cq ca.2.1 (cq (ck.2.2.1 z) b)
   ·rename_i z
    have e1:=oe.2 z;rw [hc,ck.1.2 z,mX] at e1;rw [e1,ca.1.2 z,d7,d7];exact ck.2.2.2 z
  ·rw [ao hk]
   split
   ·unfold jY
    split
    ·rename_i z
     rw [b_];exact cq (ca.2.2.1 z) be
    ·rename_i z
     rw [oe.2 z,d7];exact ca.2.2.2 z
   ·exact cN _
 ·dsimp only
  rw [ai hj];obtain ⟨c,hc⟩:=dv (x j) (cx j hj);have ck:=cell (x j) (Fv lp hi (cx j hj));rw [show e / (x j).2=c by rw [hc];exact f9 _ fun z=>ck.1.nz hq (by rw [z];exact gB q),hc]
  grind
 ·dsimp only
  rw [ao (iF _),ai rfl];grind
end
structure uN (q:Int) (ps as:aR) (h X:Nat) (M:aX) (D:Nat→Int):Prop where
 dn:∀i,¬q∣D i
 e:∀i j,i<h+1→j<h+1→(ps.getD (ps.length / 2+i-j) o1).1*D i=M i j*(ps.getD (ps.length / 2+i-j) o1).2
 Bv:∀i,i<h+1→(as.getD i o1).1*D i=M i (h+1)*(as.getD i o1).2
 X1:1000≤X
 X2:X≤10 ^ 140
section
variable {q:Int} {ps as:aR} {h:Nat} {H:Hp} {a am:Addr}
theorem W5(hq:aF q)(lM:h≤11)(h5:q=0→h≤5)(lp:ps.length=2*h+1)(hR:bK (cp h) H q a ps)(la:as.length=h+1)(hA:bK 100 H q am as):∃(B:Nat) (M:aX) (D:Nat→Int),uN q ps as h (eK (h+1) B) M D∧1≤B∧(∀i k,(M i k).natAbs≤B)∧(∀i k,h+1≤i→M i k=0)∧∀i,(D i).natAbs≤B:=by
 have ex:∀i,∃(d:Int) (f:Nat→Int),¬q∣d∧d.natAbs≤jY q h∧(∀k,(f k).natAbs≤jY q h)∧(h+1≤i→∀k,f k=0)∧(i<h+1→(∀j,j<h+1→(ps.getD (ps.length / 2+i-j) o1).1*d=f j*(ps.getD (ps.length / 2+i-j) o1).2)∧(as.getD i o1).1*d=f (h+1)*(as.getD i o1).2):=fun i=>by
  by_cases hi:i<h+1
  ·obtain ⟨d,f,a1,a2,a3,a4,a5⟩:=W0 hq lp hR la hA hi
   exact ⟨d,f,a1,a2,a3,fun z=>by lia,fun _=>⟨a4,a5⟩⟩
  ·exact ⟨1,fun _=>0,cT.one.nz hq,L7,fun _=>cN _,fun _ _=>rfl,fun z=>absurd z hi⟩
 refine ⟨jY q h,fun i=>(ex i).choose_spec.choose,fun i=>(ex i).choose,⟨fun i=>(ex i).choose_spec.choose_spec.1,fun i j hi hj=>((ex i).choose_spec.choose_spec.2.2.2.2 hi).1 j hj,fun i hi=>((ex i).choose_spec.choose_spec.2.2.2.2 hi).2,(L8 lM h5).1,(L8 lM h5).2⟩,L7,fun i k=>(ex i).choose_spec.choose_spec.2.2.1 k,fun i k hi=>(ex i).choose_spec.choose_spec.2.2.2.1 hi k,fun i=>(ex i).choose_spec.choose_spec.2.1⟩
variable {M:aX} {D:Nat→Int}
theorem uN.L9{X:Nat}{r:Int→Int}{b:Int}(hq:aF q)(S:uN q ps as h X M D)(lp:ps.length=2*h+1)(Fw:∀p∈ps,Canon q p)(ok:cT q b)(rep:∀i:Nat,i<2*h+1→r ((i:Int)-(h:Int))*(ps.getD i o1).2=(ps.getD i o1).1*b)(nz:∀p∈ps,¬q∣p.2):lL q (h+1) r b M D:=⟨ok.nz hq,S.dn,fun i j hi hj=>by
 have e:=S.e i j hi hj
 rw [show ps.length / 2+i-j=h+i-j by lia] at e
 have rp:=rep (h+i-j) (by lia)
 have ez:((h+i-j:Nat):Int)-(h:Int)=(i:Int)-(j:Int):=by lia
 rw [ez] at rp
 have np:=nz (ps.getD (h+i-j) o1) (by rw [getD_at (by lia)];exact dD _)
 show q∣M i j*b-r ((i:Int)-(j:Int))*D i
 refine uJ hq np ?_
 rw [pS,show (ps.getD (h+i-j) o1).2*(M i j*b)=(ps.getD (h+i-j) o1).2*(r ((i:Int)-(j:Int))*D i) from ?_,k9]
 ·exact gB q
 generalize ps.getD (h+i-j) o1=p at e rp
 calc p.2*(M i j*b)=(M i j*p.2)*b:=by grind
  _=(p.1*b)*D i:=by rw [←e];grind
  _=p.2*(r ((i:Int)-(j:Int))*D i):=by rw [←rp];grind⟩
variable {B:Nat} {o:List Nat}
theorem W7(S:uN q ps as h (eK (h+1) B) M D)(b1:1≤B)(hM:∀i k,(M i k).natAbs≤B)(out:∀i k,h+1≤i→M i k=0)(hD:∀i,(D i).natAbs≤B)(cy:o.Perm (List.range (h+1)))(nz:∀p∈ps,p.2≠0)(lp:ps.length=2*h+1):Bk q (h+1) (eK (h+1) B) ((List.range (h+1)).map (gu ps (h+1))) o M D:=by
 have at':∀i j,i<h+1→j<h+1→atT ((List.range (h+1)).map (gu ps (h+1))) i j=ps.getD (ps.length / 2+i-j) o1:=fun i j hi hj=>by unfold atT;rw [show ((List.range (h+1)).map (gu ps (h+1))).getD i []=gu ps (h+1) i by rw [getD_at (by rw [aG,cK];exact hi),gC,jC],L6 hj]
 refine WY b1 hM out hD cy (fun i j hi hj=>?_) S.dn (fun i j hi hj z=>?_) S.X1 S.X2
 ·rw [at' i j hi hj,S.e i j hi hj,k9]
  exact gB q
 ·rw [at' i j hi hj] at z
  have e:=S.e i j hi hj;rw [z,fj] at e;rcases mW.mp e.symm with h' | h';·exact h'
  ·exact absurd h' (nz _ (by rw [getD_at (by lia)];exact dD _))
theorem W8{e:Addr}{vs:List V}(S:uN q ps as h (eK (h+1) B) M D)(b1:1≤B)(hM:∀i k,(M i k).natAbs≤B)(out:∀i k,h+1≤i→M i k=0)(hD:∀i,(D i).natAbs≤B)(cy:o.Perm (List.range (h+1)))(ee:H e=some (.lst vs))(lv:vs.length=h+1)(la:as.length=h+1)(hA:bK 100 H q e as):Fe q (h+1) (eK (h+1) B) H e (fun i=>vs.getD i .bh) o M D:=by
 refine WX (Y:=100) (by lia) b1 hM out hD cy ?_ fun i hi=>?_
 ·show H e=some (.lst ((List.range (h+1)).map fun i=>vs.getD i .bh))
  rw [ee,←lv]
  congr 2
  refine ke (by rw [aG,cK]) fun i h1 h2=>?_
  rw [gC,jC,getD_at h1]
 ·obtain ⟨us,e2,l2,f2⟩:=hA
  rw [ee] at e2;cases e2;refine ⟨(as.getD i o1).1,(as.getD i o1).2,?_,?_,S.dn i⟩
  ·refine f2 i _ _ ?_ ?_
   ·rw [getD_at (show i<vs.length by lia)];simp
   ·rw [getD_at (show i<as.length by lia)];simp
  ·rw [S.Bv i hi,k9]
   exact gB q
end
variable {B B':Nat} {H:Hp} {q:Int}
theorem W9{v:V}{x m x' m':Int}(h:bC B H q v x m)(h':bC B' H q v x' m'):x=x'∧m=m':=by
 cases h with
 | bA e l _ _=>
  cases h' with
  | bA e' l' _ _=>rw [e] at e';cases e';exact ⟨rfl,rfl⟩
 | rem a b d=>
  cases h' with
  | rem=>exact ⟨rfl,rfl⟩
variable {ps:aR}
theorem L_{K:aB}(hq:aF q){a b:Addr}(h1:bK B H q a ps)(h2:bK B' H q b ps):qv K H 2 (.ref a) (.ref b):=by obtain ⟨a,b,xs,ys,e1,e2,e3,e4,e5,e6,_⟩:=TM (K:=K) (R:=fun _ _=>True) (r:=true) hq h1 h2 trivial;exact .inr ⟨a,b,xs,ys,e1,e2,.inl ⟨e3,e4⟩,e5,e6⟩
inductive qL (q:Int) (ps as:aR) (h:Nat) (H:Hp) (tp:Addr):Prop
 | lN (mv:Addr) (xs:aR) (k:Nat) (r:Int→Int) (b:Int) (e:H tp=some (.tup [.str (Str.ofString "stops"),.int (k:Int),.ref mv])) (row:bK (10 ^ 260) H q mv (mz xs (h+1))) (s:LK q ps h k xs r b):qL q ps as h H tp
 | one (mv:Addr) (xs:aR) (r:Int→Int) (b:Int) (e:H tp=some (.tup [.str (Str.ofString "one"),.ref mv])) (row:bK (10 ^ 260) H q mv xs) (s:Fn q ps as h xs r b):qL q ps as h H tp
inductive uO (q:Int) (n X:Nat) (M:aX) (H:Hp) (tp:Addr):Prop
 | lN (k:Nat) (hk:k<n) (g:cV q M (cO (List.range n) k)) (d:q∣aI M (cO (List.range n) k) (M k) k) (r:Addr) (lv:Nat→V) (e:H tp=some (.tup [.str (Str.ofString "stops"),.int ((k:Int)+1),.ref r])) (row:fA H r n lv) (w:∀i,i<n→bM X H q (lv i) (b9 M (List.range n) k k i) (aK M (cO (List.range n) k))):uO q n X M H tp
 | one (g:cV q M (cO (List.range n) n)) (r:Addr) (lv:Nat→V) (dd:Int) (e:H tp=some (.tup [.str (Str.ofString "one"),.ref r,.int dd])) (row:fA H r n lv) (w:∀i,i<n→bM X H q (lv i) (dM M (cO (List.range n) n) n i) (aK M (cO (List.range n) n))):uO q n X M H tp
variable {tp:Addr}
theorem qL.mono{as:aR}{h:Nat}{H':Hp}(f:qL q ps as h H tp)(s:ag H H'):qL q ps as h H' tp:=by
 cases f with
 | lN mv xs k r b e row t=>exact .lN mv xs k r b (s _ _ e) (row.mono s) t
 | one mv xs r b e row t=>exact .one mv xs r b (s _ _ e) (row.mono s) t
theorem uO.W_{n X:Nat}{M:aX}{r:Addr}{lv:Nat→V}{k:Nat}(hk:k<(List.range n).length)(g:cV q M (cO (List.range n) k))(d:q∣aI M (cO (List.range n) k) (M (List.range n)[k]) (List.range n)[k])(e:H tp=some (.tup [.str (Str.ofString "stops"),.int ((k:Int)+1),.ref r]))(row:fA H r n lv)(w:∀i,i<n→bM X H q (lv i) (b9 M (List.range n) k (List.range n)[k] i) (aK M (cO (List.range n) k))):uO q n X M H tp:=by
 have ek:(List.range n)[k]=k:=jC ..;rw [ek] at d;refine .lN k (by rw [cK] at hk;exact hk) g d r lv e row fun i hi=>?_
 have:=w i hi
 rwa [ek] at this
inductive Fx (q:Int) (n:Nat) (H:Hp) (tp lO:Addr):Prop
 | lN (k:Int) (mv r:Addr) (ys:aR) (e:H tp=some (.tup [.str (Str.ofString "stops"),.int k,.ref mv])) (e':H lO=some (.tup [.str (Str.ofString "stops"),.int k,.ref r])) (l:ys.length=n) (h1:bK (10 ^ 260) H q mv ys) (h2:bK (10 ^ 140) H q r ys):Fx q n H tp lO
 | one (dd:Int) (mv r:Addr) (ys:aR) (e:H tp=some (.tup [.str (Str.ofString "one"),.ref mv])) (e':H lO=some (.tup [.str (Str.ofString "one"),.ref r,.int dd])) (l:ys.length=n) (h1:bK (10 ^ 260) H q mv ys) (h2:bK (10 ^ 140) H q r ys):Fx q n H tp lO
section
variable {q:Int} {ps as ys:aR} {h X n:Nat} {H:Hp} {tp lO mv r:Addr} {M:aX} {D:Nat→Int} {lv:Nat→V}
theorem Ma(hq:aF q)(hX:X≤10 ^ 140){T T':Nat→Int}{U U':Int}(ly:ys.length=n)(h1:bK (10 ^ 260) H q mv ys)(nU:¬q∣U)(hy:∀j,j<n→gI q (ys.getD j o1) (T j,U))(row:fA H r n lv)(w:∀i,i<n→bM X H q (lv i) (T' i) U')(c:∀j,j<n→Cg q (T j*U') (T' j*U)):bK (10 ^ 140) H q r ys:=by
 obtain ⟨vs,e1,l1,f1⟩:=h1;refine ⟨_,row,by rw [aG,cK,ly],fun i v p hv hp=>?_⟩
 have hi:i<n:=by rw [←ly];exact (b6.mp hp).1
 have ev:v=lv i:=by rw [cB] at hv;simp [hi] at hv;exact hv.symm
 have Xa:vs[i]?=some (vs[i]'(by lia)):=by simp
 have nb:=f1 i _ p Xa hp;have ep:ys.getD i o1=p:=by rw [d9,hp];rfl
 have wy:=hy i hi;rw [ep] at wy;obtain ⟨x,m,a1,a2⟩:=WO hq (v:=vs[i]'(by lia)) ⟨p.1,p.2,nb,wy,nU⟩ (w i hi) (c i hi)
 obtain ⟨rfl,rfl⟩:=W9 nb a1;rw [ev];exact a2.weak hX
theorem Xb(hq:aF q)(lp:ps.length=2*h+1)(uP:as.length=h+1)(S:uN q ps as h X M D)(yP:∀p∈ps,¬q∣p.2)(Fy:∀p∈as,¬q∣p.2)(Fw:∀p∈ps,Canon q p)(F:qL q ps as h H tp)(G:uO q (h+1) X M H lO):Fx q (h+1) H tp lO:=by
 cases F with
 | lN mv xs k r b e row s=>
  have SM:=S.L9 hq lp Fw s.ok s.rep yP;have kn:=s.kh;cases G with
  | lN k' hk g d r' lv e' yQ w=>
   obtain ⟨ek,c⟩:=WU hq SM s.k1 kn hk s.nz s.z g d;have Mb:(mz xs (h+1)).length=h+1:=T5 (by have:=s.lx;lia)
   refine .lN (k:Int) mv r' _ e (by rw [e',ek];rfl) Mb row (Ma hq S.X2 Mb row (s.nz (k-1) (by have:=s.k1;lia)) (fun j hj=>?_) yQ w c)
   have lx:=s.lx;by_cases uK:j<k
   ·rw [ai uK]
    have:=s.w j uK;rw [show (mz xs (h+1)).getD j o1=xs.getD j o1 by unfold mz;rw [d9,d9,ic (by lia)]]
    exact this
   ·rw [ao uK]
    rw [show (mz xs (h+1)).getD j o1=o1 by
     unfold mz;rw [d9,gS (by lia),De]
     split <;> rfl]
    unfold gI;exact ⟨0,by show (0:Int)*_-0*1=_;grind⟩
  | one g r' lv dd e' yQ w=>exact (LS hq SM s.k1 kn s.nz s.z (aE _) kn g).elim
 | one mv xs r b e row s=>
  have SM:=S.L9 hq lp Fw s.ok s.rep yP;cases G with
  | lN k' hk g d r' lv e' yQ w=>exact (LU hq SM hk (fun m hm=>s.nz m (by lia)) g d).elim
  | one g r' lv dd e' yQ w=>obtain ⟨x,Mx,C,Bv⟩:=s.WD;exact .one dd mv r' xs e e' s.lx row (Ma hq S.X2 s.lx row C.nM C.v yQ w (WV hq SM (fun m hm=>s.nz m (by lia)) g Bv (fun i hi=>by rw [S.Bv i hi,k9];exact gB q) fun i hi=>Fy _ (by rw [getD_at (by lia)];exact dD _)))
end
end My
namespace L2
open PySem PySem.Spec PyProof.Rows
section
variable {X:Cx} {N:List Str} {scope:Scope} {cl:List (Str×Addr)} {x y:Str} {px py pos tp:Pos} {yq:Nat} {iter elt:Expr} {ifs:List Expr} {wi:TI} {ρ:St→St} {tt:TT} {te:TE}
end
end L2
set_option maxRecDepth 100000
set_option maxHeartbeats 4000000
namespace My
open PySem L2
def top(i:Nat):Stmt:=PySem.Challenge.pw_bandwright_k61_whole_shifted_rows_as_alo.main.body.getD i (.Pass ⟨0,0,0,0⟩)
abbrev Bw:Stmt:=top 8
abbrev Bx:Stmt:=top 9
abbrev By:Stmt:=top 12
abbrev Bz:Stmt:=top 13
abbrev BA:Stmt:=top 14
abbrev BB:Stmt:=top 16
abbrev yR:Stmt:=top 17
abbrev BC:Stmt:=top 18
abbrev BD:Stmt:=top 19
abbrev BE:Stmt:=top 20
abbrev BF:Stmt:=top 21
abbrev BG:Stmt:=top 22
abbrev BH:Stmt:=top 23
abbrev BI:Stmt:=top 27
abbrev Fz:Stmt:=top 28
abbrev BJ:Stmt:=top 29
abbrev BK:Stmt:=top 30
abbrev BL:Stmt:=top 32
abbrev BM:Stmt:=top 33
abbrev BN:Stmt:=top 34
abbrev BO:Stmt:=top 35
abbrev BP:Stmt:=top 36
abbrev BQ:Stmt:=top 37
abbrev BR:Stmt:=top 39
abbrev BS:Stmt:=top 40
abbrev BU:Stmt:=top 43
abbrev BV:Stmt:=top 44
abbrev BW:Stmt:=top 47
abbrev BX:Stmt:=top 48
abbrev BY:Stmt:=top 49
abbrev BZ:Stmt:=top 51
abbrev B0:Stmt:=top 52
abbrev B2:Stmt:=top 53
abbrev B3:Stmt:=top 54
abbrev B4:Stmt:=top 55
abbrev B5:Stmt:=top 56
abbrev B6:Stmt:=top 58
abbrev B7:Stmt:=top 59
abbrev B8:Stmt:=top 61
abbrev B9:Stmt:=top 62
abbrev B_:Stmt:=top 63
abbrev Ca:Stmt:=top 64
abbrev Cb:Stmt:=top 66
abbrev Cc:Stmt:=top 67
abbrev Cd:Stmt:=top 68
abbrev Ce:Stmt:=top 69
abbrev Cf:Stmt:=top 72
abbrev Ci:Stmt:=top 73
abbrev Cj:Stmt:=top 74
abbrev Ck:Stmt:=top 75
abbrev Cm:Stmt:=top 76
abbrev Cn:Stmt:=top 77
abbrev Co:Stmt:=inClass (top 45) 0
abbrev Cp:Stmt:=inClass (top 45) 8
abbrev Cq:Stmt:=inClass (top 45) 9
abbrev Cr:Stmt:=inClass (top 45) 5
abbrev kR:Stmt:=inClass (top 45) 3
abbrev Cs:Stmt:=inClass (top 45) 7
abbrev FA:Stmt:=inClass (top 45) 4
abbrev Ct:Stmt:=inClass (top 45) 6
set_option genInjectivity false in
set_option genSizeOf false in
structure FC where
 qM:Addr
 uQ:FuncData
 qN:Addr
 uR:FuncData
 qO:Addr
 uS:FuncData
 qP:Addr
 uT:FuncData
 qQ:Addr
 uU:FuncData
 qR:Addr
 uV:FuncData
 pe:Addr
 qS:FuncData
 qT:Addr
 uW:FuncData
 qU:Addr
 uX:FuncData
 qV:Addr
 uY:FuncData
 qW:Addr
 uZ:FuncData
 qX:Addr
 u3:FuncData
 qY:Addr
 u4:FuncData
 qZ:Addr
 u5:FuncData
 u6:Addr
 yS:FuncData
 q5:Addr
 u7:FuncData
 q8:Addr
 u9:FuncData
 q_:Addr
 u_:FuncData
 rd:Addr
 va:FuncData
 rh:Addr
 vb:FuncData
 rj:Addr
 vc:FuncData
 rn:Addr
 vd:FuncData
 rq:Addr
 ve:FuncData
 rz:Addr
 vg:FuncData
 rA:Addr
 vi:FuncData
 rB:Addr
 vj:FuncData
 rC:Addr
 vk:FuncData
 rD:Addr
 vm:FuncData
 rE:Addr
 vn:FuncData
 rF:Addr
 vo:FuncData
 rH:Addr
 vp:FuncData
 rJ:Addr
 vq:FuncData
 rK:Addr
 vt:FuncData
 rN:Addr
 vv:FuncData
 rO:Addr
 vw:FuncData
 rP:Addr
 vx:FuncData
 rQ:Addr
 vy:FuncData
 rR:Addr
 vz:FuncData
 rT:Addr
 vA:FuncData
 rV:Addr
 vB:FuncData
 rW:Addr
 vC:FuncData
 rY:Addr
 vD:FuncData
 rZ:Addr
 vE:FuncData
 r6:Addr
 vF:FuncData
 r9:Addr
 vG:FuncData
 r_:Addr
 vH:FuncData
 se:Addr
 vI:FuncData
 si:Addr
 vJ:FuncData
 sj:Addr
 vK:FuncData
 sk:Addr
 vL:FuncData
 sq:Addr
 vM:FuncData
 pf:Addr
 su:FuncData
 sv:Addr
 vN:FuncData
 sC:Addr
 vO:FuncData
 sD:Addr
 vP:FuncData
 sE:Addr
 vQ:FuncData
 n_:Addr
 yT:FuncData
 sF:Addr
 vR:FuncData
 vS:Addr
 yU:FuncData
 sG:Addr
 vT:FuncData
 aW:Addr
 sI:Addr
 jw:Addr
 kT:Addr
 oa:Addr
abbrev bU (mg:dG) (x:Str) (f:Addr):Prop:=mg x=some (.ref f)
abbrev Cu (K:aB) (a:Addr):Prop:=PySem.W.excIn K a [.type "ValueError",.type "Exception",.type "BaseException",.type "object"] "ValueError.__new__"=true
structure Txt (K:aB) (mg:dG) (t:FC):Prop where
 vU:aD K "padded" Bw t.qM t.uQ
 Mc:Binds K t.uQ ["world","row","many"] []
 Md:bU mg "padded" t.qM
 sJ:aD K "numbers_of" Bx t.qN t.uR
 FE:Binds K t.uR ["world","wholes","times","bottom"] []
 FF:bU mg "numbers_of" t.qN
 vV:aD K "width" By t.qO t.uS
 Me:Binds K t.uS ["table"] []
 Mf:bU mg "width" t.qO
 vW:aD K "square_size" Bz t.qP t.uT
 Mg:Binds K t.uT ["table"] []
 Mh:bU mg "square_size" t.qP
 sM:aD K "check_aim" BA t.qQ t.uU
 FG:Binds K t.uU ["n","aim"] []
 FH:bU mg "check_aim" t.qQ
 sN:aD K "shifted_size" BB t.qR t.uV
 FI:Binds K t.uV ["row"] []
 FJ:bU mg "shifted_size" t.qR
 mK:aD K "shifted_row" yR t.pe t.qS
 yV:Binds K t.qS ["row","i","many"] []
 yW:bU mg "shifted_row" t.pe
 vX:aD K "shifted_table" BC t.qT t.uW
 Mi:Binds K t.uW ["world","row"] []
 Mj:bU mg "shifted_table" t.qT
 ph:aD K "whole_sum" BD t.qU t.uX
 Cv:Binds K t.uX ["one","other"] []
 Cw:bU mg "whole_sum" t.qU
 vY:aD K "next_pair" BE t.qV t.uY
 Ml:Binds K t.uY ["world","row","pair","last"] []
 Mm:bU mg "next_pair" t.qV
 vZ:aD K "whole_pairs" BF t.qW t.uZ
 Mn:Binds K t.uZ ["world","row"] []
 Mo:bU mg "whole_pairs" t.qW
 v_:aD K "whole_answer" BG t.qX t.u3
 Mp:Binds K t.u3 ["world","row","pairs","aim"] []
 Mq:bU mg "whole_answer" t.qX
 wa:aD K "shifted_undone" BH t.qY t.u4
 Mr:Binds K t.u4 ["world","row","aim"] []
 Ms:bU mg "shifted_undone" t.qY
 sO:aD K "is_whole" BI t.qZ t.u5
 FK:Binds K t.u5 ["thing"] []
 FL:bU mg "is_whole" t.qZ
 Cy:aD K "shortened" Fz t.u6 t.yS
 Xc:Binds K t.yS ["one","other"] []
 Xd:bU mg "shortened" t.u6
 lP:aD K "common_divisor" BJ t.q5 t.u7
 sP:Binds K t.u7 ["one","other"] []
 sQ:bU mg "common_divisor" t.q5
 wb:aD K "is_prime" BK t.q8 t.u9
 Mt:Binds K t.u9 ["number"] []
 Mu:bU mg "is_prime" t.q8
 wc:aD K "ratio" BL t.q_ t.u_
 Mv:Binds K t.u_ ["top","bottom"] []
 Mw:bU mg "ratio" t.q_
 we:aD K "ratio_plus" BM t.rd t.va
 Mz:Binds K t.va ["a","b"] []
 MA:bU mg "ratio_plus" t.rd
 wg:aD K "ratio_minus" BN t.rh t.vb
 MB:Binds K t.vb ["a","b"] []
 MC:bU mg "ratio_minus" t.rh
 pj:aD K "ratio_times" BO t.rj t.vc
 Cz:Binds K t.vc ["a","b"] []
 CA:bU mg "ratio_times" t.rj
 wm:aD K "ratio_over" BP t.rn t.vd
 MD:Binds K t.vd ["a","b"] []
 ME:bU mg "ratio_over" t.rn
 wo:aD K "one_bottom" BQ t.rq t.ve
 MF:Binds K t.ve ["row"] []
 MG:bU mg "one_bottom" t.rq
 wq:aD K "remainder_back" BR t.rz t.vg
 MH:Binds K t.vg ["prime","number"] []
 MI:bU mg "remainder_back" t.rz
 sR:aD K "remainder_over" BS t.rA t.vi
 FN:Binds K t.vi ["prime","a","b"] []
 FO:bU mg "remainder_over" t.rA
 wu:aD K "is_fractions" BU t.rB t.vj
 MJ:Binds K t.vj ["told"] []
 MK:bU mg "is_fractions" t.rB
 wz:aD K "is_wheel" BV t.rC t.vk
 ML:Binds K t.vk ["told"] []
 MM:bU mg "is_wheel" t.rC
 wA:aD K "links_of_place" BW t.rD t.vm
 MN:Binds K t.vm ["world","table","i"] []
 MO:bU mg "links_of_place" t.rD
 wB:aD K "shape_of" BX t.rE t.vn
 MP:Binds K t.vn ["world","table"] []
 MQ:bU mg "shape_of" t.rE
 wC:aD K "neighbours" BY t.rF t.vo
 MR:Binds K t.vo ["shape"] []
 MS:bU mg "neighbours" t.rF
 wD:aD K "is_order" BZ t.rH t.vp
 MT:Binds K t.vp ["thing","n"] []
 MU:bU mg "is_order" t.rH
 wF:aD K "check_order" B0 t.rJ t.vq
 MV:Binds K t.vq ["order","n"] []
 MW:bU mg "check_order" t.rJ
 wG:aD K "turns_of" B2 t.rK t.vt
 MX:Binds K t.vt ["order"] []
 MY:bU mg "turns_of" t.rK
 wH:aD K "link_all" B3 t.rN t.vv
 MZ:Binds K t.vv ["linked","places"] []
 M0:bU mg "link_all" t.rN
 wI:aD K "later" B4 t.rO t.vw
 M3:Binds K t.vw ["shape","order"] []
 M4:bU mg "later" t.rO
 wJ:aD K "place_deeds" B5 t.rP t.vx
 M5:Binds K t.vx ["many"] []
 M6:bU mg "place_deeds" t.rP
 wK:aD K "undo_place" B6 t.rQ t.vy
 M7:Binds K t.vy ["world","work","place","others"] []
 M8:bU mg "undo_place" t.rQ
 wL:aD K "packed" B7 t.rR t.vz
 M9:Binds K t.vz ["world","table","order"] []
 M_:bU mg "packed" t.rR
 wM:aD K "lowered" B8 t.rT t.vA
 Na:Binds K t.vA ["world","work","others","order","aim"] []
 Nb:bU mg "lowered" t.rT
 sS:aD K "raised" B9 t.rV t.vB
 FP:Binds K t.vB ["world","work","others","places","row"] []
 FQ:bU mg "raised" t.rV
 wN:aD K "tied_move" B_ t.rW t.vC
 Nc:Binds K t.vC ["world","work","others","order","many"] []
 Nd:bU mg "tied_move" t.rW
 wO:aD K "along" Ca t.rY t.vD
 Nf:Binds K t.vD ["world","table","order","aim"] []
 Ng:bU mg "along" t.rY
 wQ:aD K "_law_e_fill" Cb t.rZ t.vE
 Nh:Binds K t.vE ["cell","at"] []
 Ni:bU mg "_law_e_fill" t.rZ
 eU:aD K "_law_e_next" Cc t.r6 t.vF
 fV:Binds K t.vF ["pen","many"] []
 fW:bU mg "_law_e_next" t.r6
 pz:aD K "_law_e_low" Cd t.r9 t.vG
 CB:Binds K t.vG ["top","bottom"] []
 CD:bU mg "_law_e_low" t.r9
 mL:aD K "_law_e_of" Ce t.r_ t.vH
 wR:Binds K t.vH ["told","number"] []
 wU:bU mg "_law_e_of" t.r_
 wV:aD K "_law_e_is_number" Cf t.se t.vI
 Nj:Binds K t.vI ["told","a"] []
 Nk:bU mg "_law_e_is_number" t.se
 wW:aD K "_law_e_is_row" Ci t.si t.vJ
 Nl:Binds K t.vJ ["told","found"] []
 Nm:bU mg "_law_e_is_row" t.si
 wX:aD K "_law_e_world" Cj t.sj t.vK
 Nn:Binds K t.vK ["pen"] []
 Np:bU mg "_law_e_world" t.sj
 sV:aD K "_law_e_number" Ck t.sk t.vL
 FR:Binds K t.vL ["pen","told","far"] []
 FT:bU mg "_law_e_number" t.sk
 wY:aD K "_law_e_told_row" Cm t.sq t.vM
 Nq:Binds K t.vM ["pen","told","first"] []
 Nr:bU mg "_law_e_told_row" t.sq
 wZ:aD K "law" Cn t.pf t.su
 Xe:Binds K t.su ["script"] []
 Nt:bU mg "law" t.pf
 yX:dW K "__init__" "World.__init__" Co t.sv t.vN
 Nu:Binds K t.vN ["self","told"] []
 CF:Mk K t.aW t.sv
 yY:dW K "as_wholes" "World.as_wholes" Cp t.sC t.vO
 FU:Binds K t.vO ["self","row"] []
 yZ:Meth K t.aW "as_wholes" t.sC
 y1:dW K "evenly" "World.evenly" Cq t.sD t.vP
 y2:Binds K t.vP ["self","row","by"] []
 sX:Meth K t.aW "evenly" t.sD
 y3:dW K "minus" "World.minus" Cr t.sE t.vQ
 CG:Binds K t.vQ ["self","a","b"] []
 w5:Meth K t.aW "minus" t.sE
 Nv:jQ K "of" "World.of" kR 1 t.n_ t.yT
 FV:Binds K t.yT ["self","top","bottom"] []
 y4:∃v,Vals [V.int 1] [v]∧Binds K t.yT ["self","top","bottom"] [v]
 Xf:∀(s:Shared) (us ws:List Value),K.In s.heap→ws.length=1→us.length+1=(["self","top","bottom"]:List Str).length→BindsTo s t.yT ⟨us,[("bottom":Str)].zip ws⟩ ((["self","top","bottom"]:List Str).zip (us++ws))
 pA:Meth K t.aW "of" t.n_
 y6:dW K "over" "World.over" Cs t.sF t.vR
 FW:Binds K t.vR ["self","a","b"] []
 y7:Meth K t.aW "over" t.sF
 CH:dW K "plus" "World.plus" FA t.vS t.yU
 Xg:Binds K t.yU ["self","a","b"] []
 FX:Meth K t.aW "plus" t.vS
 y8:dW K "times" "World.times" Ct t.sG t.vT
 CI:Binds K t.vT ["self","a","b"] []
 w6:Meth K t.aW "times" t.sG
 cS:lB K t.aW
 Nw:bU mg "World" t.aW
 iC:qk K t.aW "prime"
 Nx:bU mg "NoWorld" t.sI
 CJ:bU mg "NoOver" t.jw
 y9:bU mg "NoFit" t.kT
 Ny:bU mg "NoOrder" t.oa
 Xh:mg "ValueError"=none
 y_:mg "abs"=none
 FY:mg "all"=none
 Nz:mg "any"=none
 za:mg "bool"=none
 CK:mg "enumerate"=none
 zb:mg "int"=none
 iD:mg "isinstance"=none
 cZ:mg "len"=none
 jZ:mg "list"=none
 Xi:mg "max"=none
 NA:mg "min"=none
 iZ:mg "range"=none
 NB:mg "reversed"=none
 FZ:mg "sorted"=none
 F0:mg "sum"=none
 sY:mg "tuple"=none
 zc:mg "zip"=none
 NC:∃u,mg "GREATEST_PRIME"=some u∧RelV (.int 997) u
 ND:∃u,mg "LONG"=some u∧RelV (.int 2048) u
 NF:∃u,mg "MOST"=some u∧RelV (.int 40) u
 NG:Cu K t.sI
 CL:Cu K t.jw
 zd:Cu K t.kT
 NH:Cu K t.oa
section
variable {P:Program} {w:World} {K:aB} {mg:dG} {base:Heap} {t:FC}
theorem Xj:bG ["thing"] ["thing"] (aN BI):=bQ
theorem NI(T:Txt K mg t):a_ P w K mg base b8 1 t.qZ t.u5 ["thing"] SA:=by
 have S:=Xj;refine T.sO.cC S (fun _ _ _ _ H _ Q _ hr h=>?_);obtain ⟨v,rfl,ha,k⟩:=h;refine ⟨_,(ax (aT (nh (bP (iV (K:=K)) rfl T.iD boot_isinstance (aa (pv 0) (aa (iM (v:=.ty "int") rfl T.zb boot_int rfl) ae))) (tX (Io (bP (iV (K:=K)) rfl T.iD boot_isinstance (aa (pv 0) (aa (iM (v:=.ty "bool") rfl T.za boot_bool rfl) ae)))))))),?_⟩;obtain ⟨Ty,ty,k1,k2,_⟩:=ha.DZ (K:=K);refine ⟨_,rfl,_,_,_,_,rfl,rfl,ty,k1,_,rfl,cu (fun h1=>?_) (fun h1=>?_)⟩
 ·refine ⟨_,rfl,_,_,_,_,rfl,rfl,ty,k2,_,rfl,?_⟩
  have e:(!ue v)=ud v:=by
   cases h2:ue v with
   | true=>rw [Sy h2];rfl
   | false=>rw [h2,Bool.or_false] at h1;rw [h1];rfl
  show Q (.bl (!ue v)) H;rw [e];exact k
 ·have e:ud v=false:=by
   cases h2:ud v with
   | true=>rw [h2] at h1;exact absurd rfl h1
   | false=>rfl
  rw [e] at k;exact k
theorem Xk:bG ["one","other","left","shorter"] ["one","other"] (aN BJ):=bQ
theorem w9(T:Txt K mg t):a_ P w K mg base b8 1 t.q5 t.u7 ["one","other"] SD:=by
 have S:=Xk;obtain ⟨uL,hL,rL⟩:=T.ND;refine T.lP.cC S (fun _ _ _ _ H _ _ _ hr h=>?_);obtain ⟨a,b,rfl,mb,k⟩:=h
 refine ⟨_,(aq (putL 0 S.nd (bP Am rfl T.y_ boot_abs (aa (pv 0) ae)))
  (aq (putL 1 S.nd (bP Am rfl T.y_ boot_abs (aa (pv 1) ae)))
  (aq (xY e_ (bN qh (pv 1) af) (aq (putL 2 S.nd (au fO (pv 0) (pv 1)))
  (aq (putL 0 S.nd (pv 1))
  (aq (putL 1 S.nd (pv 2))
  (ax (bV (bN qh (RF PySem.F.plainAttrs_int PySem.F.slot_int_bit_length PySem.F.type_int_bit_length Sv (pv 0)) (Dt (v:=.int 2048) rfl hL rL)) Qc b7))))))
  (ax (aT (pv 0)))))),?_⟩
 refine ⟨_,rfl,a,rfl,_,rfl,b,rfl,fun m σ H'=>H'=H∧∃(x y:Nat) (v u:Option V),σ=[some (.int (x:Int)),some (.int (y:Int)),v,u]∧m=y∧y≤b.natAbs∧Nat.gcd x y=Int.gcd a b,⟨b.natAbs,rfl,a.natAbs,b.natAbs,none,none,?_,rfl,aE _,rfl⟩,?_⟩
 ·show [some (V.int (if a<0 then -a else a)),some (V.int (if b<0 then -b else b)),none,none]=_
  rw [AM,AM]
 ·rintro m σ H' ⟨rfl,x,y,v,u,rfl,em,hb,hg⟩
  refine ⟨_,rfl,_,_,rfl,rfl,_,rfl,cu (fun hy=>?_) (fun hy=>?_)⟩
  ·have hy:(0:Int)<y:=fN hy
   refine ⟨fun σ' H2=>H2=H'∧σ'=[some (.int (y:Int)),some (.int (((x % y:Nat)):Int)),some (.int (((x % y:Nat)):Int)),u],?_,?_⟩
   ·rintro σ' H2 ⟨rfl,rfl⟩
    exact ⟨x % y,by rw [em];exact Nat.mod_lt _ (by lia),rfl,y,x % y,_,_,rfl,rfl,aj (Nat.le_of_lt (Nat.mod_lt _ (by lia))) hb,by rw [JV];exact hg⟩
   ·have hm:a8 (y:Int):=fE (by rw [Int.natAbs_natCast];exact hb) mb
    have hbt:=Sx hm;refine ⟨_,rfl,_,rfl,_,_,rfl,rfl,hy,_,rfl,_,rfl,_,rfl,rfl,_,rfl,rfl,_,_,rfl,rfl,_,rfl,cu (fun hz=>?_) (fun _=>⟨rfl,rfl⟩)⟩;have hz:=fN hz;exact absurd hz (by lia)
  ·have hy:¬(0:Int)<y:=fun z=>hy (dC z)
   have y0:y=0:=by lia
   subst y0;rw [Nat.gcd_zero_right] at hg;rw [←hg] at k;exact ⟨_,rfl,k⟩
theorem Xl:bG ["number","divisor"] ["number"] (aN BK):=bQ
theorem Xm(T:Txt K mg t):a_ P w K mg base b8 1 t.q8 t.u9 ["number"] SE:=by
 have S:=Xl;refine T.wb.cC S (fun _ _ _ _ H _ Q _ hr h=>?_);obtain ⟨n,rfl,Xn,t6,k⟩:=h
 refine ⟨_,(aq (putL 1 S.nd af)
  (aq (xY e_ (bN Aj (au fe (pv 1) (pv 1)) (pv 0)) (aq (bV (bN fo (au fO (pv 0) (pv 1)) af) (ax (aT i_)) b7)
  (ax (Ql (i:=1) S.nd rfl (Or.inl rfl) af Qo))))
  (ax (aT (qi Ak (pv 0) af))))),?_⟩
 refine ⟨fun m σ H'=>H'=H∧∃d:Int,σ=[some (.int n),some (.int d)]∧2≤d∧d≤32∧m=(33-d).toNat∧∀e:Int,2≤e→e<d→n % e≠0,⟨_,rfl,2,rfl,by lia,by lia,rfl,fun e a b=>by lia⟩,?_⟩
 rintro m σ H' ⟨rfl,d,rfl,h1,h2,rfl,h3⟩;refine ⟨_,rfl,_,rfl,_,_,rfl,rfl,.inl ⟨by lia,by lia⟩,_,rfl,_,_,rfl,rfl,_,rfl,cu (fun hq=>?_) (fun hq=>?_)⟩
 ·have hq:=fN hq
  have hd:d<32:=by
   by_cases z:d<32;·exact z
   ·have:d=32:=by lia
    subst this;lia
  refine ⟨fun σ' H2=>H2=H'∧σ'=[some (.int n),some (.int (d+1))]∧n % d≠0,?_,?_⟩
  ·rintro σ' H2 ⟨rfl,rfl,hm⟩
   refine ⟨(33-(d+1)).toNat,by lia,rfl,d+1,rfl,by lia,by lia,rfl,fun e a b=>?_⟩
   by_cases z:e=d;·subst z;exact hm
   ·exact h3 e a (by lia)
  ·refine ⟨_,rfl,_,rfl,_,_,rfl,rfl,(show (0:Int)<d by lia),rfl,_,rfl,cu (fun hm=>?_) (fun hm=>?_)⟩
   ·have hm:=V.int.inj (fN hm)
    rw [JM t6 h1 hq hm] at k;exact k
   ·exact ⟨_,rfl,_,_,rfl,rfl,rfl,rfl,fun z=>hm (dC (eY V.int z))⟩
 ·have hq:¬d*d≤n:=fun z=>hq (dC z)
  refine ⟨_,rfl,_,_,rfl,rfl,?_⟩;rw [Sn (n:=n) (d:=d) (by lia) h1 h3] at k
  have e:decide ((2:Int)≤n)=true:=dC Xn;show Q (.bl (decide ((2:Int)≤n))) H';rw [e];exact k
theorem Xo:bG ["told"] ["told"] (aN BU):=bQ
theorem Xp(T:Txt K mg t):a_ P w K mg base b8 1 t.rB t.vj ["told"] SF:=by
 have S:=Xo;refine T.wu.cC S (fun _ _ _ _ H _ _ _ hr h=>?_);obtain ⟨p,d,rfl,hp,k⟩:=h;refine ⟨_,(ax (aT (nh (bP (iV (K:=K)) rfl T.iD boot_isinstance (aa (pv 0) (aa (iM (v:=.ty "tuple") rfl T.sY boot_tuple rfl) ae))) (nh (qi fo (bP di rfl T.cZ c_ (aa (pv 0) ae)) af) (tX (qi fo (aw a7 (pv 0) af) fc)))))),?_⟩;refine ⟨_,rfl,_,_,_,true,rfl,rfl,.of (.tup hp),nC,true,rfl,eF ?_⟩;cases d with
 | a x=>refine ⟨_,rfl,p,_,rfl,.inr (.of hp),rfl,true,rfl,eF ?_⟩;refine ⟨_,rfl,p,_,0,.str x,rfl,rfl,.of hp,rfl,rfl,?_⟩;rw [D_];exact k
 | b x n=>exact ⟨_,rfl,p,_,rfl,.inr (.of hp),rfl,false,rfl,cE k⟩
theorem Xq:bG ["told"] ["told"] (aN BV):=bQ
theorem Xr(T:Txt K mg t):a_ P w K mg base b8 2 t.rC t.vk ["told"] SG:=by
 have S:=Xq;obtain ⟨uG,hG,rG⟩:=T.NC;refine T.wz.cC S (fun _ _ _ _ H _ _ _ hr h=>?_);obtain ⟨p,d,rfl,hp,k⟩:=h
 refine ⟨_,(aq (bV (PW.pt (pw_or (l5 (iO (bP (iV (K:=K)) rfl T.iD boot_isinstance (aa (pv 0) (aa (iM (v:=.ty "tuple") rfl T.sY boot_tuple rfl) ae))))) (pw_or (bN kq (bP di rfl T.cZ c_ (aa (pv 0) ae)) af) (pw_or1 (bN kq (aw a7 (pv 0) af) fc))))) (ax (aT i_)) b7)
  (ax (aT (nh (aM (NI T) hr T.FL T.sO.kp T.FK aP (aa (aw a7 (pv 0) af) ae)) (nh (IL Aj Aj af (aw a7 (pv 0) af) (Dt (v:=.int 997) rfl hG rG)) (tX (aM (Xm T) hr T.Mu T.wb.kp T.Mt aP (aa (aw a7 (pv 0) af) ae)))))))),?_⟩
 refine ⟨_,rfl,_,_,_,true,rfl,rfl,.of (.tup hp),nC,true,rfl,cE ?_⟩;cases d with
 | a x=>exact ⟨_,rfl,p,_,rfl,.inr (.of hp),rfl,true,rfl,eF (eF k)⟩
 | b x n=>
  refine ⟨_,rfl,p,_,rfl,.inr (.of hp),rfl,false,rfl,cE ?_⟩;refine ⟨_,rfl,p,_,0,.str x,rfl,rfl,.of hp,rfl,rfl,_,rfl,cu (fun hw=>?_) (fun hw=>?_)⟩
  ·have hw:¬x="wheel":=by rw [D_] at hw;simpa using hw
   have e:(Td.b x n).kz=false:=by simp [Td.kz,hw]
   rw [e] at k;exact k
  ·have hw:x="wheel":=by rw [D_] at hw;simpa using hw
   refine ⟨_,rfl,p,_,1,.int n,rfl,rfl,.of hp,rfl,.int n,rfl,.int n,true,rfl,eF ?_⟩;refine ⟨_,rfl,p,_,1,.int n,rfl,rfl,.of hp,rfl,_,_,rfl,rfl,_,rfl,?_⟩;refine cu (fun h2=>?_) (fun h2=>?_)
   ·have h2:=fN h2
    refine ⟨_,_,rfl,rfl,_,rfl,cu (fun h3=>?_) (fun h3=>?_)⟩
    ·have h3:=fN h3
     refine ⟨_,rfl,p,_,1,.int n,rfl,rfl,.of hp,rfl,n,rfl,h2,h3,?_⟩;have e:(Td.b x n).kz=jN n:=by simp [Td.kz,hw,h2,h3]
     rw [e] at k;exact k
    ·have h3:¬n≤997:=fun z=>h3 (dC z)
     have e:(Td.b x n).kz=false:=by simp [Td.kz,h3]
     rw [e] at k;exact k
   ·have h2:¬2≤n:=fun z=>h2 (dC z)
    have e:(Td.b x n).kz=false:=by simp [Td.kz,h2]
    rw [e] at k;exact ⟨false,rfl,cE k⟩
theorem Xs:bG ["self","told"] ["self","told"] (aN Co):=bQ
theorem Xt(T:Txt K mg t):a_ P w K mg base (dO P w) 3 t.sv t.vN ["self","told"] (SH t.aW t.sI):=by
 have S:=Xs;refine T.yX.eM S (fun _ _ _ _ H _ _ _ hr h L=>?_);obtain ⟨x,dx,p,d,rfl,hx,hp,k1,k2⟩:=h;refine ⟨_,(ax (bV (iO (aM (Xp T) hr T.MK T.wu.kp T.MJ aP (aa (pv 1) ae))) (ax (IV (pv 0) ng rfl)) (ax (bV (iO (aM (Xr T) hr T.MM T.wz.kp T.ML aP (aa (pv 1) ae))) (ax (IV (pv 0) (aw a7 (pv 1) af) rfl)) (ax (nB L rfl m6 T.NG rfl T.Nx (aa fc ae))))))),?_⟩;refine ⟨_,rfl,p,d,rfl,hp,_,rfl,cu (fun hF=>?_) (fun hF=>?_)⟩
 ·refine ⟨_,rfl,x,t.aW,dx,[],rfl,hx,T.cS,T.iC,(by show 0<1000;decide),?_⟩
  have e:d.prime=.bh:=by
   cases d with
   | a x=>rfl
   | b x n=>cases hF
  have k:=k1 (by unfold Td.good;rw [hF];rfl)
  rw [e] at k;exact k
 ·have hF:d.yd=false:=by simpa using hF
  refine ⟨_,rfl,p,d,rfl,hp,_,rfl,cu (fun hW=>?_) (fun hW=>?_)⟩
  ·have k:=k1 (by unfold Td.good;rw [hW,Bool.or_true])
   cases d with
   | a x=>cases hW
   | b y n=>exact ⟨_,rfl,p,_,1,.int n,rfl,rfl,.of hp,rfl,_,rfl,x,t.aW,dx,[],rfl,hx,T.cS,T.iC,(by show 0<1000;decide),k⟩
  ·have hW:d.kz=false:=by simpa using hW
   exact ⟨by show 1≤sizeLine;decide,k2 (by unfold Td.good;rw [hF,hW];rfl)⟩
theorem Xu:bG ["top","bottom","shared"] ["top","bottom"] (aN BL):=bQ
theorem Xv(T:Txt K mg t):a_ P w K mg base (dO P w) 2 t.q_ t.u_ ["top","bottom"] (S8 t.jw):=by
 have S:=Xu;refine T.wc.eM S (fun _ _ _ _ H _ _ _ hr h L=>?_);obtain ⟨a,b,rfl,mb,kE,k⟩:=h
 refine ⟨_,(aq (bV (bN fo (pv 1) af) (ax (nB L rfl m6 T.CL rfl T.CJ (aa fc ae))) b7)
  (fb.l7 (aq (putL 2 S.nd (aM (w9 T) hr T.sQ T.lP.kp T.sP aP (aa (pv 0) (aa (pv 1) ae))))
  (aq (bV (bN kr (pv 1) af) (ax (putL 2 S.nd (lq lA (pv 2)))) b7)
  (ax (aT (eE (aa (au yl (pv 0) (pv 2)) (aa (au yl (pv 1) (pv 2)) ae))))))))),?_⟩
 have n2:2≤sizeLine:=by decide
 refine ⟨_,rfl,rfl,_,rfl,cu (fun hz=>?_) (fun hz=>?_)⟩
 ·have hz:b=0:=V.int.inj (fN hz)
  exact ⟨by show 1≤sizeLine;decide,kE hz⟩
 have hz:b≠0:=fun z=>hz (dC (by rw [z]))
 have ok:=JW (a:=a) hz mb;have kk:=k hz;unfold jn jo at kk;refine ⟨_,rfl,_,rfl,a,b,rfl,mb,_,rfl,_,_,rfl,rfl,_,rfl,cu (fun hn=>?_) (fun hn=>?_)⟩
 ·have hn:b<0:=fN hn
  have e:lowG a b=-(Int.gcd a b:Int):=by unfold lowG;rw [ai hn,oB]
  rw [e] at ok kk;refine ⟨_,rfl,_,rfl,_,rfl,_,rfl,_,_,rfl,rfl,ok,_,rfl,_,rfl,_,_,rfl,rfl,ok,n2,fun r hr=>kk r _ (aO hr) az⟩
 ·have hn:¬b<0:=fun z=>hn (dC z)
  have e:lowG a b=(Int.gcd a b:Int):=by unfold lowG;rw [ao hn]
  rw [e] at ok kk;refine ⟨_,rfl,_,rfl,_,_,rfl,rfl,ok,_,rfl,_,rfl,_,_,rfl,rfl,ok,n2,fun r hr=>kk r _ (aO hr) az⟩
theorem Xw:bG ["prime","number","last","last_times","now","now_times","fits","left","left_times"] ["prime","number"] (aN BR):=bQ
theorem Xx(T:Txt K mg t):a_ P w K mg base (dO P w) 1 t.rz t.vg ["prime","number"] (SX t.jw):=by
 have S:=Xw;refine T.wq.eM S (fun _ _ _ _ H _ _ _ hr h L=>?_);obtain ⟨q,b,rfl,q1,q2,q3,b0,b1,kE,k⟩:=h
 refine ⟨_,(aq (bV (bN fo (pv 1) af) (ax (nB L rfl m6 T.CL rfl T.CJ (aa fc ae))) b7)
  (fb.l7 (aq (putL 2 S.nd (pv 0))
  (aq (putL 3 S.nd af)
  (aq (putL 4 S.nd (pv 1))
  (aq (putL 5 S.nd af)
  (aq (xY e_ (bN qh (pv 4) af) (aq (putL 6 S.nd (au t4 (pv 2) (pv 4)))
  (aq (putL 7 S.nd (au gZ (pv 2) (au fe (pv 6) (pv 4))))
  (aq (putL 8 S.nd (au gZ (pv 3) (au fe (pv 6) (pv 5))))
  (aq (putL 2 S.nd (pv 4))
  (aq (putL 3 S.nd (pv 5))
  (aq (putL 4 S.nd (pv 7))
  (ax (putL 5 S.nd (pv 8))))))))))
  (ax (aT (au fO (pv 5) (pv 0))))))))))),?_⟩
 refine ⟨_,rfl,rfl,_,rfl,cu (fun hz=>?_) (fun hz=>?_)⟩
 ·have hz:b=0:=V.int.inj (fN hz)
  exact ⟨by show 1≤sizeLine;decide,kE hz⟩
 have hz:b≠0:=fun z=>hz (dC (by rw [z]))
 refine ⟨_,rfl,_,rfl,fun m σ H'=>H'=H∧∃(l lt n nt:Int) (v1 v2 v3:Option V),σ=[some (.int q),some (.int b),some (.int l),some (.int lt),some (.int n),some (.int nt),v1,v2,v3]∧m=n.toNat∧nE q b l lt n nt∧l≤997,
  ⟨b.toNat,rfl,q,0,b,1,none,none,none,rfl,rfl,nE.start q1 q2 q3 (by lia) b1,q2⟩,?_⟩
 rintro m σ H' ⟨rfl,l,lt,n,nt,v1,v2,v3,rfl,em,hb,hl⟩;have p1:=hb.pos;have p2:=hb.less;refine ⟨_,rfl,_,_,rfl,rfl,_,rfl,cu (fun hy=>?_) (fun hy=>?_)⟩
 ·have hy:1<n:=fN hy
  have hs:=hb.step hy;have f0:0≤l / n:=xJ (by lia) (by lia)
  have f1:l / n≤l:=Int.ediv_le_self _ (by lia)
  refine ⟨fun σ' H2=>H2=H'∧σ'=[some (.int q),some (.int b),some (.int n),some (.int nt),some (.int (l-l / n*n)),some (.int (lt-l / n*nt)),some (.int (l / n)),some (.int (l-l / n*n)),some (.int (lt-l / n*nt))],?_,?_⟩
  ·rintro σ' H2 ⟨rfl,rfl⟩
   exact ⟨(l-l / n*n).toNat,by rw [em];lia,rfl,_,_,_,_,_,_,_,rfl,rfl,hs.1,by lia⟩
  ·exact ⟨_,rfl,_,rfl,_,_,rfl,rfl,⟨by lia,by lia⟩,_,rfl,_,rfl,_,rfl,_,_,rfl,rfl,.inr ⟨by lia,by lia⟩,_,_,rfl,rfl,
    _,rfl,_,rfl,_,rfl,_,_,rfl,rfl,.inl ⟨by lia,by lia⟩,_,_,rfl,rfl,_,rfl,_,rfl,_,rfl,_,rfl,rfl,rfl⟩
 ·have hy:¬1<n:=fun z=>hy (dC z)
  have n1:n=1:=by lia
  subst n1;exact ⟨_,rfl,_,rfl,_,_,rfl,rfl,(show (0:Int)<q by lia),k hz _ (f_ _ (by lia)) (gU _ (by lia)) (hb.done q1)⟩
theorem Xy:bG ["prime","a","b"] ["prime","a","b"] (aN BS):=bQ
theorem NJ(T:Txt K mg t):a_ P w K mg base (dO P w) 2 t.rA t.vi ["prime","a","b"] (S0 t.jw):=by
 have S:=Xy;refine T.sR.eM S (fun _ _ _ _ H _ _ _ hr h L=>?_);obtain ⟨q,i,j,rfl,q1,q2,q3,i0,i1,j0,j1,kE,k⟩:=h;refine ⟨_,(ax (aT (au fO (au fe (pv 1) (aM (Xx T) hr T.MI T.wq.kp T.MH (lD L) (aa (pv 0) (aa (pv 2) ae)))) (pv 0)))),?_⟩
 exact ⟨_,rfl,_,rfl,_,rfl,q,j,rfl,q1,q2,q3,j0,j1,kE,fun hj r r0 r1 i3=>⟨_,_,rfl,rfl,.inl ⟨by lia,by lia⟩,_,rfl,_,_,rfl,rfl,(show (0:Int)<q by lia),
  k hj _ (f_ _ (by lia)) (gU _ (by lia)) (S3 q1 i0 i1 i3)⟩⟩
theorem Xz:bG ["self","top","bottom"] ["self","top","bottom"] (aN kR):=bQ
theorem w_(T:Txt K mg t):a_ P w K mg base (dO P w) 3 t.n_ t.yT ["self","top","bottom"] (S9 t.aW t.jw):=by
 have S:=Xz;refine T.Nv.DY S (fun vs H Q E h=>?_) (fun bq A outer s H vs Q E hr h L=>?_)
 ·obtain ⟨z,q,a,b,rfl,_⟩:=h
  rfl
 ·obtain ⟨z,q,a,b,rfl,⟨dx,hx⟩,hq,mb,kE,k⟩:=h
  refine ⟨_,(aq (bV (bN t5 (jG (pv 0) rfl) ng) (ax (aT (aM (Xv T) hr T.Mw T.wc.kp T.Mv (lD L) (aa (pv 1) (aa (pv 2) ae))))) b7)
   (ax (aT (aM (NJ T) hr T.FO T.sR.kp T.FN (lD L) (aa (jG (pv 0) rfl) (aa (au fO (pv 1) (jG (pv 0) rfl)) (aa (au fO (pv 2) (jG (pv 0) rfl)) ae))))))),?_⟩
  refine ⟨_,rfl,z,t.aW,dx,_,_,rfl,hx,T.cS,T.iC,jP _,rfl,_,rfl,?_⟩;rcases hq with rfl | ⟨q2,q3,q4⟩
  ·rw [ai rfl]
   refine eF ⟨_,rfl,_,rfl,a,b,rfl,mb,fun hb=>kE (by unfold mi;rw [ai rfl];exact hb),fun hb r H' s' er=>k (fun hn=>hb (by unfold mi at hn;rw [ai rfl] at hn;exact hn)) _ H' s' (.inl ⟨rfl,r,rfl,er⟩)⟩
  ·have hq:q≠0:=by lia
   rw [ao hq] at hx ⊢;have p0:(0:Int)<q:=by lia
   refine cE ⟨_,rfl,z,t.aW,dx,_,_,rfl,hx,T.cS,T.iC,jP _,_,rfl,_,rfl,z,t.aW,dx,_,_,rfl,hx,T.cS,T.iC,jP _,_,_,rfl,rfl,p0,_,rfl,_,rfl,z,t.aW,dx,_,_,rfl,hx,T.cS,T.iC,jP _,_,_,rfl,rfl,p0,?_⟩;have nv:mi q b↔b % q=0:=by unfold mi;rw [ao hq]
   exact ⟨q,a % q,b % q,rfl,q2,q3,q4,f_ _ hq,gU _ p0,f_ _ hq,gU _ p0,fun hj=>kE (nv.mpr hj),fun hj r r0 r1 i3=>k (fun z=>hj (nv.mp z)) _ H (ag.refl H) (.inr ⟨q2,r,rfl,r0,r1,i3⟩)⟩
theorem XA:bG ["a","b","shared","top","again"] ["a","b"] (aN BM):=bQ
theorem XB(T:Txt K mg t):a_ P w K mg base b8 2 t.rd t.va ["a","b"] SS:=by
 have S:=XA;refine T.we.cC S (fun _ _ _ _ H _ _ _ hr h=>?_);obtain ⟨p,q,x,m,y,n,rfl,hp,hq,la,lb,bx,bm,gv,bn,k⟩:=h
 refine ⟨_,(aq (putL 2 S.nd (aM (w9 T) hr T.sQ T.lP.kp T.sP aP (aa (aw a7 (pv 0) af) (aa (aw a7 (pv 1) af) ae))))
  (aq (bV (bN fo (pv 2) af) (ax (aT (eE (aa (au dU (au eN (aw a7 (pv 0) af) (aw a7 (pv 1) af)) (au eN (aw a7 (pv 1) af) (aw a7 (pv 0) af))) (aa (au eN (aw a7 (pv 0) af) (aw a7 (pv 1) af)) ae))))) b7)
  (aq (putL 3 S.nd (au dU (au eN (aw a7 (pv 0) af) (au kA (aw a7 (pv 1) af) (pv 2))) (au eN (aw a7 (pv 1) af) (au kA (aw a7 (pv 0) af) (pv 2)))))
  (aq (putL 4 S.nd (aM (w9 T) hr T.sQ T.lP.kp T.sP aP (aa (pv 3) (aa (pv 2) ae))))
  (ax (aT (eE (aa (au kA (pv 3) (pv 4)) (aa (au eN (au kA (aw a7 (pv 0) af) (pv 2)) (au kA (aw a7 (pv 1) af) (pv 4))) ae))))))))),?_⟩
 have n2:2≤sizeLine:=by decide
 have m0:=la.pos;have n0:=lb.pos;refine ⟨_,rfl,p,_,_,_,rfl,rfl,.of hp,rfl,_,rfl,q,_,_,_,rfl,rfl,.of hq,rfl,m,n,rfl,bn.mid,?_⟩;have gp:(0:Int)<(Int.gcd m n:Int):=AO (by lia)
 have gb:cj (Int.gcd m n:Int):=bn.gcd (by lia)
 refine ⟨_,rfl,rfl,_,rfl,cu (fun e=>?_) (fun _=>?_)⟩
 ·have e:Int.gcd m n=1:=by have z:=fN e;have z:=V.int.inj z;lia
  exact ⟨_,rfl,p,_,_,_,rfl,rfl,.of hp,rfl,_,rfl,q,_,_,_,rfl,rfl,.of hq,rfl,_,_,rfl,rfl,⟨bx.mid,bn.mid⟩,
   _,rfl,q,_,_,_,rfl,rfl,.of hq,rfl,_,rfl,p,_,_,_,rfl,rfl,.of hp,rfl,_,_,rfl,rfl,⟨gv.mid,bm.mid⟩,_,_,rfl,rfl,
   _,rfl,p,_,_,_,rfl,rfl,.of hp,rfl,_,rfl,q,_,_,_,rfl,rfl,.of hq,rfl,_,_,rfl,rfl,⟨bm.mid,bn.mid⟩,n2,fun r hr=>k r _ _ _ (aO hr) az (SO la lb e) rfl⟩
 refine ⟨_,rfl,p,_,_,_,rfl,rfl,.of hp,rfl,_,rfl,q,_,_,_,rfl,rfl,.of hq,rfl,_,rfl,_,_,rfl,rfl,⟨gp,gb.mid⟩,_,_,rfl,rfl,⟨bx.mid,bn.over.mid⟩,
  _,rfl,q,_,_,_,rfl,rfl,.of hq,rfl,_,rfl,p,_,_,_,rfl,rfl,.of hp,rfl,_,rfl,_,_,rfl,rfl,⟨gp,gb.mid⟩,_,_,rfl,rfl,⟨gv.mid,bm.over.mid⟩,_,_,rfl,rfl,?_⟩
 refine ⟨_,rfl,_,rfl,_,_,rfl,gb.mid,?_⟩;have ap:(0:Int)<(Int.gcd (x*(n / (Int.gcd m n:Int))+y*(m / (Int.gcd m n:Int))) (Int.gcd m n:Int):Int):=AO (by lia)
 have ab:cj (Int.gcd (x*(n / (Int.gcd m n:Int))+y*(m / (Int.gcd m n:Int))) (Int.gcd m n:Int):Int):=gb.gcd (by lia)
 have z:=SQ la lb _ _ rfl _ rfl rfl
 exact ⟨_,rfl,_,rfl,_,_,rfl,rfl,⟨ap,ab.mid⟩,_,rfl,p,_,_,_,rfl,rfl,.of hp,rfl,_,rfl,_,_,rfl,rfl,⟨gp,gb.mid⟩,_,rfl,q,_,_,_,rfl,rfl,.of hq,rfl,_,rfl,_,_,rfl,rfl,⟨ap,ab.mid⟩,_,_,rfl,rfl,⟨bm.over.mid,bn.over.mid⟩,n2,
  fun r hr=>k r _ _ _ (aO hr) az z.1 z.2⟩
theorem XC:bG ["a","b"] ["a","b"] (aN BN):=bQ
theorem XD(T:Txt K mg t):a_ P w K mg base b8 3 t.rh t.vb ["a","b"] SU:=by
 have S:=XC;refine T.wg.cC S (fun _ _ _ _ H _ _ _ hr h=>?_);obtain ⟨p,q,x,m,y,n,rfl,hp,hq,la,lb,bx,bm,gv,bn,k⟩:=h;refine ⟨_,(ax (aT (aM (XB T) hr T.MA T.we.kp T.Mz aP (aa (pv 0) (aa (eE (aa (lq lA (aw a7 (pv 1) af)) (aa (aw a7 (pv 1) af) ae))) ae))))),?_⟩
 exact ⟨_,rfl,_,rfl,q,_,_,_,rfl,rfl,.of hq,rfl,_,rfl,_,rfl,q,_,_,_,rfl,rfl,.of hq,rfl,by show 2≤sizeLine;decide,fun r hr=>⟨p,r,x,m,-y,n,rfl,aO hr _ _ hp,az,la,lb.neg,bx,bm,gv.neg,bn,
  fun r' H' u d s' e l z=>k r' H' u d ((aO hr).trans s') e l (by rw [z,tT,z8])⟩⟩
theorem XE:bG ["a","b","first","second"] ["a","b"] (aN BO):=bQ
theorem F5(T:Txt K mg t):a_ P w K mg base b8 2 t.rj t.vc ["a","b"] SV:=by
 have S:=XE;refine T.pj.cC S (fun _ _ _ _ H _ _ _ hr h=>?_);obtain ⟨p,q,x,m,y,n,rfl,hp,hq,la,lb,bx,bm,gv,bn,k⟩:=h
 refine ⟨_,(aq (putL 2 S.nd (aM (w9 T) hr T.sQ T.lP.kp T.sP aP (aa (aw a7 (pv 0) af) (aa (aw a7 (pv 1) af) ae))))
  (aq (putL 3 S.nd (aM (w9 T) hr T.sQ T.lP.kp T.sP aP (aa (aw a7 (pv 1) af) (aa (aw a7 (pv 0) af) ae))))
  (ax (aT (eE (aa (au eN (au kA (aw a7 (pv 0) af) (pv 2)) (au kA (aw a7 (pv 1) af) (pv 3))) (aa (au eN (au kA (aw a7 (pv 0) af) (pv 3)) (au kA (aw a7 (pv 1) af) (pv 2))) ae))))))),?_⟩
 have n2:2≤sizeLine:=by decide
 have m0:=la.pos;have n0:=lb.pos;have gp:(0:Int)<(Int.gcd x n:Int):=AO (by lia)
 have gb:cj (Int.gcd x n:Int):=bn.gcd (by lia)
 have ap:(0:Int)<(Int.gcd y m:Int):=AO (by lia)
 have ab:cj (Int.gcd y m:Int):=bm.gcd (by lia)
 refine ⟨_,rfl,p,_,_,_,rfl,rfl,.of hp,rfl,_,rfl,q,_,_,_,rfl,rfl,.of hq,rfl,x,n,rfl,bn.mid,?_⟩;refine ⟨_,rfl,q,_,_,_,rfl,rfl,.of hq,rfl,_,rfl,p,_,_,_,rfl,rfl,.of hp,rfl,y,m,rfl,bm.mid,?_⟩;have z:=SK la lb
 exact ⟨_,rfl,p,_,_,_,rfl,rfl,.of hp,rfl,_,rfl,_,_,rfl,rfl,⟨gp,gb.mid⟩,_,rfl,q,_,_,_,rfl,rfl,.of hq,rfl,_,rfl,_,_,rfl,rfl,⟨ap,ab.mid⟩,_,_,rfl,rfl,⟨bx.over.mid,gv.over.mid⟩,
  _,rfl,p,_,_,_,rfl,rfl,.of hp,rfl,_,rfl,_,_,rfl,rfl,⟨ap,ab.mid⟩,_,rfl,q,_,_,_,rfl,rfl,.of hq,rfl,_,rfl,_,_,rfl,rfl,⟨gp,gb.mid⟩,_,_,rfl,rfl,⟨bm.over.mid,bn.over.mid⟩,n2,
  fun r hr=>k r _ _ _ (aO hr) az z.1 z.2⟩
theorem XF:bG ["a","b"] ["a","b"] (aN BP):=bQ
theorem XG(T:Txt K mg t):a_ P w K mg base (dO P w) 3 t.rn t.vd ["a","b"] (SY t.jw):=by
 have S:=XF;refine T.wm.eM S (fun _ _ _ _ H _ _ _ hr h L=>?_);obtain ⟨p,q,x,m,y,n,rfl,hp,hq,la,lb,bx,bm,gv,bn,kE,k⟩:=h
 refine ⟨_,(aq (bV (bN fo (aw a7 (pv 1) af) af) (ax (nB L rfl m6 T.CL rfl T.CJ (aa fc ae))) b7)
  (fb.l7 (aq (bV (bN kr (aw a7 (pv 1) af) af) (ax (aT (aM (F5 T) hr T.CA T.pj.kp T.Cz aP (aa (pv 0) (aa (eE (aa (lq lA (aw a7 (pv 1) af)) (aa (lq lA (aw a7 (pv 1) af)) ae))) ae))))) b7)
  (ax (aT (aM (F5 T) hr T.CA T.pj.kp T.Cz aP (aa (pv 0) (aa (eE (aa (aw a7 (pv 1) af) (aa (aw a7 (pv 1) af) ae))) ae)))))))),?_⟩
 have n2:2≤sizeLine:=by decide
 refine ⟨_,rfl,q,_,_,_,rfl,rfl,.of hq,rfl,rfl,_,rfl,cu (fun hz=>?_) (fun hz=>?_)⟩
 ·have hz:y=0:=V.int.inj (fN hz)
  exact ⟨by show 1≤sizeLine;decide,kE hz⟩
 have hz:y≠0:=fun z=>hz (dC (by rw [z]))
 refine ⟨_,rfl,q,_,_,_,rfl,rfl,.of hq,rfl,_,_,rfl,rfl,_,rfl,cu (fun hn=>?_) (fun hn=>?_)⟩
 ·have hn:y<0:=fN hn
  exact ⟨_,rfl,_,rfl,q,_,_,_,rfl,rfl,.of hq,rfl,_,rfl,_,rfl,q,_,_,_,rfl,rfl,.of hq,rfl,_,rfl,n2,fun r hr=>⟨p,r,x,m,-n,-y,rfl,aO hr _ _ hp,az,la,S2 lb hn,bx,bm,bn.neg,gv.neg,
   fun r' H' u d s' e l z=>k hz r' H' u d ((aO hr).trans s') e l (by rw [lV,lV,lV,tT] at z;omega)⟩⟩
 ·have hn:¬y<0:=fun z=>hn (dC z)
  exact ⟨_,rfl,_,rfl,q,_,_,_,rfl,rfl,.of hq,rfl,_,rfl,q,_,_,_,rfl,rfl,.of hq,rfl,n2,fun r hr=>⟨p,r,x,m,n,y,rfl,aO hr _ _ hp,az,la,S1 lb (by lia),bx,bm,bn,gv,
   fun r' H' u d s' e l z=>k hz r' H' u d ((aO hr).trans s') e l z⟩⟩
theorem XH:bG ["self","a","b"] ["self","a","b"] (aN Cr):=bQ
theorem F8(T:Txt K mg t):a_ P w K mg base b8 4 t.sE t.vQ ["self","a","b"] (kB t.aW (fun x m y n=>x*n-y*m) (fun i j=>i-j)):=by
 have S:=XH;refine T.y3.cC S (fun _ _ _ _ H _ _ _ hr h=>?_);obtain ⟨z,q,v,u,rfl,⟨dx,hx⟩,hc⟩:=h
 refine ⟨_,(aq (bV (bN t5 (jG (pv 0) rfl) ng) (ax (aT (aM (XD T) hr T.MC T.wg.kp T.MB aP (aa (pv 1) (aa (pv 2) ae))))) b7)
  (ax (aT (au fO (au gZ (pv 1) (pv 2)) (jG (pv 0) rfl))))),?_⟩
 refine ⟨_,rfl,z,t.aW,dx,_,_,rfl,hx,T.cS,T.iC,jP _,rfl,_,rfl,?_⟩;rcases hc with ⟨rfl,p,r,x,m,y,n,rfl,rfl,h1⟩ | ⟨q2,i,j,rfl,rfl,i0,i1,k⟩
 ·rw [ai rfl]
  exact eF ⟨_,rfl,_,rfl,p,r,x,m,y,n,rfl,h1⟩
 ·have hq:q≠0:=by lia
  rw [ao hq] at hx ⊢;exact cE ⟨_,rfl,_,rfl,_,_,rfl,rfl,_,rfl,z,t.aW,dx,_,_,rfl,hx,T.cS,T.iC,jP _,_,_,rfl,rfl,(show (0:Int)<q by lia),k⟩
theorem XI:bG ["self","a","b"] ["self","a","b"] (aN Ct):=bQ
theorem F9(T:Txt K mg t):a_ P w K mg base b8 4 t.sG t.vT ["self","a","b"] (kB t.aW (fun x m y n=>x*y) (fun i j=>i*j)):=by
 have S:=XI;refine T.y8.cC S (fun _ _ _ _ H _ _ _ hr h=>?_);obtain ⟨z,q,v,u,rfl,⟨dx,hx⟩,hc⟩:=h
 refine ⟨_,(aq (bV (bN t5 (jG (pv 0) rfl) ng) (ax (aT (aM (F5 T) hr T.CA T.pj.kp T.Cz aP (aa (pv 1) (aa (pv 2) ae))))) b7)
  (ax (aT (au fO (au fe (pv 1) (pv 2)) (jG (pv 0) rfl))))),?_⟩
 refine ⟨_,rfl,z,t.aW,dx,_,_,rfl,hx,T.cS,T.iC,jP _,rfl,_,rfl,?_⟩;rcases hc with ⟨rfl,p,r,x,m,y,n,rfl,rfl,h1⟩ | ⟨q2,i,j,rfl,rfl,i0,i1,k⟩
 ·rw [ai rfl]
  exact eF ⟨_,rfl,_,rfl,p,r,x,m,y,n,rfl,h1⟩
 ·have hq:q≠0:=by lia
  rw [ao hq] at hx ⊢;exact cE ⟨_,rfl,_,rfl,_,_,rfl,rfl,.inl ⟨by lia,by lia⟩,_,rfl,z,t.aW,dx,_,_,rfl,hx,T.cS,T.iC,jP _,_,_,rfl,rfl,(show (0:Int)<q by lia),k⟩
theorem XJ:bG ["self","a","b"] ["self","a","b"] (aN Cs):=bQ
theorem NK(T:Txt K mg t):a_ P w K mg base (dO P w) 4 t.sF t.vR ["self","a","b"] (AQ t.aW t.jw):=by
 have S:=XJ;refine T.y6.eM S (fun _ _ _ _ H _ _ _ hr h L=>?_);obtain ⟨z,q,v,u,rfl,⟨dx,hx⟩,hc⟩:=h
 refine ⟨_,(aq (bV (bN t5 (jG (pv 0) rfl) ng) (ax (aT (aM (XG T) hr T.ME T.wm.kp T.MD (lD L) (aa (pv 1) (aa (pv 2) ae))))) b7)
  (ax (aT (aM (NJ T) hr T.FO T.sR.kp T.FN (lD L) (aa (jG (pv 0) rfl) (aa (pv 1) (aa (pv 2) ae))))))),?_⟩
 refine ⟨_,rfl,z,t.aW,dx,_,_,rfl,hx,T.cS,T.iC,jP _,rfl,_,rfl,?_⟩;rcases hc with ⟨rfl,p,r,x,m,y,n,rfl,rfl,h1⟩ | ⟨q2,i,j,rfl,rfl,h1⟩
 ·rw [ai rfl]
  exact eF ⟨_,rfl,_,rfl,p,r,x,m,y,n,rfl,h1⟩
 ·have hq:q≠0:=by lia
  rw [ao hq] at hx ⊢;exact cE ⟨_,rfl,z,t.aW,dx,_,_,rfl,hx,T.cS,T.iC,jP _,_,rfl,_,rfl,q,i,j,rfl,q2,h1⟩
theorem XM:bG ["world","work","place","others","head","i","row","j"] ["world","work","place","others"] (aN B6):=bQ
theorem XN(T:Txt K mg t):a_ P w K mg base b8 5 t.rQ t.vy ["world","work","place","others"] (VA t.aW):=by
 have S:=XM;have F_:=NK (P:=P) (w:=w) (base:=base) T;have ze:=F8 (P:=P) (w:=w) (base:=base) T;have zf:=F9 (P:=P) (w:=w) (base:=base) T;refine T.wK.cC S (fun _ A _ _ H _ _ _ hr h=>?_);obtain ⟨z,a,b,q,n,X,p,rs,vf,ms,Tw,U,T',U',rfl,hw,hq,hW,eb,bz,pn,Ga,nd,XO,X1,gP,hF,hB,gw,kk⟩:=h
 refine ⟨_,(aq (putL 4 S.nd (aw bW (pv 1) (pv 2)))
  (ax (gE e_ rfl (gh (pv 3)) (eh (i:=5) S.nd rfl (Or.inl rfl))
   (aq (putL 6 S.nd (aw bW (pv 1) (pv 5)))
  (aq (@jc _ _ _ _ _ _ (fH (pv 0) T.cS T.y7 F_ (hr.mono (by decide)) T.FW .nil iU (aa (aw bW (pv 6) (pv 2)) (aa (aw bW (pv 4) (pv 2)) ae))) (jb (pv 6) (pv 2) set_list) (by rfl) (by rfl) (by rfl))
  (ax (gE e_ rfl (gh (pv 3)) (eh (i:=7) S.nd rfl (Or.inl rfl))
   (ax (@jc _ _ _ _ _ _ (fH (pv 0) T.cS T.w5 ze (hr.mono (by decide)) T.CG .nil aP (aa (aw bW (pv 6) (pv 7)) (aa (fH (pv 0) T.cS T.w6 zf (hr.mono (by decide)) T.CI .nil aP (aa (aw bW (pv 6) (pv 2)) (aa (aw bW (pv 4) (pv 7)) ae))) ae))) (jb (pv 6) (pv 7) set_list) (by rfl) (by rfl) (by rfl)))))))))),?_⟩
 obtain ⟨dz,hz⟩:=id hw;have zr:∀{Hx:Hp},fT n rs H Hx→dj t.aW Hx z q:=fun{Hx} o=>⟨dz,o z _ (fun i hi=>(bz i hi).2) hz⟩;have br:∀{Hx:Hp},fT n rs H Hx→Hx b=some (.lst (cQ ms)):=fun{Hx} o=>o b _ (fun i hi=>(bz i hi).1) eb;have i4:X≤10 ^ 300:=aj gP (by decide +kernel)
 have XX:X*X≤10 ^ 300:=aj (cq gP gP) (by decide +kernel)
 refine eI fun _ hR=>dB ⟨_,rfl,_,rfl,a,_,_,_,rfl,rfl,.of hW.lst,eB pn,hR _ _ ?_⟩;refine ⟨_,rfl,b,rfl,⟨_,.of eb⟩,?_⟩;refine nj (K:=K) (a:=b) (xs:=cQ ms) (fun k σ Hc=>∃(jv:Nat→Nat→V) (v5 v6 v7:Option V),σ=[some (.ref z),some (.ref a),some (.int (p:Int)),some (.ref b),some (.ref (rs p)),v5,v6,v7]∧fT n rs H Hc∧WTab Hc a n rs jv∧ft X Hc q n jv (jW (fun i _=>decide (i∈ms.take k)) Tw T') (jW (fun i _=>decide (i∈ms.take k)) U U')) ⟨vf,_,_,_,rfl,fT.refl _ _ _,hW,hF.to fun i j _ _=>⟨eG (by simp),eG (by simp)⟩⟩ (fun k σ Hc _ ⟨_,_,_,_,_,oc,_⟩=>.of (br oc)) ?_ ?_
 ·rintro k x σ Hc hx ⟨jv,v5,v6,v7,rfl,oc,Wc,Fc⟩
  obtain ⟨i,hi,rfl⟩:=int_at hx;have im:=gT hi;obtain ⟨cR,ip⟩:=Ga i im;have ik:=Bj nd hi;have pk:p∉ms.take k:=fun z=>(Ga p (List.mem_of_mem_take z)).2 rfl;have fi:decide (i∈ms.take k)=false:=eC ik;have fp:decide (p∈ms.take k)=false:=eC pk;dsimp only [bH];refine eI fun _ hR=>dB ⟨_,rfl,_,rfl,a,_,_,_,rfl,rfl,.of Wc.lst,eB cR,hR _ _ ?_⟩;have sZ:=Fc i p cR pn;have Gb:=Fc p p pn pn;rw [eG fi,eG fi] at sZ;rw [eG fp,eG fp] at Gb;obtain ⟨CM,hU⟩:=zr oc;refine eI fun _ hR=>dB ⟨_,rfl,z,CM,_,rfl,hU,fK (by decide +kernel),_,rfl,_,rfl,rs i,_,_,_,rfl,rfl,.of (Wc.at' i cR),eB pn,_,rfl,_,rfl,rs p,_,_,_,rfl,rfl,.of (Wc.at' p pn),eB pn,?_⟩
  dsimp only [oK];show AQ t.aW t.jw [.ref z,jv i p,jv p p] _ _ _;refine Lu (Y':=(Tw i p*U p p).natAbs+(U i p*Tw p p).natAbs) (zr oc) hq sZ Gb i4 i4 gw.nW (by lia) (by lia) fun v' H1 s1 w1=>?_
  have W1:=Wc.mono s1;have w1:=(w1.eq hq (gw.low i im) (gw.nz i p cR pn)).bd (gw.bt i p cR pn).1 (gw.bt i p cR pn).2;refine ⟨_,rfl,_,rfl,rs i,_,_,p,rfl,rfl,W1.at' i cR,by rw [aG,cK];exact o8 pn,hR _ _ ?_⟩
  have W2:=W1.put (j:=p) v' cR;have CN:fT n rs H (upd H1 (rs i) (.lst (((List.range n).map (jv i)).set p v'))):=(oc.same s1).put cR;have F2:ft X (upd H1 (rs i) (.lst (((List.range n).map (jv i)).set p v'))) q n (uB jv i p v') (jW (fun i' j'=>decide (i'∈ms.take k) || (decide (i'=i) && (decide (j'=p) || decide (j'∈ms.take 0)))) Tw T') (jW (fun i' j'=>decide (i'∈ms.take k) || (decide (i'=i) && (decide (j'=p) || decide (j'∈ms.take 0)))) U U'):=Fc.put (fun v t u h=>(h.mono s1).put (W1.at' i cR)) (by rw [fL (by simp),fL (by simp)];exact w1.put (W1.at' i cR)) fun i' j' _ _ ne=>by
   by_cases h1:i'∈ms.take k
   ·rw [fL (by simp [h1]),fL (by simp [h1]),fL (by simp [h1]),fL (by simp [h1])]
    exact ⟨rfl,rfl⟩
   ·by_cases h2:i'=i
    ·have h3:j'≠p:=fun z=>ne ⟨h2,z⟩
     rw [eG (by simp [h1,h3]),eG (by simp [h1]),eG (by simp [h1,h3]),eG (by simp [h1])]
     exact ⟨rfl,rfl⟩
    ·rw [eG (by simp [h1,h2]),eG (by simp [h1]),eG (by simp [h1,h2]),eG (by simp [h1])]
     exact ⟨rfl,rfl⟩
  generalize upd H1 (rs i) (.lst (((List.range n).map (jv i)).set p v'))=H2 at W2 CN F2 ⊢;refine ⟨_,rfl,b,rfl,⟨_,.of (br CN)⟩,?_⟩;refine nj (K:=K) (a:=b) (xs:=cQ ms) (fun l σ Hd=>∃(pB:Nat→Nat→V) (v7:Option V),σ=[some (.ref z),some (.ref a),some (.int (p:Int)),some (.ref b),some (.ref (rs p)),some (.int (i:Int)),some (.ref (rs i)),v7]∧fT n rs H Hd∧WTab Hd a n rs pB∧ft X Hd q n pB (jW (fun i' j'=>decide (i'∈ms.take k) || (decide (i'=i) && (decide (j'=p) || decide (j'∈ms.take l)))) Tw T') (jW (fun i' j'=>decide (i'∈ms.take k) || (decide (i'=i) && (decide (j'=p) || decide (j'∈ms.take l)))) U U')) ⟨_,_,rfl,CN,W2,F2⟩ (fun l σ Hd _ ⟨_,_,_,od,_⟩=>.of (br od)) ?_ ?_
  ·clear F2 W2 CN w1 W1 sZ Gb Fc Wc oc
   rintro l x σ Hd hx ⟨pB,v7,rfl,od,Wd,Fd⟩;obtain ⟨j,hj,rfl⟩:=int_at hx;have jm:=gT hj;obtain ⟨fz,jp⟩:=Ga j jm;have jl:=Bj nd hj;have Gd:=Fd i j cR fz;have sZ:=Fd i p cR pn;have Ge:=Fd p j pn fz;rw [eG (by simp [ik,jp,jl]),eG (by simp [ik,jp,jl])] at Gd
   rw [fL (by simp),fL (by simp)] at sZ
   rw [eG (by simp [pk,Ne.symm ip]),eG (by simp [pk,Ne.symm ip])] at Ge
   obtain ⟨CM,hU⟩:=zr od;dsimp only [bH];refine dB ⟨_,rfl,z,CM,_,rfl,hU,fK (by decide +kernel),_,rfl,_,rfl,rs i,_,_,_,rfl,rfl,.of (Wd.at' i cR),eB fz,_,rfl,z,CM,_,rfl,hU,fK (by decide +kernel),_,rfl,_,rfl,rs i,_,_,_,rfl,rfl,.of (Wd.at' i cR),eB pn,_,rfl,_,rfl,rs p,_,_,_,rfl,rfl,.of (Wd.at' p pn),eB fz,?_⟩
   have NL:=sZ.choose_spec.choose_spec.2.2;have NM:=Ge.choose_spec.choose_spec.2.2;have XQ:=Gd.choose_spec.choose_spec.2.2;dsimp only [oK];show kB t.aW (fun x m y n=>x*y) (fun i j=>i*j) [.ref z,pB i p,pB p j] _ _ _;refine E3 (Y':=(T' i p*Tw p j).natAbs+(U' i p*U p j).natAbs) (zr od) hq sZ Ge i4 i4 (gN hq NL NM) (by lia) (by lia) fun v1 H1 s1 w1=>?_
   have w1:bM (X*X) H1 q v1 (T' i p*Tw p j) (U' i p*U p j):=w1.bd (by rw [b_];exact cq (gw.bt i p cR pn).1 (hB p j pn fz).1) (by rw [b_];exact cq (gw.bt i p cR pn).2 (hB p j pn fz).2)
   show kB t.aW (fun x m y n=>x*n-y*m) (fun i j=>i-j) [.ref z,pB i j,v1] _ _ _;refine E2 (Y':=(Tw i j*(U' i p*U p j)-T' i p*Tw p j*U i j).natAbs+(U i j*(U' i p*U p j)).natAbs) (zr (od.same s1)) hq (Gd.mono s1) w1 i4 XX (gN hq XQ (gN hq NL NM)) (by lia) (by lia) fun v2 H2 s2 w2=>?_
   have W1:=Wd.mono (s1.trans s2);have w2:=(w2.eq hq (gw.ent i im j jm) (gw.nz i j cR fz)).bd (gw.bt i j cR fz).1 (gw.bt i j cR fz).2;refine ⟨_,rfl,_,rfl,rs i,_,_,j,rfl,rfl,W1.at' i cR,by rw [aG,cK];exact o8 fz,?_⟩
   refine ⟨_,_,rfl,(od.same (s1.trans s2)).put cR,W1.put (j:=j) v2 cR,Fd.put (fun v t u h=>(h.mono (s1.trans s2)).put (W1.at' i cR)) (by rw [fL (by simp [take_snoc hj]),fL (by simp [take_snoc hj])];exact w2.put (W1.at' i cR)) fun i' j' _ _ ne=>?_⟩
   have ej:(fun i' j'=>decide (i'∈ms.take k) || (decide (i'=i) && (decide (j'=p) || decide (j'∈ms.take (l+1))))) i' j'=(fun i' j'=>decide (i'∈ms.take k) || (decide (i'=i) && (decide (j'=p) || decide (j'∈ms.take l)))) i' j':=by
    dsimp only;by_cases h2:i'=i
    ·have h3:j'≠j:=fun z=>ne ⟨h2,z⟩
     rw [take_snoc hj];simp [h3]
    ·simp [h2]
   constructor <;> (unfold jW;rw [ej])
  ·rintro σ Hd ⟨pB,v7,rfl,od,Wd,Fd⟩
   refine ⟨pB,_,_,_,rfl,od,Wd,Fd.Lw hq fun i' j' cf iy=>?_⟩;have ll:(cQ ms).length=ms.length:=aG _;rw [ll,k4,take_snoc hi];by_cases h1:i'∈ms.take k
   ·refine .inl ?_
    rw [fL (by simp [h1]),fL (by simp [h1]),fL (by simp [h1]),fL (by simp [h1])]
    exact ⟨rfl,rfl⟩
   ·by_cases h2:i'=i
    ·subst h2
     by_cases h3:j'=p∨j'∈ms
     ·refine .inl ?_
      rw [fL (by simp),fL (by simpa [h1] using h3),fL (by simp),fL (by simpa [h1] using h3)]
      exact ⟨rfl,rfl⟩
     ·rw [not_or] at h3
      refine .inr ?_;have a1:∀A A':Nat→Nat→Int,jW (fun i _=>decide (i∈ms.take k++[i'])) A A' i' j'=A' i' j':=fun A A'=>fL (by simp)
      have a2:∀A A':Nat→Nat→Int,jW (fun NN NO=>decide (NN∈ms.take k) || (decide (NN=i') && (decide (NO=p) || decide (NO∈ms)))) A A' i' j'=A i' j':=fun A A'=>eG (by simp [h1,h3.1,h3.2])
      rw [a1,a1,a2,a2];exact ⟨gw.yE i' j' cf iy (.inr h3),gw.nz i' j' cf iy,gw.bt i' j' cf iy⟩
    ·refine .inl ?_
     rw [eG (by simp [h1,h2]),eG (by simp [h1,h2]),eG (by simp [h1,h2]),eG (by simp [h1,h2])]
     exact ⟨rfl,rfl⟩
 ·rintro σ Hc ⟨jv,v5,v6,v7,rfl,oc,Wc,Fc⟩
  have ll:(cQ ms).length=ms.length:=aG _;rw [ll,k4] at Fc;refine kk Hc jv oc Wc (Fc.Lw hq fun i' j' cf iy=>?_);by_cases h1:i'∈ms
  ·refine .inl ?_
   rw [fL (by simp [h1]),fL (by simp [h1])]
   exact ⟨rfl,rfl⟩
  ·refine .inr ?_
   rw [eG (by simp [h1]),eG (by simp [h1])]
   exact ⟨gw.yE i' j' cf iy (.inl h1),gw.nz i' j' cf iy,gw.bt i' j' cf iy⟩
theorem XR:bG ["table","wide"] ["table"] (aN By):=bQ
theorem XS(T:Txt K mg t):a_ P w K mg base (dO P w) 1 t.qO t.uS ["table"] (Uz t.kT):=by
 have S:=XR;refine T.vV.eM S (fun _ _ _ _ H vs _ _ hr h L=>?_);obtain ⟨a,q,B,ay,m,rfl,⟨vs,ea,hl,hn⟩,h1,dc,hm,k⟩:=h
 refine ⟨_,(aq (bV (bN fo (bP di rfl T.cZ c_ (aa (pv 0) ae)) af) (ax (aT af)) b7)
  (aq (fJ 1 S.nd (bP di rfl T.cZ c_ (aa (aw bW (pv 0) af) ae)))
  (aq (bV (iO (bP (Tr (K:=K) rfl) rfl T.Nz boot_any (aa (iu (N:=["row","wide"]) (ρ:=(fun σ=>[σ[1]?.join])) (fP [1] rfl) rfl (gh (pv 0)) (fun _ _ _=>.nil) (fun _ _ _=>(qi kq (bP (Kj (K:=K)) rfl T.cZ c_ (aa (pv 0) ae)) (pv 1)))) ae))) (ax (nB L rfl m6 T.zd rfl T.y9 (aa fc ae))) b7)
  (ax (aT (pv 1)))))),?_⟩
 have h0:0<vs.length:=by lia
 refine ⟨_,rfl,a,vs,rfl,.inl (.of ea),rfl,false,by rw [iW,eC (by lia)],cE ?_⟩
 have XT:0<ay.length:=by lia
 obtain ⟨r,er,us,eu,lu,_⟩:=hn 0 vs[0] ay[0] (by simp [h0]) (by simp [XT])
 have og:=hm ay[0] (dD ..);refine ⟨_,rfl,a,vs,_,vs[0],rfl,rfl,.of ea,(by exact iS (j:=0) (by simp [h0])),r,us,by rw [er],.inl (.of eu),?_⟩
 have em:(us.length:Int)=(m:Int):=by lia
 rw [em];dsimp only [bH];have XU:∀(i:Nat) (v:V),vs[i]?=some v→∃(r:Addr) (us:List V),v=.ref r∧H r=some (.lst us)∧us.length=m:=fun i v e=>by
  have cf:i<ay.length:=by rw [←hl];exact (b6.mp e).1
  obtain ⟨r,e1,us,e2,e3,_⟩:=hn i v ay[i] e (by simp [cf])
  exact ⟨r,us,e1,e2,by rw [e3];exact hm _ (dD ..)⟩
 refine gH (TJ (TK (yr (Eb (xs:=vs) (fun R h=>⟨_,rfl,a,rfl,⟨_,.of ea⟩,h _ _ (ag.refl _) (mq (.of ea))⟩) (by rw [hl];exact gG (by lia)) (fun _ i y _=>y=.bl false) (fun _ _ _ _ _ _ h _ _=>h) ?_ ?_))))
 ·intro D i v hi Hc R sc _ kc
  obtain ⟨r',NP,rfl,e2,e3⟩:=XU i v hi;refine ⟨_,rfl,r',NP,rfl,.inl (.of (sc _ _ e2)),_,rfl,rfl,?_⟩;have zz:(!decide (V.int (NP.length:Int)=V.int (m:Int)))=false:=by rw [iW,dC (by lia)];rfl
  rw [zz];exact kc _ Hc (ag.refl _) rfl
 ·intro D ys Hc sc oh hP eD
  refine ⟨D,List.replicate ys.length false,rfl,.of (by rw [eD];exact eY _ (eY _ (En hP))),false,by rw [TL],cE ?_⟩
  exact ⟨_,rfl,k Hc sc⟩
theorem XW:bG ["table"] ["table"] (aN Bz):=bQ
theorem XY(T:Txt K mg t):a_ P w K mg base (dO P w) 2 t.qP t.uT ["table"] (UA t.kT):=by
 have S:=XW;refine T.vW.eM S (fun _ _ _ _ H vs _ _ hr h L=>?_);obtain ⟨a,q,B,ay,m,rfl,hA,h1,dc,hm,kE,k⟩:=h
 refine ⟨_,(aq (bV (bN kq (aM (XS T) hr T.Mf T.vV.kp T.Me (lD L) (aa (pv 0) ae)) (bP di rfl T.cZ c_ (aa (pv 0) ae))) (ax (nB L rfl m6 T.zd rfl T.y9 (aa fc ae))) b7)
  (ax (aT (bP di rfl T.cZ c_ (aa (pv 0) ae))))),?_⟩
 refine ⟨_,rfl,a,q,B,ay,m,rfl,hA,h1,dc,hm,fun H1 s1=>?_⟩;obtain ⟨vs,ea,lv,_⟩:=id (hA.mono s1);refine ⟨_,rfl,a,vs,rfl,.inl (.of ea),rfl,_,rfl,cu (fun fI=>?_) (fun fI=>?_)⟩
 ·have fI:m≠ay.length:=fun z=>by
   have:(m:Int)=(vs.length:Int):=by lia
   rw [iW,dC this] at fI;cases fI
  exact ⟨by show 1≤sizeLine;decide,kE fI H1 s1⟩
 ·have heq:m=ay.length:=by
   by_cases z:(m:Int)=(vs.length:Int);·lia
   ·exact absurd (by rw [iW,eC z];rfl) fI
  have z:=k heq H1 s1;dsimp only [ja];refine ⟨_,rfl,a,vs,rfl,.inl (.of ea),?_⟩;rw [show (vs.length:Int)=(m:Int) by lia]
  exact z
theorem XZ:bG ["world","table","i","nought"] ["world","table","i"] (aN BW):=bQ
theorem X0(T:Txt K mg t):a_ P w K mg base b8 4 t.rD t.vm ["world","table","i"] (UD t.aW):=by
 have S:=XZ;have kU:=w_ (P:=P) (w:=w) (base:=base) T;obtain ⟨dv,pD,pE⟩:=T.y4;refine T.wA.cC S (fun _ _ _ _ H vs _ _ hr h=>?_);obtain ⟨z,a,q,B,ay,n,i,rfl,⟨dz,hd⟩,hq,hT,ln,jx,hm,hi,kk⟩:=h;have hu:=hr.x6
 refine ⟨_,(aq (fJ 3 S.nd (fH (pv 0) T.cS T.pA kU (hr.mono (by decide)) pE pD iU (aa af ae)))
  (ax (aT (iu (N:=["j","i","table","nought"]) (ρ:=(fun σ=>[σ[2]?.join,σ[1]?.join,σ[3]?.join])) (fP [2,1,3] rfl) rfl (Qx rfl T.iZ (aa (au dU (pv 2) af) (aa (bP di rfl T.cZ c_ (aa (pv 1) ae)) ae))) (fun _ _ _=>(.one (PW.pt (pw_or (bN (KU (K:=K) hu) (aw (nH (K:=K)) (aw (nH (K:=K)) (pv 2) (pv 1)) (pv 0)) (pv 3)) (pw_or1 (bN (KU (K:=K) hu) (aw (nH (K:=K)) (aw (nH (K:=K)) (pv 2) (pv 0)) (pv 1)) (pv 3))))))) (fun _ _ _=>(eE (aa (pv 1) (aa (pv 0) ae)))))))),?_⟩
 have nv:=A5 hq;refine ⟨_,rfl,z,dz,_,rfl,hd,fK (by decide +kernel),z,q,0,1,rfl,⟨dz,hd⟩,hq,a8.of_lt (by decide) (by decide),fun h=>absurd h nv,fun _ v0 H1 s1 ho=>?_⟩
 have h0:=yu (B:=1000) (by decide) ho hq (.inl rfl)
 dsimp only [bH];obtain ⟨vs,ea,lv,hv⟩:=id (hT.mono s1);have cell:∀i j,i<n→j<n→∃(r:Addr) (ws:List V) (v:V),vs[i]?=some (.ref r)∧H1 r=some (.lst ws)∧ws[j]?=some v∧bC B H1 q v ((ay.getD i []).getD j o1).1 ((ay.getD i []).getD j o1).2:=fun i j hi hj=>by
  have i1:i<vs.length:=by lia
  have i2:i<ay.length:=by lia
  obtain ⟨r,e,ws,er,lw,fw⟩:=hv i vs[i] ay[i] (by simp [i1]) (by simp [i2])
  have lp:=hm ay[i] (dD i2);have j1:j<ws.length:=by lia
  have j2:j<ay[i].length:=by lia
  refine ⟨r,ws,ws[j],by rw [←e];simp [i1],er,by simp [j1],?_⟩
  rw [getD_at i2,getD_at j2];exact fw j _ _ (by simp [j1]) (by simp [j2])
 refine jr (KY (xs:=(List.range (n-(i+1))).map fun k:Nat=>V.int ((i:Int)+1+(k:Int))) (fun k=>dq ay i (i+1+k)) (fun R h=>⟨_,rfl,_,_,rfl,rfl,_,rfl,a,vs,rfl,.inl (.of ea),_,_,rfl,⟨by lia,by lia,by lia,by lia⟩,h _ ?_⟩) (by rw [aG,cK];exact gG (by lia)) (fun _ k y Hx=>∃b:Addr,y=.ref b∧Hx b=some (.tup [.int (i:Int),.int ((i+1+k:Nat):Int)])) (fun D k y Ha Hb ys ⟨b,h1,h2⟩ e f=>⟨b,h1,f b _ (fun z=>by rw [z,e] at h2;cases h2) h2⟩) ?_ ?_ ?_)
 ·rw [show ((vs.length:Int)-((i:Int)+1)).toNat=n-(i+1) by lia]
  exact ym
 ·intro k x hx Hc R sc hR
  have hk:k<n-(i+1):=by have:=(b6.mp hx).1;simpa using this
  rw [cB,pL hk] at hx;cases hx;have ej:(i:Int)+1+(k:Int)=((i+1+k:Nat):Int):=by lia
  obtain ⟨r1,w1,v1,a1,a2,a3,a4⟩:=cell i (i+1+k) hi (by lia)
  obtain ⟨r2,w2,v2,b1,b2,b3,b4⟩:=cell (i+1+k) i (by lia) hi
  have CO:=sc _ _ ea;refine ⟨_,rfl,_,rfl,a,vs,_,.ref r1,rfl,rfl,.of CO,iS a1,_,rfl,r1,w1,_,v1,rfl,rfl,.of (sc _ _ a2),(by show d5 w1 ((i:Int)+1+(k:Int))=_;rw [ej];exact iS a3),_,rfl,KW (a4.mono sc) (h0.mono sc) ⟨_,rfl,cu (fun hb=>?_) (fun hb=>?_)⟩⟩
  ·have e:dq ay i (i+1+k)=true:=by unfold dq o7;rw [hb,Bool.true_or]
   rw [e] at hR;exact hR
  ·have e:dq ay i (i+1+k)=o7 ay (i+1+k) i:=by
    have oY:o7 ay i (i+1+k)=false:=by unfold o7;simpa using hb
    unfold dq;rw [oY,Bool.false_or]
   rw [e] at hR;refine ⟨_,rfl,_,rfl,a,vs,_,.ref r2,rfl,rfl,.of CO,(by show d5 vs ((i:Int)+1+(k:Int))=_;rw [ej];exact iS b1),_,rfl,r2,w2,_,v2,rfl,rfl,.of (sc _ _ b2),iS b3,_,rfl,KW (b4.mono sc) (h0.mono sc) ⟨_,rfl,hR⟩⟩
 ·intro D k x hx Hc R sc _ kc
  have hk:k<n-(i+1):=by have:=(b6.mp hx).1;simpa using this
  rw [cB,pL hk] at hx;cases hx;refine ⟨_,rfl,_,rfl,by show 2≤sizeLine;decide,fun tp gz=>?_⟩
  refine kc _ _ (aO gz) ⟨tp,rfl,?_⟩;rw [az,show ((i+1+k:Nat):Int)=(i:Int)+1+(k:Int) by lia]
 ·intro D ys Hc nD sc dX hP eD
  rw [aG,cK] at dX hP;refine kk D ys Hc (s1.trans sc) (none_of s1 nD) eD ⟨by unfold mC;rw [aG];exact dX,fun k v p h1 h2=>?_⟩
  unfold mC at h2;rw [cB] at h2;cases e:((List.range (n-(i+1))).filter fun k=>dq ay i (i+1+k))[k]? with
  | none=>rw [e] at h2;cases h2
  | some k'=>rw [e] at h2;cases h2;exact hP k k' v h1 e
theorem X3:bG ["world","table","n","links","i"] ["world","table"] (aN BX):=bQ
theorem X4(T:Txt K mg t):a_ P w K mg base (dO P w) 6 t.rE t.vn ["world","table"] (UE t.aW t.kT):=by
 have S:=X3;refine T.wB.eM S (fun _ _ _ _ H _ _ _ hr h L=>?_);obtain ⟨z,a,q,B,ay,m,rfl,hz,hq,hT,h1,dc,hm,kE,kk⟩:=h
 refine ⟨_,(aq (putL 2 S.nd (aM (XY T) hr T.Mh T.vW.kp T.Mg (lD L) (aa (pv 1) ae)))
  (fb.l7 (aq (putL 3 S.nd (gi ae))
  (aq (gE e_ rfl (lh rfl T.iZ (aa (pv 2) ae)) (eh (i:=4) S.nd rfl (Or.inl rfl))
   (ax (p_ (Jx PySem.F.plainAttrs_list PySem.F.slot_list_extend PySem.F.type_list_extend RK (pv 3) (aa (aM (X0 T) hr T.MO T.wA.kp T.MN aP (aa (pv 0) (aa (pv 1) (aa (pv 4) ae)))) ae)))))
  (ax (aT (eE (aa (pv 2) (aa (jK RC rfl T.sY boot_tuple (aa (pv 3) ae)) ae))))))))),?_⟩
 refine ⟨_,rfl,a,q,B,ay,m,rfl,hT,h1,dc,hm,fun fI H1 s1=>kE fI H1 s1,fun heq H1 s1=>?_⟩;subst heq;have kk:=kk rfl;dsimp only [bH];refine ⟨by show 0≤sizeLine;decide,fun fd NQ=>?_⟩
 have s2:ag H1 (upd H1 fd (.lst [])):=aO NQ;have ef:upd H1 fd (.lst []) fd=some (.lst []):=az;dsimp only [bH];generalize upd H1 fd (.lst [])=H2 at s2 ef ⊢;have dQ:=s1.trans s2;have X5:H fd=none:=none_of s1 NQ;refine ⟨_,rfl,(ay.length:Int),rfl,by lia,by lia,?_⟩
 rw [e9];have X6:∀i,i≤ay.length→(eQ ay.length (dq ay) i).length≤40*i:=fun i=>by
  induction i with
  | zero=>intro _;exact aE _
  | succ i ih=>
   intro hi;have a:=ih (by lia)
   show (eQ ay.length (dq ay) i++mC ay.length (dq ay) i).length≤_;have b:(mC ay.length (dq ay) i).length≤40:=by unfold mC;rw [aG];refine aj (Dj _ _) ?_;rw [cK];lia
   rw [eL];lia
 refine DA (fun i σ Hc=>∃(us:List V) (v4:Option V),σ=[some (.ref z),some (.ref a),some (.int (ay.length:Int)),some (.ref fd),v4]∧ag H Hc∧Hc fd=some (.lst us)∧iz Hc us (eQ ay.length (dq ay) i)) ⟨[],_,rfl,dQ,ef,iz.nil _⟩ ?_ ?_
 ·rintro i σ Hc hi ⟨us,v4,rfl,sc,zh,hL⟩
  refine ⟨_,rfl,.inl ⟨rfl,_,.of zh⟩,_,rfl,_,rfl,_,rfl,z,a,q,B,ay,ay.length,i,?_,hz.mono sc,hq,hT.mono sc,rfl,dc,hm,hi,fun r ws Hd sd nr i5 hR=>?_⟩
  ·show [V.ref z,V.ref a,V.int (0+(i:Int))]=_
   rw [oC]
  have l1:=hL.1;have l2:=hR.1;have l3:=X6 (i+1) (by lia)
  have e3:eQ ay.length (dq ay) (i+1)=eQ ay.length (dq ay) i++mC ay.length (dq ay) i:=rfl;rw [e3,eL] at l3;refine ⟨fd,r,us,ws,rfl,rfl,sd _ _ zh,i5,aj (show _≤2000 by lia) (by decide),us++ws,_,rfl,jq (sc.trans sd) X5,az,?_⟩
  rw [e3];exact ((hL.mono sd).cat hR).cm (sd _ _ zh) fun b o nb e=>by rw [a9 nb];exact e
 ·rintro σ Hc ⟨us,v4,rfl,sc,zh,hL⟩
  refine ⟨_,rfl,_,rfl,fd,us,rfl,.inl ⟨.of zh,fun lt X7=>?_⟩⟩;have sl:ag Hc (upd Hc lt (.tup us)):=aO X7;have el:upd Hc lt (.tup us) lt=some (.tup us):=az;generalize upd Hc lt (.tup us)=Hd at sl el ⊢;refine ⟨by show 2≤sizeLine;decide,fun tp gz=>?_⟩
  have st:ag Hd (upd Hd tp (.tup [.int (ay.length:Int),.ref lt])):=aO gz;exact kk tp _ (sc.trans (sl.trans st)) (none_of (sc.trans sl) gz) ⟨lt,us,az,st _ _ el,(hL.mono sl).mono st⟩
theorem X8:bG ["shape","linked","i","j"] ["shape"] (aN BY):=bQ
theorem X9(T:Txt K mg t):a_ P w K mg base b8 1 t.rF t.vo ["shape"] U3:=by
 have S:=X8;refine T.wC.cC S (fun _ _ _ _ H _ _ _ hr h=>?_);obtain ⟨tp,n,L,rfl,⟨lt,us,d6,elt,hL⟩,ok,n9,kk⟩:=h;have hu:=fE (Nat.add_le_add_left (show 1≤64 by decide) _) hr.units
 have X_:((List.range n).map fun i:Nat=>V.int (0+(i:Int))).length=n:=by rw [aG,cK]
 refine ⟨_,(aq (AX (i0:=1) (N:=["place"]) (ρ:=(fun σ=>[])) (fP [] rfl) rfl S.nd rfl (Or.inl rfl) (lh rfl T.iZ (aa (aw a7 (pv 0) af) ae)) (fun _ _ _=>.nil) (fun _ _ _=>UU))
  (aq (gE e_ rfl (Iw (aw a7 (pv 0) af)) (xW rfl (l8 (eh (i:=2) S.nd rfl (Or.inl rfl)) (l8 (eh (i:=3) S.nd rfl (Or.inl rfl)) xV)))
   (aq (EO hu (aw bW (pv 1) (pv 2)) (pv 3) i_ rfl)
  (ax (EO hu (aw bW (pv 1) (pv 3)) (pv 2) i_ rfl))))
  (ax (aT (pv 1))))),?_⟩
 refine gH (dB (EG (xs:=(List.range n).map fun i:Nat=>V.int (0+(i:Int))) (n:=n) X_ (fun R h=>⟨_,rfl,tp,_,_,_,rfl,rfl,.of d6,rfl,(n:Int),rfl,by lia,by lia,h _ _ (ag.refl _) (by rw [e9];exact ym)⟩) (gG (by lia)) (fun _ i y Hx=>Hx y=some (.dK (dk []))∧H y=none) ?_ ?_ ?_))
 ·intro D i y Ha Hb ys ⟨h1,h2⟩ hy e f
  exact ⟨f y _ hy h1,h2⟩
 ·intro D i x hx Hc R sc _ kc
  refine fun p np=>kc p _ (jq (ag.refl _) np) np ⟨_,az⟩ ⟨az,?_⟩;cases e:H p with
  | none=>rfl
  | some o=>rw [sc _ _ e] at np;cases np
 ·intro D ds H1 nD s1 inj hA eD
  have K0:eR H1 D n ds (fun _=>True) (fun _=>[]):=⟨eD,inj,fun i hi=>(hA i hi).2,fun i hi _=>(hA i hi).1.1,fun i _=>mD.nil n⟩;have fr:∀i,i<n→H (ds i)=none:=fun i hi=>(hA i hi).1.2;dsimp only [bH];refine gH ⟨_,rfl,tp,_,_,_,rfl,rfl,.of (s1 _ _ d6),rfl,lt,rfl,⟨_,.of (s1 _ _ elt)⟩,?_⟩;refine IC (K:=K) (a:=lt) (xs:=us) (fun k σ Hc=>∃(f:Nat→List Nat) (v2 v3:Option V),σ=[some (.ref tp),some (.ref D),v2,v3]∧ag H Hc∧eR Hc D n ds (fun _=>True) f∧nR n (L.take k) f) ⟨_,_,_,rfl,s1,K0,nR.nil n⟩ (fun k σ Hc _ ⟨_,_,_,_,sc,_⟩=>.of (sc _ _ elt)) ?_ ?_
  ·rintro k x σ Hc hx ⟨f,v2,v3,rfl,sc,KL,nb⟩
   have hk:k<L.length:=by rw [←hL.1];exact (b6.mp hx).1
   obtain ⟨b,rfl,eb⟩:=hL.2 k x L[k] hx (by simp [hk])
   have pk:=ok L[k] (dD hk);have tk:L.take (k+1)=L.take k++[L[k]]:=by rw [List.take_succ,gW hk];rfl
   generalize L[k]=p at eb pk tk;obtain ⟨p1,p2⟩:=p;dsimp only at pk eb;obtain ⟨i,rfl⟩:=xK pk.1;obtain ⟨j,rfl⟩:=xK pk.2.2.1;have hi:i<n:=by lia
   have hj:j<n:=by lia
   refine ⟨b,_,rfl,.of (sc _ _ eb),rfl,_,_,rfl,_,_,rfl,rfl,?_⟩;obtain ⟨q1,K1⟩:=KL.put hi hj trivial n9;obtain ⟨q2,K2⟩:=K1.put hj hi trivial n9;refine ⟨_,rfl,_,rfl,D,_,_,_,rfl,rfl,.of KL.lst,KL.ix hi,_,rfl,_,_,rfl,q1,?_⟩;refine ⟨_,rfl,_,rfl,D,_,_,_,rfl,rfl,.of K1.lst,K1.ix hj,_,rfl,_,_,rfl,q2,?_⟩;have off:∀(Hx:Hp) (i:Nat) (o:HO),i<n→ag H Hx→ag H (upd Hx (ds i) o):=fun Hx i o hi sx a u e=>by
    rw [a9 (fun z=>by rw [z,fr i hi] at e;cases e)]
    exact sx _ _ e
   exact ⟨_,_,_,rfl,off _ _ _ hj (off _ _ _ hi sc),K2,by rw [tk];exact nb.more hi hj⟩
  ·rintro σ Hc ⟨f,v2,v3,rfl,sc,KL,nb⟩
   rw [hL.1,k4] at nb;exact ⟨_,rfl,kk _ _ _ _ sc nD fr KL nb⟩
theorem Ya:bG ["many"] ["many"] (aN B5):=bQ
theorem Yb(T:Txt K mg t):a_ P w K mg base b8 1 t.rP t.vx ["many"] Vu:=by have S:=Ya;refine T.wJ.cC S (fun _ _ _ _ H _ _ _ hr h=>?_);obtain ⟨m,rfl,m1,k⟩:=h;refine ⟨_,(ax (aT (au dU (au dU (au fe (pv 0) (pv 0)) (au fe af (pv 0))) af))),?_⟩;exact ⟨_,rfl,_,rfl,_,_,rfl,rfl,.inl ⟨by lia,by lia⟩,_,rfl,_,_,rfl,rfl,.inl ⟨by lia,by lia⟩,_,_,rfl,rfl,_,_,rfl,rfl,k⟩
theorem Yc:bG ["thing","n"] ["thing","n"] (aN BZ):=bQ
theorem Yd(T:Txt K mg t):a_ P w K mg base b8 2 t.rH t.vp ["thing","n"] U8:=by
 have S:=Yc;refine T.wD.cC S (fun _ _ _ _ H _ _ _ hr h=>?_);obtain ⟨a,zs,n,rfl,ea,zi,n1,k⟩:=h;have s_:=hr.units
 refine ⟨_,(aq (bV (PW.pt (pw_or (l5 (iO (bP (iV (K:=K)) rfl T.iD boot_isinstance (aa (pv 0) (aa (iM (v:=.ty "list") rfl T.jZ boot_list rfl) ae))))) (pw_or1 (l5 (iO (bP (JQ (K:=K) rfl) rfl T.FY boot_all (aa (iu (N:=["place"]) (ρ:=(fun σ=>[])) (fP [] rfl) rfl (gh (pv 0)) (fun _ _ _=>.nil) (fun _ _ _=>(aM (NI T) hr T.FL T.sO.kp T.FK aP (aa (pv 0) ae)))) ae))))))) (ax (aT i_)) b7)
  (ax (aT (qi (U5 s_) (bP Lf rfl T.FZ PyProof.Rows.boot_sorted (aa (pv 0) ae)) (jK (JS rfl) rfl T.jZ boot_list (aa (jK JR rfl T.iZ JT (aa (pv 1) ae)) ae)))))),?_⟩
 refine ⟨_,rfl,_,_,_,true,rfl,rfl,.of (.lst ea),nC,true,rfl,cE ?_⟩;unfold Im tB;refine yr (Eb (xs:=zs.map V.int) (fun R h=>⟨_,rfl,a,rfl,⟨_,.of ea⟩,h _ _ (ag.refl _) (mq (.of ea))⟩) (by rw [aG];exact gG (by lia)) (fun _ i y _=>y=.bl true) (fun _ _ _ _ _ _ h _ _=>h) ?_ ?_)
 ·intro D i v hi Hc R sc _ kc
  obtain ⟨z,rfl⟩:∃z:Int,v=.int z:=by
   rw [cB] at hi;cases e:zs[i]? with
   | none=>rw [e] at hi;cases hi
   | some z=>rw [e] at hi;exact ⟨z,(Option.some.inj hi).symm⟩
  exact ⟨_,rfl,.int z,rfl,.int z,kc _ Hc (ag.refl _) rfl⟩
 ·intro D ys Hc sc oh hP eD
  refine ⟨D,List.replicate ys.length true,rfl,.of (by rw [eD];exact eY _ (eY _ (En hP))),?_⟩
  rw [Km];refine ⟨true,rfl,cE ?_⟩;dsimp only [ja];have CO:=sc _ _ ea;refine ⟨_,rfl,a,zs,rfl,CO,zi,fun ws D2 p o n2=>?_⟩;refine ⟨_,rfl,(n:Int),rfl,fun p1 zj=>⟨p1,n,rfl,az,by lia,fun l nl=>?_⟩⟩
  have d1:D2≠p1:=fun z=>by rw [←z,az] at zj;cases zj
  have d2:D2≠l:=fun z=>by rw [←z,a9 d1,az] at nl;cases nl
  refine ⟨D2,l,ws,(List.range n).map iN,rfl,rfl,.of ?_,.of ?_,?_⟩;·rw [a9 d2,a9 d1,az]
  ·rw [az]
   unfold mh;rw [kf];rfl
  ·rw [U7 p o]
   exact k _ (Ba (Ba (Ba sc n2) zj) nl)
theorem Ye:bG ["order","n"] ["order","n"] (aN B0):=bQ
theorem Yf(T:Txt K mg t):a_ P w K mg base (dO P w) 3 t.rJ t.vq ["order","n"] (U9 t.oa):=by
 have S:=Ye;refine T.wF.eM S (fun _ _ _ _ H _ _ _ hr h L=>?_);obtain ⟨a,zs,n,rfl,ea,zi,n1,kE,k⟩:=h;refine ⟨_,(ax (bV (l5 (iO (aM (Yd T) hr T.MU T.wD.kp T.MT aP (aa (pv 0) (aa (pv 1) ae))))) (ax (nB L rfl m6 T.NH rfl T.Ny (aa fc ae))) b7)),?_⟩;refine ⟨_,rfl,_,rfl,a,zs,n,rfl,ea,zi,n1,fun H1 s1=>⟨_,rfl,cu (fun hb=>?_) (fun hb=>?_)⟩⟩;·exact ⟨by show 1≤sizeLine;decide,kE (by simpa using hb) _ s1⟩
 ·exact k (by simpa using hb) _ s1
theorem Yg:bG ["order","turns","turn","place"] ["order"] (aN B2):=bQ
theorem Yh(T:Txt K mg t):a_ P w K mg base b8 1 t.rK t.vt ["order"] Va:=by
 have S:=Yg;refine T.wG.cC S (fun _ _ _ _ H _ _ _ hr h=>?_);obtain ⟨a,n,o,rfl,⟨ea,ho⟩,n1,kk⟩:=h;have lo:=gL ho;have lm:(o.map fun k:Nat=>V.int (k:Int)).length=n:=by rw [aG,lo]
 refine ⟨_,(aq (putL 1 S.nd (au DR (gi (aa af ae)) (bP di rfl T.cZ c_ (aa (pv 0) ae))))
  (aq (gE e_ rfl (Es rfl T.CK (aa (pv 0) ae)) (xW rfl (l8 (eh (i:=2) S.nd rfl (Or.inl rfl)) (l8 (eh (i:=3) S.nd rfl (Or.inl rfl)) xV)))
   (ax (@jc _ _ _ _ _ _ (pv 2) (jb (pv 1) (pv 3) set_list) (by rfl) (by rfl) (by rfl))))
  (ax (aT (pv 1))))),?_⟩
 refine ⟨by show 1≤sizeLine;decide,fun l nl=>?_⟩
 have al:a≠l:=fun z=>by rw [z,nl] at ea;cases ea
 refine ⟨_,rfl,a,_,rfl,.inl (.of (by rw [a9 al];exact ea)),l,_,_,rfl,rfl,az,by lia,by rw [lm];lia,?_,fun c nc=>?_⟩
 ·rw [lm,e9]
  show 1*n≤sizeLine;rw [tO];lia
 rw [lm,e9,Vd n o];have NR:H c=none:=none_of (aO nl) nc;have s0:ag H (upd (upd H l (.lst [.int 0])) c (.lst ((List.range n).map fun p=>V.int (kD o 0 p)))):=(aO nl).trans (aO nc);have e0:upd (upd H l (.lst [.int 0])) c (.lst ((List.range n).map fun p=>V.int (kD o 0 p))) c=_:=az;generalize upd (upd H l (.lst [.int 0])) c (.lst ((List.range n).map fun p=>V.int (kD o 0 p)))=H0 at s0 e0 ⊢;dsimp only [bH];refine gH ⟨_,rfl,a,rfl,⟨_,.of (s0 _ _ ea)⟩,?_⟩
 refine Et (K:=K) (l:=a) (xs:=o.map fun k:Nat=>V.int (k:Int)) (fun i σ Hc=>ag H Hc∧∃(v2 v3:Option V),σ=[some (.ref a),some (.ref c),v2,v3]∧Hc c=some (.lst ((List.range n).map fun p=>V.int (kD o i p))))
  ⟨s0,_,_,rfl,e0⟩ (fun i σ Hc ⟨z,_⟩=>.of (z _ _ ea)) ?_ ?_
 ·rintro i x σ Hc Tt hx ⟨sc,v2,v3,rfl,ec⟩ nT
  have hi:i<o.length:=by have:=(b6.mp hx).1;simpa using this
  have ex:x=.int ((o[i]:Nat):Int):=by rw [cB] at hx;simp [hi] at hx;exact hx.symm
  subst ex;have hp:o[i]<n:=(dY ho).mp (dD hi);have sT:ag Hc (upd Hc Tt (.tup [.int (i:Int),.int ((o[i]:Nat):Int)])):=aO nT;have eT:upd Hc Tt (.tup [.int (i:Int),.int ((o[i]:Nat):Int)]) Tt=_:=az;generalize upd Hc Tt (.tup [.int (i:Int),.int ((o[i]:Nat):Int)])=H1 at sT eT ⊢;refine ⟨Tt,_,rfl,.of eT,rfl,_,_,rfl,_,_,rfl,rfl,?_⟩;refine ⟨_,rfl,_,rfl,_,rfl,c,_,_,o[i],rfl,rfl,sT _ _ ec,by rw [aG,cK];exact o8 hp,?_⟩
  exact ⟨jq (sc.trans sT) NR,_,_,rfl,by rw [az,Vc ho hi]⟩
 ·rintro σ Hc ⟨sc,v2,v3,rfl,ec⟩
  rw [aG,Ve ho] at ec;exact ⟨_,rfl,kk c Hc sc NR ec⟩
theorem Yi:bG ["linked","places","one","other"] ["linked","places"] (aN B3):=bQ
theorem Yj(T:Txt K mg t):a_ P w K mg base b8 1 t.rN t.vv ["linked","places"] Vf:=by
 have S:=Yi;refine T.wH.cC S (fun _ _ _ _ H _ _ _ hr h=>?_);obtain ⟨D,pl,n,ds,un,f,ps,rfl,KL,xa,Gf,n9,kk⟩:=h;have hu:=fE (Nat.add_le_add_left (show 1≤64 by decide) _) hr.units
 have cm:∀i,i<n→un i→pl≠ds i:=fun i hi ui z=>by rw [z,KL.at' i hi ui] at xa;cases xa
 have NS:∀{i:Nat} {x:V},(ps.map fun k:Nat=>V.int (k:Int))[i]?=some x→∃p:Nat,ps[i]?=some p∧x=.int (p:Int)∧p<n∧un p:=fun{i x} hx=>by
  rw [cB] at hx;cases e:ps[i]? with
  | none=>rw [e] at hx;cases hx
  | some p=>rw [e] at hx;exact ⟨p,rfl,(Option.some.inj hx).symm,Gf p (gT e)⟩
 refine ⟨_,(ax (gE e_ rfl (gh (pv 1)) (eh (i:=2) S.nd rfl (Or.inl rfl))
   (ax (gE e_ rfl (gh (pv 1)) (eh (i:=3) S.nd rfl (Or.inl rfl))
   (ax (bV (bN kq (pv 2) (pv 3)) (ax (EO hu (aw bW (pv 0) (pv 2)) (pv 3) i_ rfl)) b7)))))),?_⟩
 refine ⟨_,rfl,pl,rfl,⟨_,.of xa⟩,?_⟩;refine nj (K:=K) (a:=pl) (xs:=ps.map fun k:Nat=>V.int (k:Int)) (fun i σ Hc=>∃(g:Nat→List Nat) (v2 v3:Option V),σ=[some (.ref D),some (.ref pl),v2,v3]∧o9 n ds un H Hc∧eR Hc D n ds un g∧iB n f ps i 0 g) ⟨f,_,_,rfl,.refl,KL,iB.start n f ps⟩ (fun i σ Hc _ ⟨_,_,_,_,oc,_⟩=>.of (oc _ _ xa cm)) ?_ ?_
 ·rintro i x σ Hc hx ⟨g,v2,v3,rfl,oc,Kc,la⟩
  obtain ⟨p,hp,rfl,pn,up⟩:=NS hx;refine ⟨_,rfl,pl,rfl,⟨_,.of (oc _ _ xa cm)⟩,?_⟩;refine nj (K:=K) (a:=pl) (xs:=ps.map fun k:Nat=>V.int (k:Int)) (fun j σ Hd=>∃(g:Nat→List Nat) (v3:Option V),σ=[some (.ref D),some (.ref pl),some (.int (p:Int)),v3]∧o9 n ds un H Hd∧eR Hd D n ds un g∧iB n f ps i j g) ⟨g,_,rfl,oc,Kc,la⟩ (fun i σ Hc _ ⟨_,_,_,oc,_⟩=>.of (oc _ _ xa cm)) ?_ ?_
  ·rintro j y σ Hd hy ⟨g,v3,rfl,od,Kd,la⟩
   obtain ⟨q,hq,rfl,qn,uq⟩:=NS hy;refine ⟨_,rfl,_,rfl,rfl,_,rfl,cu (fun hb=>?_) (fun hb=>?_)⟩
   ·have ne:p≠q:=fun z=>by subst z;rw [iW,dC rfl] at hb;cases hb
    obtain ⟨q1,K1⟩:=Kd.put pn qn up n9;exact ⟨_,rfl,_,rfl,D,_,_,_,rfl,rfl,.of Kd.lst,Kd.ix pn,_,rfl,_,_,rfl,q1,_,_,rfl,od.put pn up,K1,la.put hp hq ne⟩
   ·have e:p=q:=by
     by_cases z:(p:Int)=(q:Int);·lia
     ·exact absurd (by rw [iW,eC z];rfl) hb
    subst e;exact ⟨_,_,rfl,od,Kd,la.same hp hq⟩
  ·rintro σ Hd ⟨g,v3,rfl,od,Kd,la⟩
   rw [aG] at la;exact ⟨g,_,_,rfl,od,Kd,la.row⟩
 ·rintro σ Hc ⟨g,v2,v3,rfl,oc,Kc,la⟩
  rw [aG] at la;exact kk _ g oc Kc la.done
theorem Yk:bG ["shape","order","linked","turns","told","place"] ["shape","order"] (aN B4):=bQ
theorem Yl(T:Txt K mg t):a_ P w K mg base (dO P w) 4 t.rO t.vw ["shape","order"] (Vv t.oa):=by
 have S:=Yk;refine T.wI.eM S (fun _ _ _ _ H _ _ _ hr h L=>?_);obtain ⟨tp,a,n,Lk,zs,rfl,hS,hL,ns,XO,ea,zi,kE,kk⟩:=h;obtain ⟨lt,us,d6,elt,D9⟩:=id hS
 refine ⟨_,(aq (p_ (aM (Yf T) hr T.MW T.wF.kp T.MV (lD L) (aa (pv 1) (aa (aw a7 (pv 0) af) ae))))
  (fb.l7 (aq (putL 2 S.nd (aM (X9 T) hr T.MS T.wC.kp T.MR aP (aa (pv 0) ae)))
  (aq (fJ 3 S.nd (aM (Yh T) hr T.MY T.wG.kp T.MX aP (aa (pv 1) ae)))
  (aq (AX (i0:=4) (N:=["place"]) (ρ:=(fun σ=>[])) (fP [] rfl) rfl S.nd rfl (Or.inl rfl) (gh (pv 1)) (fun _ _ _=>.nil) (fun _ _ _=>(gi ae)))
  (aq (gE e_ rfl (gh (pv 1)) (eh (i:=5) S.nd rfl (Or.inr rfl))
   (aq (@jc _ _ _ _ _ _ (bP Lf rfl T.FZ PyProof.Rows.boot_sorted (aa (iu (N:=["other","turns","place"]) (ρ:=(fun σ=>[σ[3]?.join,σ[5]?.join])) (fP [3,5] rfl) rfl (UJ (aw bW (pv 2) (pv 5))) (fun _ _ _=>(.one (bN qh (aw (nH (K:=K)) (pv 1) (pv 0)) (aw (nH (K:=K)) (pv 1) (pv 2))))) (fun _ _ _=>(pv 0))) ae)) (jb (pv 4) (pv 5) set_list) (by rfl) (by rfl) (by rfl))
  (ax (p_ (aM (Yj T) hr T.M0 T.wH.kp T.MZ aP (aa (pv 2) (aa (aw bW (pv 4) (pv 5)) ae)))))))
  (ax (aT (pv 4))))))))),?_⟩
 refine ⟨_,rfl,_,rfl,tp,_,_,_,rfl,rfl,.of d6,rfl,a,zs,n,rfl,ea,zi,by lia,fun no H1 s1=>kE no H1 s1,fun yes H1 s1=>?_⟩
 obtain ⟨o,rfl,ho⟩:=Vm yes;have kk:=kk o rfl ho;have lo:=gL ho;have nd:=iA ho;have tf:H a=some (.lst (o.map fun k:Nat=>V.int (k:Int))):=by rw [ea,kf];rfl
 have lm:(o.map fun k:Nat=>V.int (k:Int)).length=n:=by rw [aG,lo]
 refine ⟨_,rfl,tp,n,Lk,rfl,⟨lt,us,s1 _ _ d6,s1 _ _ elt,D9.mono s1⟩,hL,by lia,fun H2 D ds f s2 nD Ym KL nb=>?_⟩
 have nD0:=none_of s1 nD;have NT:∀i,i<n→H (ds i)=none:=fun i hi=>none_of s1 (Ym i hi);have dQ:=s1.trans s2;dsimp only [bH];refine ⟨_,rfl,a,n,o,rfl,⟨dQ _ _ tf,ho⟩,by lia,fun tr H3 s3 Yn e3=>?_⟩
 have eV:=dQ.trans s3;have af7:=none_of dQ Yn;have K3:=KL.mono s3;dsimp only [bH];refine gH (dB (EG (xs:=o.map fun k:Nat=>V.int (k:Int)) (n:=n) lm (fun R h=>⟨_,rfl,a,rfl,⟨_,.of (eV _ _ tf)⟩,h _ _ (ag.refl _) (mq (.of (eV _ _ tf)))⟩) (gG (by lia)) (fun _ i y Hx=>H3 y=none) (fun _ _ _ _ _ _ h _ _ _=>h) ?_ ?_))
 ·intro D' i x hx Hc R sc _ kc
  refine ⟨by show 0≤sizeLine;exact cN _,fun p np=>kc p _ (aO np) np ⟨_,az⟩ (none_of sc np)⟩
 ·intro c Yo H4 nc s4 _ hA ec
  have gR:=eV.trans s4;have NU:=none_of eV nc;have K4:=K3.mono s4;have e4:=s4 _ _ e3;have cD:c≠D:=fun z=>by rw [z,K3.lst] at nc;cases nc
  have Yp:c≠tr:=fun z=>by rw [z,e3] at nc;cases nc
  dsimp only [bH];refine gH ⟨_,rfl,a,rfl,⟨_,.of (gR _ _ tf)⟩,?_⟩
  refine nj (K:=K) (a:=a) (xs:=o.map fun k:Nat=>V.int (k:Int)) (fun k σ Hc=>∃(rs:Nat→Addr) (f g:Nat→List Nat) (v5:Option V),σ=[some (.ref tp),some (.ref a),some (.ref D),some (.ref tr),some (.ref c),v5]∧ag H Hc∧eR Hc D n ds (fun p=>k≤o.idxOf p) f∧Hc tr=some (.lst ((List.range n).map fun p=>V.int (o.idxOf p:Int)))∧Hc c=some (.lst ((List.range n).map fun p=>V.ref (rs p))) ∧
    (∀p,p<n→o.idxOf p<k→H (rs p)=none∧rs p≠c∧Hc (rs p)=some (.lst ((g p).map fun k:Nat=>V.int (k:Int)))∧ju n o p (g p)∧iY n Lk o p (g p))∧qE n Lk o k f) ⟨Yo,f,fun _=>[],_,rfl,gR,K4.less (fun _ _ _=>trivial),e4,ec,fun p _ h=>absurd h (ou _),qE.start nb ns⟩ (fun k σ Hc _ ⟨_,_,_,_,_,sc,_⟩=>.of (sc _ _ tf)) ?_ ?_
  ·rintro k x σ Hc hx ⟨rs,f,g,v5,rfl,sc,Kc,Gg,CP,done,Gh⟩
   have hk:k<o.length:=by have:=(b6.mp hx).1;simpa using this
   have ex:x=.int ((o[k]:Nat):Int):=by rw [cB] at hx;simp [hk] at hx;exact hx.symm
   subst ex;have hp:o[k]<n:=(dY ho).mp (dD hk);have ip:o.idxOf o[k]=k:=mE nd hk;generalize o[k]=p at hp ip ⊢;dsimp only [bH];have NV:=Kc.at' p hp (by lia)
   refine gH (dB (yr (Vs ⟨_,rfl,_,rfl,D,_,_,_,rfl,rfl,.of Kc.lst,Kc.ix hp,ds p,dk (f p),rfl,.inl ⟨NV,fun ob=>?_⟩⟩)));have Kf:eR (upd Hc (ds p) (.cW ob (.dK (dk (f p))))) D n ds (fun q=>k+1≤o.idxOf q) f:=(Kc.less (fun i hi (ui:k+1≤o.idxOf i)=>show k≤o.idxOf i by lia)).upd (Kc.ne p hp) (fun i hi (ui:k+1≤o.idxOf i) z=>by have:=Kc.inj i p hi hp z;subst this;lia)
   have Gi:∀{b:Addr} {xs:List V},Hc b=some (.lst xs)→b≠ds p:=fun{b xs} e z=>by rw [z,NV] at e;cases e
   have CQ:upd Hc (ds p) (.cW ob (.dK (dk (f p)))) tr=_:=(a9 (Gi Gg)).trans Gg;have CS:upd Hc (ds p) (.cW ob (.dK (dk (f p)))) c=_:=(a9 (Gi CP)).trans CP;have sf:ag H (upd Hc (ds p) (.cW ob (.dK (dk (f p))))):=fun b u e=>by
    rw [a9 (fun z=>by rw [z,NT p hp] at e;cases e)]
    exact sc _ _ e
   have Gj:∀q,q<n→o.idxOf q<k→H (rs q)=none∧rs q≠c∧upd Hc (ds p) (.cW ob (.dK (dk (f p)))) (rs q)=some (.lst ((g q).map fun k:Nat=>V.int (k:Int)))∧ju n o q (g q)∧iY n Lk o q (g q):=fun q hq CT=>by obtain ⟨d1,d2,d3,d4⟩:=done q hq CT;exact ⟨d1,d2,(a9 (Gi d3)).trans d3,d4⟩
   have NW:upd Hc (ds p) (.cW ob (.dK (dk (f p)))) (ds p)=some (.cW ob (.dK (dk (f p)))):=az;generalize upd Hc (ds p) (.cW ob (.dK (dk (f p))))=Hf at Kf CQ CS sf Gj NW ⊢;have zk:=Kc.pl p hp;refine Vk NW (fun q=>decide ((o.idxOf p:Int)<(o.idxOf q:Int))) (fE zk.len (gG (by lia))) ?_ ?_ ?_
   ·intro q hq Hx R sx hR
    have qn:=zk.2 q hq;exact ⟨_,rfl,_,rfl,tr,_,_,_,rfl,rfl,.of (sx _ _ CQ),eB qn,_,rfl,_,rfl,tr,_,_,_,rfl,rfl,.of (sx _ _ CQ),eB hp,_,_,rfl,rfl,_,rfl,hR⟩
   ·intro q hq Hx R hR
    exact ⟨_,rfl,hR⟩
   ·intro D1 H1 nD1 NX xb
    rw [Vr] at xb;have fl:((f p).filter fun q=>decide (o.idxOf p<o.idxOf q)).length≤n:=aj (Dj _ _) zk.len;refine ⟨D1,((f p).filter fun q=>decide (o.idxOf p<o.idxOf q)).map iN,rfl,by rw [xb,kf];rfl,by rw [aG];lia,fun ws D2 pw so NY=>?_⟩
    obtain ⟨ms,rfl,pm⟩:=Li pw;have gO:=Vl zk pm so;have hm:∀q,q∈ms↔q∈f p∧k<o.idxOf q:=fun q=>by rw [pm.mem_iff,tM,xG,ip]
    have Yq:iY n Lk o p ms:=fun q=>by
     rw [hm q,ip];constructor
     ·rintro ⟨h1,h2⟩
      have qn:=zk.2 q h1;exact ⟨qn,h2,((Gh p q hp qn (by lia) (by lia)).mp h1).2⟩
     ·rintro ⟨h1,h2,h3⟩
      exact ⟨(Gh p q hp h1 (by lia) (by lia)).mpr ⟨fun e=>by subst e;lia,h3⟩,h2⟩
    have tj:ag Hf (upd H1 D2 (.lst ((ms.map iN).map V.int))):=Ba NX NY;have CU:upd H1 D2 (.lst ((ms.map iN).map V.int)) D2=some (.lst (ms.map fun k:Nat=>V.int (k:Int))):=by rw [az,kf];rfl
    have Gk:Hf D2=none:=none_of NX NY;have Yr:H D2=none:=none_of sf Gk;generalize upd H1 D2 (.lst ((ms.map iN).map V.int))=Hg at tj CU ⊢;have NZ:D2≠c:=fun z=>by rw [z,CS] at Gk;cases Gk
    refine ⟨_,rfl,_,rfl,c,_,_,p,rfl,rfl,tj _ _ CS,by rw [aG,cK];exact o8 hp,?_⟩
    rw [Vn];have Kg:=Kf.mono tj;have Kh:eR (upd Hg c (.lst ((List.range n).map fun q=>V.ref (kG rs p D2 q)))) D n ds (fun q=>k+1≤o.idxOf q) f:=Kg.upd cD (fun i hi ui z=>by have:=Kg.at' i hi ui;rw [z,tj _ _ CS] at this;cases this)
    have sh:ag H (upd Hg c (.lst ((List.range n).map fun q=>V.ref (kG rs p D2 q)))):=jq (sf.trans tj) NU;have Gm:upd Hg c (.lst ((List.range n).map fun q=>V.ref (kG rs p D2 q))) c=_:=az;have N0:upd Hg c (.lst ((List.range n).map fun q=>V.ref (kG rs p D2 q))) tr=_:=(a9 (Ne.symm Yp)).trans (tj _ _ CQ);have Gn:upd Hg c (.lst ((List.range n).map fun q=>V.ref (kG rs p D2 q))) D2=_:=(a9 NZ).trans CU;have N1:∀q,q<n→o.idxOf q<k→upd Hg c (.lst ((List.range n).map fun q=>V.ref (kG rs p D2 q))) (rs q)=some (.lst ((g q).map fun k:Nat=>V.int (k:Int))):=fun q hq CT=>by obtain ⟨d1,d2,d3,d4⟩:=Gj q hq CT;exact (a9 d2).trans (tj _ _ d3)
    generalize upd Hg c (.lst ((List.range n).map fun q=>V.ref (kG rs p D2 q)))=Hh at Kh sh Gm N0 Gn N1 ⊢;refine ⟨_,rfl,_,rfl,_,rfl,c,_,_,_,rfl,rfl,.of Gm,eB hp,?_⟩;rw [Lj];refine ⟨D,D2,n,ds,_,f,ms,rfl,Kh,Gn,fun q hq=>⟨gO.lt q hq,by have:=gO.la q hq;lia⟩,by lia,fun H5 g5 off K5 con=>?_⟩
    have cm:∀{b:Addr} {xs:List V},Hh b=some (.lst xs)→H5 b=some (.lst xs):=fun{b xs} e=>off _ _ e fun i hi ui z=>by rw [z,Kh.at' i hi ui] at e;cases e
    refine ⟨kG rs p D2,g5,gq g p ms,_,rfl,fun b u e=>off _ _ (sh _ _ e) (fun i hi _ z=>by rw [z,NT i hi] at e;cases e),K5,cm N0,cm Gm,fun q hq CT=>?_,Gh.step ho hp ip hm gO.lt con⟩
    by_cases e:q=p
    ·subst e
     rw [Lj,Vp];exact ⟨Yr,NZ,cm Gn,gO,Yq⟩
    ·rw [Vo e,Vq e]
     have ne:=uz ho hq hp e;have N2:o.idxOf q<k:=by lia
     obtain ⟨d1,d2,d3,d4⟩:=Gj q hq N2;exact ⟨d1,d2,cm (N1 q hq N2),d4⟩
  ·rintro σ Hc ⟨rs,f,g,v5,rfl,sc,Kc,Gg,CP,done,_⟩
   rw [lm] at done;have lt:∀p,p<n→o.idxOf p<n:=fun p hp=>by have:=(gr ((dY ho).mpr hp)).1;lia
   exact ⟨_,rfl,kk Hc c rs g sc NU (fun p hp=>(done p hp (lt p hp)).1) ⟨CP,fun p hp=>(done p hp (lt p hp)).2.2.1⟩ fun p hp=>(done p hp (lt p hp)).2.2.2⟩
theorem Ys:bG ["world","table","order","others","work","turn","place"] ["world","table","order"] (aN B7):=bQ
theorem Yt(T:Txt K mg t):a_ P w K mg base b8 8 t.rR t.vz ["world","table","order"] (VJ t.aW t.oa):=by
 have S:=Ys;have kU:=w_ (P:=P) (w:=w) (base:=base) T;obtain ⟨dv,pD,pE⟩:=T.y4;refine T.wL.cC S (fun _ _ _ _ H _ _ _ hr h=>?_);obtain ⟨z,a,d,q,B,X,n,ay,o,M,D,rfl,hw,hq,hT,N3,ln,n1,jx,wd,ed,ho,eW,kS,kF⟩:=h;have s_:=hr.units;have hu:=fE (Nat.add_le_add_left (show 1≤64 by decide) _) hr.units
 have hu:=hr.x6;have lo:=gL ho;have Ly:=iA ho
 refine ⟨_,(aq (putL 3 S.nd (aM (Yl T) hr T.M4 T.wI.kp T.M3 iU (aa (aM (X4 T) hr T.MQ T.wB.kp T.MP iU (aa (pv 0) (aa (pv 1) ae))) (aa (pv 2) ae))))
  (aq (AX (i0:=4) (N:=["row"]) (ρ:=(fun σ=>[])) (fP [] rfl) rfl S.nd rfl (Or.inl rfl) (gh (pv 1)) (fun _ _ _=>.nil) (fun _ _ _=>(jK (TB (K:=K)) rfl T.jZ boot_list (aa (pv 0) ae))))
  (aq (gE e_ rfl (Es rfl T.CK (aa (pv 2) ae)) (xW rfl (l8 (eh (i:=5) S.nd rfl (Or.inl rfl)) (l8 (eh (i:=6) S.nd rfl (Or.inl rfl)) xV)))
   (aq (bV (bN (J0 hu) (aw bW (aw bW (pv 4) (pv 6)) (pv 6)) (fH (pv 0) T.cS T.pA kU (hr.mono (by decide)) pE pD iU (aa af ae))) (ax (aT (eE (aa (pv 4) (aa (pv 3) (aa (au dU (pv 5) af) ae)))))) b7)
  (ax (p_ (aM (XN T) hr T.M8 T.wK.kp T.M7 aP (aa (pv 0) (aa (pv 4) (aa (pv 6) (aa (aw bW (pv 3) (pv 6)) ae)))))))))
  (ax (aT (eE (aa (pv 4) (aa (pv 3) (aa ng ae))))))))),?_⟩
 have lt:∀zz∈eQ n (dq ay) n,0≤zz.1∧zz.1<zz.2∧zz.2<(n:Int):=VN;have Yu:ES n (eQ n (dq ay) n):=fun zz hz=>by have:=lt zz hz;exact ⟨this.1,by lia,by lia,this.2.2⟩
 have ns:ET (eQ n (dq ay) n):=fun zz hz=>by have:=lt zz hz;lia
 refine eI fun _ hR=>dB ⟨_,rfl,_,rfl,z,a,q,B,ay,n,rfl,hw,hq,hT,by lia,by lia,wd,fun ne=>absurd ln.symm ne,fun _ tp H1 s1 gz sh=>⟨_,rfl,tp,d,n,eQ n (dq ay) n,o.map iN,rfl,sh,Yu,ns,by lia,by rw [s1 _ _ ed,kf];rfl,by rw [aG];lia,fun no=>absurd (ho.map iN) no,fun o' ez lY H2 ot ls g s2 not nls la dP=>hR _ _ ?_⟩⟩
 have eo:o'=o:=by
  have inj:∀{a b:List Nat},a.map iN=b.map iN→a=b:=fun{a b} e=>by
   have:=eY (List.map Int.toNat) e;rw [kf,kf] at this;have Yv:(Int.toNat ∘ iN)=id:=by funext x;exact e9 x
   rwa [Yv,List.map_id,List.map_id] at this
  exact (inj ez).symm
 subst eo;have dQ:=s1.trans s2;obtain ⟨ra,vf,ea,er,num⟩:=VL (hT.mono dQ) ln wd;have xc:((List.range n).map fun i=>V.ref (ra i)).length=n:=by rw [aG,cK]
 refine eI fun _ hR=>dB (EG (xs:=(List.range n).map fun i=>V.ref (ra i)) (n:=n) xc (fun R h=>⟨_,rfl,a,rfl,⟨_,.of ea⟩,h _ _ (ag.refl _) (mq (.of ea))⟩) (gG (by lia)) (fun _ i y Hx=>Hx y=some (.lst ((List.range n).map (vf i)))∧H2 y=none) ?_ ?_ ?_)
 ·intro D i y Ha Hb ys ⟨h1,h2⟩ hy e f
  exact ⟨f y _ hy h1,h2⟩
 ·intro D i x hx Hc R sc _ kc
  have hi:i<n:=by
   have:=(b6.mp hx).1
   rwa [xc] at this
  have ex:x=.ref (ra i):=by rw [cB,pL hi] at hx;exact (Option.some.inj hx).symm
  subst ex;exact ⟨_,rfl,ra i,_,rfl,.inl (.of (sc _ _ (er i hi))),fun l nl=>kc l _ (aO nl) nl ⟨_,az⟩ ⟨az,none_of sc nl⟩⟩
 ·intro wk rs H3 Yw s3 inj hA Yx
  refine hR _ _ ?_;have W3:WTab H3 wk n rs vf:=⟨Yx,inj,fun i hi=>(hA i hi).2,fun i hi=>(hA i hi).1.1⟩;have zm:∀i,i<n→H2 (rs i)=none:=fun i hi=>(hA i hi).1.2;have eV:=dQ.trans s3;have F3:ft X H3 q n vf (sT M D o' 0) (sU M D o' 0):=fun i j hi hj=>by
   have e1:sT M D o' 0 i j=M i j:=by unfold sT;rw [ai ⟨cN _,cN _⟩];exact EU
   have e2:sU M D o' 0 i j=D i:=by unfold sU;rw [ai ⟨cN _,cN _⟩];exact d7 _
   have b:=eW.bd 0 i j (cN _);rw [e1,e2] at b ⊢;exact VM ((num i j hi hj).mono s3) (eW.qG i j hi hj) (eW.dn i) b.1 b.2
  have nv:=A5 hq;obtain ⟨dz,hz⟩:=id hw;have CV:∀{Hc:Hp},fT n rs H3 Hc→ag H2 Hc:=fun{Hc} oc b u e=>oc b u (fun i hi zz=>by rw [zz,zm i hi] at e;cases e) (s3 _ _ e)
  have sH:∀{Hc:Hp},fT n rs H3 Hc→ag H Hc:=fun{Hc} oc=>dQ.trans (CV oc);have Yy:∀i,i<n→ot≠rs i:=fun i hi zz=>by have h:=la.1;rw [zz,zm i hi] at h;cases h
  have N4:∀i,i<n→∀j,j<n→ls j≠rs i:=fun i hi j hj zz=>by have h:=la.2 j hj;rw [zz,zm i hi] at h;cases h
  have Yz:∀i,i<n→z≠rs i:=fun i hi zz=>by have h:=hz;rw [zz,none_of dQ (zm i hi)] at h;cases h
  have pack:∀{Hc:Hp} {vf:Nat→Nat→V} {k:Nat},fT n rs H3 Hc→WTab Hc wk n rs vf→ft X Hc q n vf (sT M D o' k) (sU M D o' k)→E6 H Hc q n X (eQ n (dq ay) n) o' M D k wk ot rs vf ls g:=fun{Hc vf k} oc Wc Fc=>⟨Wc,⟨none_of dQ Yw,fun i hi=>none_of dQ (zm i hi)⟩,Fc,⟨CV oc _ _ la.1,fun p hp=>CV oc _ _ (la.2 p hp)⟩,dP,fun i hi=>⟨Yy i hi,N4 i hi⟩⟩;refine eI fun _ hR=>⟨_,rfl,d,rfl,⟨_,.of (eV _ _ ed)⟩,?_⟩;refine Et (K:=K) (l:=d) (xs:=cQ o') (fun k σ Hc=>∃(vf:Nat→Nat→V) (v5 v6:Option V),σ=[some (.ref z),some (.ref a),some (.ref d),some (.ref ot),some (.ref wk),v5,v6]∧fT n rs H3 Hc∧WTab Hc wk n rs vf∧ft X Hc q n vf (sT M D o' k) (sU M D o' k)∧cV q M (cO o' k)) ⟨vf,_,_,rfl,fT.refl _ _ _,W3,F3,trivial⟩ (fun k σ Hc ⟨_,_,_,_,oc,_⟩=>.of (sH oc _ _ ed)) ?_ ?_
  ·rintro k x σ Hc Tt hx ⟨vf,v5,v6,rfl,oc,Wc,Fc,gd⟩ nT
   obtain ⟨p,hk,rfl⟩:=int_at hx;have kl:k<o'.length:=(b6.mp hk).1;have pk:o'[k]=p:=(b6.mp hk).2;have hp:p<n:=(dY ho).mp (gT hk);have ip:o'.idxOf p=k:=by rw [←pk];exact mE Ly kl
   have CW:ag Hc (upd Hc Tt (.tup [.int (k:Int),.int (p:Int)])):=aO nT;have eT:upd Hc Tt (.tup [.int (k:Int),.int (p:Int)]) Tt=some (.tup [.int (k:Int),.int (p:Int)]):=az;generalize upd Hc Tt (.tup [.int (k:Int),.int (p:Int)])=H4 at CW eT ⊢;have Gp:=oc.same CW;have W4:=Wc.mono CW;have F4:ft X H4 q n vf (sT M D o' k) (sU M D o' k):=fun i j hi hj=>(Fc i j hi hj).mono CW;refine ⟨Tt,_,rfl,.of eT,rfl,_,_,rfl,_,_,rfl,rfl,?_⟩;have N5:sT M D o' k p p=aI M (cO o' k) (M p) p:=by unfold sT;rw [ai ⟨by lia,by lia⟩]
   obtain ⟨x,m,h1,h2,h3⟩:=F4 p p hp hp;have xf:=sH Gp _ _ hz;refine eI fun _ hR=>⟨_,rfl,_,rfl,wk,_,_,_,rfl,rfl,.of W4.lst,eB hp,_,rfl,rs p,_,_,_,rfl,rfl,.of (W4.at' p hp),eB hp,_,rfl,z,dz,_,rfl,xf,fK (by decide +kernel),z,q,0,1,rfl,⟨dz,xf⟩,hq,a8.of_lt (by decide) (by decide),fun h=>absurd h nv,fun _ v0 H5 s5 YA=>?_⟩
   refine Kq (h1.mono s5) (yu (B:=1000) (by decide) YA hq (.inl rfl)) ⟨_,rfl,cu (fun hb=>?_) (fun hb=>?_)⟩
   ·have x0:x=0:=fN hb
    have CY:q∣aI M (cO o' k) (M p) p:=by rw [←N5];exact (EZ hq ⟨x,m,h1,h2,h3⟩).mpr ⟨x,m,h1,x0⟩
    have zo:=Gp.same s5;refine jr ⟨_,rfl,_,rfl,_,rfl,_,_,rfl,rfl,by show 3≤sizeLine;decide,fun tp gz=>kS k kl gd (by rw [pk];exact CY) tp wk ot _ rs ls vf g ((sH zo).trans (aO gz)) az (pack (zo.same (aO gz)) ((W4.mono s5).mono (aO gz)) fun i j hi hj=>((F4 i j hi hj).mono s5).mono (aO gz))⟩
   ·have x0:¬x=0:=fun zz=>hb (dC zz)
    have nW:¬q∣aI M (cO o' k) (M p) p:=fun CY=>by rw [←N5] at CY;obtain ⟨x',m',g1,g2⟩:=(EZ hq ⟨x,m,h1,h2,h3⟩).mp CY;exact x0 ((VO h1 g1).1.trans g2)
    refine hR _ _ ?_;have zo:=Gp.same s5;have S5:=CV zo;have gw:=VE (L:=eQ n (dq ay) n) (ms:=g p) (X:=X) hq ho hp ip gd nW eW.dn (fun a' b' ha hb ab na=>eW.zero a' b' ha hb (Lz ha hb ab na)) (dP p hp).2 eW.bd;have lk:=(dP p hp).1;refine ⟨_,rfl,_,rfl,_,rfl,_,rfl,_,rfl,ot,_,_,_,rfl,rfl,.of (S5 _ _ la.1),eB hp,z,wk,ls p,q,n,X,p,rs,vf,g p,sT M D o' k,sU M D o' k,sT M D o' (k+1),sU M D o' (k+1),rfl,⟨dz,s5 _ _ xf⟩,hq,W4.mono s5,S5 _ _ (la.2 p hp),fun i hi=>⟨N4 i hi p hp,Yz i hi⟩,hp,fun m' ji=>⟨lk.lt m' ji,fun zz=>by have:=lk.la m' ji;rw [zz] at this;lia⟩,lk.up.imp (fun h=>dR h),by lia,eW.X1,eW.gP,fun i j hi hj=>(F4 i j hi hj).mono s5,fun i j _ _=>eW.bd k i j (by lia),gw,fun H6 YB off W6 F6=>?_⟩
    exact ⟨YB,_,_,rfl,fun b u nb e=>off b u nb (zo b u nb e),W6,F6,by rw [uD kl,pk];exact ⟨gd,nW⟩⟩
  ·rintro σ Hc ⟨vf,v5,v6,rfl,oc,Wc,Fc,gd⟩
   refine hR _ _ ?_;have ll:(cQ o').length=n:=by unfold cQ;rw [aG,lo]
   rw [ll] at Fc gd;refine jr ⟨_,rfl,_,rfl,by show 3≤sizeLine;decide,fun tp gz=>kF gd tp wk ot _ rs ls vf g ((sH oc).trans (aO gz)) az (pack (oc.same (aO gz)) (Wc.mono (aO gz)) fun i j hi hj=>(Fc i j hi hj).mono (aO gz))⟩
theorem YC:bG ["world","work","others","order","aim","left","place","i"] ["world","work","others","order","aim"] (aN B8):=bQ
theorem YD(T:Txt K mg t):a_ P w K mg base b8 5 t.rT t.vA ["world","work","others","order","aim"] (VP t.aW):=by
 have S:=YC;have ze:=F8 (P:=P) (w:=w) (base:=base) T;have zf:=F9 (P:=P) (w:=w) (base:=base) T;refine T.wM.cC S (fun _ _ _ _ H _ _ _ hr h=>?_);obtain ⟨z,wk,ot,d,e,q,X,n,L,o,M,D,rs,ls,vf,g,av,rfl,hw,hq,n1,jx,hW,hF,la,dP,ed,ho,ee,hA,gd,hD,zero,X1,gP,bd,bl,kk⟩:=h;have lo:=gL ho;obtain ⟨dz,hz⟩:=id hw;have i4:X≤10 ^ 300:=aj gP (by decide +kernel)
 have XX:X*X≤10 ^ 300:=aj (cq gP gP) (by decide +kernel)
 have zp:∀i j,i<n→j<n→¬q∣sU M D o n i j:=fun i j hi hj=>(hF i j hi hj).choose_spec.choose_spec.2.2;have zt:∀k i,k≤n→¬q∣sW M D o k i:=fun k i hk=>gN hq (hD i) (nV hq (pb gd (by lia)))
 refine ⟨_,(aq (putL 5 S.nd (jK oM rfl T.jZ boot_list (aa (pv 4) ae)))
  (aq (gE e_ rfl (gh (pv 3)) (eh (i:=6) S.nd rfl (Or.inl rfl))
   (ax (gE e_ rfl (gh (aw bW (pv 2) (pv 6))) (eh (i:=7) S.nd rfl (Or.inl rfl))
   (ax (@jc _ _ _ _ _ _ (fH (pv 0) T.cS T.w5 ze (hr.mono (by decide)) T.CG .nil aP (aa (aw bW (pv 5) (pv 7)) (aa (fH (pv 0) T.cS T.w6 zf (hr.mono (by decide)) T.CI .nil aP (aa (aw bW (aw bW (pv 1) (pv 7)) (pv 6)) (aa (aw bW (pv 5) (pv 6)) ae))) ae))) (jb (pv 5) (pv 7) set_list) (by rfl) (by rfl) (by rfl))))))
  (ax (aT (pv 5))))),?_⟩
 refine eI fun _ hR=>dB ⟨_,rfl,e,_,rfl,.inl (.of ee),fun r nr=>hR _ _ ?_⟩;have o1:kH r H (upd H r (.lst ((List.range n).map av))):=kH.of (aO nr);have e1:fA (upd H r (.lst ((List.range n).map av))) r n av:=az;have F1:∀i,i<n→bM X (upd H r (.lst ((List.range n).map av))) q (av i) (sL M o n 0 i) (sW M D o 0 i):=fun i hi=>by
  have a1:sL M o n 0 i=M i n:=by unfold sL;rw [Nat.zero_min];exact EU
  have a2:sW M D o 0 i=D i:=by unfold sW;rw [Nat.zero_min];exact d7 _
  rw [a1,a2];exact (hA i hi).mono (aO nr)
 generalize upd H r (.lst ((List.range n).map av))=H1 at o1 e1 F1 ⊢;have off:∀{Hc:Hp},kH r H Hc→∀b u,H b=some u→Hc b=some u:=fun{Hc} oc b u e=>oc b u (fun zz=>by rw [zz,nr] at e;cases e) e
 refine eI fun _ hR=>⟨_,rfl,d,rfl,⟨_,.of (off o1 _ _ ed)⟩,?_⟩;refine nj (K:=K) (a:=d) (xs:=cQ o) (fun k σ Hc=>∃(lv:Nat→V) (v6 v7:Option V),σ=[some (.ref z),some (.ref wk),some (.ref ot),some (.ref d),some (.ref e),some (.ref r),v6,v7]∧kH r H Hc∧fA Hc r n lv∧∀i,i<n→bM X Hc q (lv i) (sL M o n k i) (sW M D o k i)) ⟨av,_,_,rfl,o1,e1,F1⟩ (fun k σ Hc _ ⟨_,_,_,_,oc,_⟩=>.of (off oc _ _ ed)) ?_ ?_
 ·rintro k x σ Hc hx ⟨lv,v6,v7,rfl,oc,er,Fc⟩
  obtain ⟨p,hk,rfl⟩:=int_at hx;have kl:k<o.length:=(b6.mp hk).1;have pk:o[k]=p:=(b6.mp hk).2;have hp:p<n:=(dY ho).mp (gT hk);have ip:o.idxOf p=k:=by rw [←pk];exact mE (iA ho) kl
  obtain ⟨YE,gY⟩:=VQ (D:=D) hq ho hp ip gd zero (dP p hp).2;have lk:=(dP p hp).1;have nd:(g p).Nodup:=lk.up.imp (fun h=>dR h);have pm:p∉g p:=fun zz=>by have:=lk.la p zz;lia
  dsimp only [bH];refine ⟨_,rfl,_,rfl,ot,_,_,_,rfl,rfl,.of (off oc _ _ la.1),eB hp,ls p,rfl,⟨_,.of (off oc _ _ (la.2 p hp))⟩,?_⟩;refine nj (K:=K) (a:=ls p) (xs:=cQ (g p)) (fun l σ Hd=>∃(lv:Nat→V) (v7:Option V),σ=[some (.ref z),some (.ref wk),some (.ref ot),some (.ref d),some (.ref e),some (.ref r),some (.int (p:Int)),v7]∧kH r H Hd∧fA Hd r n lv∧∀i,i<n→bM X Hd q (lv i) (if i∈(g p).take l then sL M o n (k+1) i else sL M o n k i) (if i∈(g p).take l then sW M D o (k+1) i else sW M D o k i)) ⟨lv,_,rfl,oc,er,fun i hi=>by simpa using Fc i hi⟩ (fun l σ Hd _ ⟨_,_,_,od,_⟩=>.of (off od _ _ (la.2 p hp))) ?_ ?_
  ·clear Fc er oc
   rintro l x σ Hd hx ⟨lv,v7,rfl,od,er,Fd⟩;obtain ⟨i,hi,rfl⟩:=int_at hx;have im:=gT hi;have cR:=lk.lt i im;have il:=Bj nd hi;have pl:p∉(g p).take l:=fun zz=>pm (List.mem_of_mem_take zz);have wi:=Fd i cR;have wp:=Fd p hp;rw [ao il,ao il] at wi;rw [ao pl,ao pl] at wp;have sd:ag H Hd:=off od;have wt:=(hF i p cR hp).mono sd;have hU:=sd _ _ hz;dsimp only [bH];refine dB ⟨_,rfl,z,dz,_,rfl,hU,fK (by decide +kernel),_,rfl,_,rfl,r,_,_,_,rfl,rfl,.of er,eB cR,_,rfl,z,dz,_,rfl,hU,fK (by decide +kernel),_,rfl,_,rfl,wk,_,_,_,rfl,rfl,.of (sd _ _ hW.lst),eB cR,_,rfl,rs i,_,_,_,rfl,rfl,.of (sd _ _ (hW.at' i cR)),eB hp,_,rfl,_,rfl,r,_,_,_,rfl,rfl,.of er,eB hp,?_⟩
   dsimp only [oK];show kB t.aW (fun x m y n=>x*y) (fun i j=>i*j) [.ref z,vf i p,lv p] _ _ _;refine E3 (Y':=(sT M D o n i p*sL M o n k p).natAbs+(sU M D o n i p*sW M D o k p).natAbs) ⟨dz,hU⟩ hq wt wp i4 i4 (gN hq (zp i p cR hp) (zt k p (by lia))) (by lia) (by lia) fun v1 H2 s2 w1=>?_
   have w1:bM (X*X) H2 q v1 (sT M D o n i p*sL M o n k p) (sU M D o n i p*sW M D o k p):=w1.bd (by rw [b_];exact cq (bd n i p (aE _)).1 (bl k p (by lia)).1) (by rw [b_];exact cq (bd n i p (aE _)).2 (bl k p (by lia)).2)
   show kB t.aW (fun x m y n=>x*n-y*m) (fun i j=>i-j) [.ref z,lv i,v1] _ _ _;refine E2 (Y':=(sL M o n k i*(sU M D o n i p*sW M D o k p)-sT M D o n i p*sL M o n k p*sW M D o k i).natAbs+(sW M D o k i*(sU M D o n i p*sW M D o k p)).natAbs) ⟨dz,s2 _ _ hU⟩ hq (wi.mono s2) w1 i4 XX (gN hq (zt k i (by lia)) (gN hq (zp i p cR hp) (zt k p (by lia)))) (by lia) (by lia) fun v2 H3 s3 w2=>?_
   have w2:=(w2.eq hq (YE i im) (zt (k+1) i (by lia))).bd (bl (k+1) i (by lia)).1 (bl (k+1) i (by lia)).2
   have tu:=s2.trans s3;have i6:=tu _ _ er;refine ⟨_,rfl,_,rfl,r,_,_,i,rfl,rfl,i6,by rw [aG,cK];exact o8 cR,?_⟩
   refine ⟨fun j=>if j=i then v2 else lv j,_,rfl,fun b u ne e=>by rw [a9 ne];exact tu _ _ (od b u ne e),by unfold fA;rw [az,map_set],fun j hj=>?_⟩
   rw [take_snoc hi];by_cases ej:j=i
   ·subst ej
    simp only [ai,i7,gA,or_true];exact w2.put i6
   ·have e3:(j∈(g p).take l++[i])↔j∈(g p).take l:=by simp [ej]
    simp only [ao ej,e3];exact ((Fd j hj).mono tu).put i6
  ·rintro σ Hd ⟨lv,v7,rfl,od,er,Fd⟩
   have ll:(cQ (g p)).length=(g p).length:=aG _;rw [ll,k4] at Fd;refine ⟨lv,_,_,rfl,od,er,fun i hi=>?_⟩;have:=Fd i hi;by_cases h:i∈g p;·rwa [ai h,ai h] at this
   ·rw [ao h,ao h] at this
    exact (this.eq hq (gY i hi h) (zt (k+1) i (by lia))).bd (bl (k+1) i (by lia)).1 (bl (k+1) i (by lia)).2
 ·rintro σ Hc ⟨lv,v6,v7,rfl,oc,er,Fc⟩
  refine hR _ _ ?_;have ll:(cQ o).length=n:=by unfold cQ;rw [aG,lo]
  rw [ll] at Fc;exact ⟨_,rfl,kk r lv Hc (off oc) nr er Fc⟩
theorem YF:bG ["world","work","others","places","row","told","place","j"] ["world","work","others","places","row"] (aN B9):=bQ
theorem N6(T:Txt K mg t):a_ P w K mg base b8 5 t.rV t.vB ["world","work","others","places","row"] (VS t.aW):=by
 have S:=YF;have ze:=F8 (P:=P) (w:=w) (base:=base) T;have zf:=F9 (P:=P) (w:=w) (base:=base) T;have F_:=NK (P:=P) (w:=w) (base:=base) T;refine T.sS.cC S (fun _ A _ _ H _ _ _ hr h=>?_);obtain ⟨z,wk,ot,d,e,q,X,n,ps,Tw,U,rs,ls,vf,g,av,A,B,x,y,Sw,Rw,rfl,hw,hq,jx,hW,hF,hB,la,ed,nd,Gf,Gq,ee,hA,X1,gP,rp,kk⟩:=h;obtain ⟨dz,hz⟩:=id hw;have i4:X≤10 ^ 300:=aj gP (by decide +kernel)
 have XX:X*X≤10 ^ 300:=aj (cq gP gP) (by decide +kernel)
 have zp:∀i j,i<n→j<n→¬q∣U i j:=fun i j hi hj=>(hF i j hi hj).choose_spec.choose_spec.2.2
 refine ⟨_,(aq (putL 5 S.nd (jK oM rfl T.jZ boot_list (aa (pv 4) ae)))
  (aq (gE e_ rfl (VH rfl T.NB (aa (pv 3) ae)) (eh (i:=6) S.nd rfl (Or.inl rfl))
   (aq (gE e_ rfl (gh (aw bW (pv 2) (pv 6))) (eh (i:=7) S.nd rfl (Or.inl rfl))
   (ax (@jc _ _ _ _ _ _ (fH (pv 0) T.cS T.w5 ze (hr.mono (by decide)) T.CG .nil aP (aa (aw bW (pv 5) (pv 6)) (aa (fH (pv 0) T.cS T.w6 zf (hr.mono (by decide)) T.CI .nil aP (aa (aw bW (aw bW (pv 1) (pv 6)) (pv 7)) (aa (aw bW (pv 5) (pv 7)) ae))) ae))) (jb (pv 5) (pv 6) set_list) (by rfl) (by rfl) (by rfl))))
  (ax (@jc _ _ _ _ _ _ (fH (pv 0) T.cS T.y7 F_ (hr.mono (by decide)) T.FW .nil iU (aa (aw bW (pv 5) (pv 6)) (aa (aw bW (aw bW (pv 1) (pv 6)) (pv 6)) ae))) (jb (pv 5) (pv 6) set_list) (by rfl) (by rfl) (by rfl)))))
  (ax (aT (pv 5))))),?_⟩
 refine eI fun _ hR=>dB ⟨_,rfl,e,_,rfl,.inl (.of ee),fun r nr=>hR _ _ ?_⟩;have o1:kH r H (upd H r (.lst ((List.range n).map av))):=kH.of (aO nr);have e1:fA (upd H r (.lst ((List.range n).map av))) r n av:=az;have F1:∀i,i<n→bM X (upd H r (.lst ((List.range n).map av))) q (av i) (A i) (B i):=fun i hi=>(hA i hi).mono (aO nr);generalize upd H r (.lst ((List.range n).map av))=H1 at o1 e1 F1 ⊢;have off:∀{Hc:Hp},kH r H Hc→∀b u,H b=some u→Hc b=some u:=fun{Hc} oc b u e=>oc b u (fun zz=>by rw [zz,nr] at e;cases e) e
 have Gr:(cQ ps).length=ps.length:=aG _;refine eI fun _ hR=>⟨_,rfl,d,_,rfl,.of (off o1 _ _ ed),?_⟩;refine VI (K:=K) (a:=d) (xs:=cQ ps) (fun k σ Hc=>∃(lv:Nat→V) (v6 v7:Option V),σ=[some (.ref z),some (.ref wk),some (.ref ot),some (.ref d),some (.ref e),some (.ref r),v6,v7]∧kH r H Hc∧fA Hc r n lv∧∀i,i<n→bM X Hc q (lv i) (if i∈ps.take (ps.length-k) then A i else x i) (if i∈ps.take (ps.length-k) then B i else y i)) ⟨av,_,_,rfl,o1,e1,fun i hi=>?_⟩ (fun k σ Hc _ ⟨_,_,_,_,oc,_⟩=>.of (off oc _ _ ed)) ?_ ?_
 ·rw [Nat.sub_zero,k4]
  by_cases h:i∈ps
  ·rw [ai h,ai h]
   exact F1 i hi
  ·rw [ao h,ao h,←(rp.yE i hi h).1,←(rp.yE i hi h).2]
   exact F1 i hi
 ·rintro k v σ Hc YG hx ⟨lv,v6,v7,rfl,oc,er,Fc⟩
  rw [Gr] at YG hx;obtain ⟨p,hk,rfl⟩:=int_at hx;have pm:=gT hk;obtain ⟨hp,hg⟩:=Gf p pm;have Gq:=Gq _ p hk;have ts:ps.take (ps.length-k)=ps.take (ps.length-1-k)++[p]:=by
   rw [show ps.length-k=(ps.length-1-k)+1 by lia]
   exact take_snoc hk
  have pt:p∉ps.take (ps.length-1-k):=Bj nd hk;have gt:∀j∈g p,j∉ps.take (ps.length-k):=fun j hj=>by
   have:=Gq j hj
   rwa [show ps.length-1-k+1=ps.length-k by lia] at this
  dsimp only [bH];refine eI fun _ hR=>⟨_,rfl,_,rfl,ot,_,_,_,rfl,rfl,.of (off oc _ _ la.1),eB hp,ls p,rfl,⟨_,.of (off oc _ _ (la.2 p hp))⟩,?_⟩;refine nj (K:=K) (a:=ls p) (xs:=cQ (g p)) (fun l σ Hd=>∃(lv:Nat→V) (v7:Option V),σ=[some (.ref z),some (.ref wk),some (.ref ot),some (.ref d),some (.ref e),some (.ref r),some (.int (p:Int)),v7]∧kH r H Hd∧fA Hd r n lv∧bM X Hd q (lv p) (Sw p l) (Rw p l)∧∀i,i<n→i≠p→bM X Hd q (lv i) (if i∈ps.take (ps.length-k) then A i else x i) (if i∈ps.take (ps.length-k) then B i else y i)) ⟨lv,_,rfl,oc,er,?_,fun i hi _=>Fc i hi⟩ (fun l σ Hd _ ⟨_,_,_,od,_⟩=>.of (off od _ _ (la.2 p hp))) ?_ ?_
  ·have:=Fc p hp
   rw [ai (by rw [ts];simp),ai (by rw [ts];simp)] at this
   exact (this.eq hq (rp.s0 p pm) (rp.E8 p pm 0)).bd (rp.bd.1 p pm 0 (cN _)).1 (rp.bd.1 p pm 0 (cN _)).2
  ·clear Fc er oc
   rintro l v σ Hd hx ⟨lv,v7,rfl,od,er,wp,Fd⟩;obtain ⟨j,hj,rfl⟩:=int_at hx;have jm:=gT hj;have ll:=(b6.mp hj).1;obtain ⟨fz,jp⟩:=hg j jm;have wj:=Fd j fz jp;rw [ao (gt j jm),ao (gt j jm)] at wj;have sd:ag H Hd:=off od;have wt:=(hF p j hp fz).mono sd;have hU:=sd _ _ hz;dsimp only [bH];refine dB ⟨_,rfl,z,dz,_,rfl,hU,fK (by decide +kernel),_,rfl,_,rfl,r,_,_,_,rfl,rfl,.of er,eB hp,_,rfl,z,dz,_,rfl,hU,fK (by decide +kernel),_,rfl,_,rfl,wk,_,_,_,rfl,rfl,.of (sd _ _ hW.lst),eB hp,_,rfl,rs p,_,_,_,rfl,rfl,.of (sd _ _ (hW.at' p hp)),eB fz,_,rfl,_,rfl,r,_,_,_,rfl,rfl,.of er,eB fz,?_⟩
   dsimp only [oK];show kB t.aW (fun x m y n=>x*y) (fun i j=>i*j) [.ref z,vf p j,lv j] _ _ _;refine E3 (Y':=(Tw p j*x j).natAbs+(U p j*y j).natAbs) ⟨dz,hU⟩ hq wt wj i4 i4 (gN hq (zp p j hp fz) (rp.E9 j)) (by lia) (by lia) fun v1 H2 s2 w1=>?_
   have w1:bM (X*X) H2 q v1 (Tw p j*x j) (U p j*y j):=w1.bd (by rw [b_];exact cq (hB p j hp fz).1 (rp.bd.2 j).1) (by rw [b_];exact cq (hB p j hp fz).2 (rp.bd.2 j).2)
   show kB t.aW (fun x m y n=>x*n-y*m) (fun i j=>i-j) [.ref z,lv p,v1] _ _ _;refine E2 (Y':=(Sw p l*(U p j*y j)-Tw p j*x j*Rw p l).natAbs+(Rw p l*(U p j*y j)).natAbs) ⟨dz,s2 _ _ hU⟩ hq (wp.mono s2) w1 i4 XX (gN hq (rp.E8 p pm l) (gN hq (zp p j hp fz) (rp.E9 j))) (by lia) (by lia) fun v2 H3 s3 w2=>?_
   have w2:=(w2.eq hq (rp.VR p pm l j hj) (rp.E8 p pm (l+1))).bd (rp.bd.1 p pm (l+1) ll).1 (rp.bd.1 p pm (l+1) ll).2;have tu:=s2.trans s3;have i6:=tu _ _ er;refine ⟨_,rfl,_,rfl,r,_,_,p,rfl,rfl,i6,by rw [aG,cK];exact o8 hp,?_⟩
   refine ⟨fun i=>if i=p then v2 else lv i,_,rfl,fun b u ne e=>by rw [a9 ne];exact tu _ _ (od b u ne e),by unfold fA;rw [az,map_set],by dsimp only;rw [ai rfl];exact w2.put i6,fun i hi ip=>?_⟩
   dsimp only;rw [ao ip];exact ((Fd i hi ip).mono tu).put i6
  ·rintro σ Hd ⟨lv,v7,rfl,od,er,wp,Fd⟩
   have ll:(cQ (g p)).length=(g p).length:=aG _;rw [ll] at wp;refine hR _ _ ?_;have sd:ag H Hd:=off od;have wt:=(hF p p hp hp).mono sd;have hU:=sd _ _ hz;refine dB ⟨_,rfl,z,dz,_,rfl,hU,fK (by decide +kernel),_,rfl,_,rfl,r,_,_,_,rfl,rfl,.of er,eB hp,_,rfl,_,rfl,wk,_,_,_,rfl,rfl,.of (sd _ _ hW.lst),eB hp,_,rfl,rs p,_,_,_,rfl,rfl,.of (sd _ _ (hW.at' p hp)),eB hp,?_⟩
   dsimp only [oK];show AQ t.aW t.jw [.ref z,lv p,vf p p] _ _ _;refine Lu (Y':=(Sw p (g p).length*U p p).natAbs+(Rw p (g p).length*Tw p p).natAbs) ⟨dz,hU⟩ hq wp wt i4 i4 (rp.nW p pm) (by lia) (by lia) fun v2 H3 s3 w2=>?_
   have w2:=(w2.eq hq (rp.fin p pm) (rp.E9 p)).bd (rp.bd.2 p).1 (rp.bd.2 p).2;have i6:=s3 _ _ er;refine ⟨_,rfl,_,rfl,r,_,_,p,rfl,rfl,i6,by rw [aG,cK];exact o8 hp,?_⟩
   refine ⟨fun i=>if i=p then v2 else lv i,_,_,rfl,fun b u ne e=>by rw [a9 ne];exact s3 _ _ (od b u ne e),by unfold fA;rw [az,map_set],fun i hi=>?_⟩
   rw [show ps.length-(k+1)=ps.length-1-k by lia]
   dsimp only;by_cases ip:i=p
   ·subst ip
    rw [ai rfl,ao pt,ao pt];exact w2.put i6
   ·have e3:i∈ps.take (ps.length-k)↔i∈ps.take (ps.length-1-k):=by rw [ts];simp [ip]
    have:=((Fd i hi ip).mono s3).put (o:=.lst (((List.range n).map lv).set p v2)) i6;simp only [e3] at this;rw [ao ip];exact this
 ·rintro σ Hc ⟨lv,v6,v7,rfl,oc,er,Fc⟩
  refine hR _ _ ?_;rw [Gr] at Fc;refine ⟨_,rfl,kk r lv Hc (off oc) nr er fun i hi=>?_⟩;have:=Fc i hi;simpa using this
theorem YH:bG ["world","work","others","order","many","start"] ["world","work","others","order","many"] (aN B_):=bQ
theorem YI(T:Txt K mg t):a_ P w K mg base b8 6 t.rW t.vC ["world","work","others","order","many"] (VZ t.aW):=by
 have S:=YH;have kU:=w_ (P:=P) (w:=w) (base:=base) T;obtain ⟨dv,pD,pE⟩:=T.y4;refine T.wN.cC S (fun _ _ _ _ H _ _ _ hr h=>?_);obtain ⟨z,wk,ot,d,q,X,n,k,tt,L,o,M,D,rs,ls,vf,g,rfl,hw,hq,jx,hW,hF,la,dP,ed,ho,ht,it,gd,hD,zero,X1,gP,bd,b1,b2,kk⟩:=h;have lo:=gL ho;obtain ⟨dz,hz⟩:=id hw;have nv:=A5 hq;have kl:k<o.length:=by rw [←it];exact (gr ((dY ho).mpr ht)).1
 have YJ:o[k]=tt:=by have:=(gr ((dY ho).mpr ht)).2;simp only [it] at this;exact this
 have ln:(cQ o).length=n:=by unfold cQ;rw [aG,lo]
 refine ⟨_,(aq (putL 5 S.nd (au DR (gi (aa (fH (pv 0) T.cS T.pA kU (hr.mono (by decide)) pE pD iU (aa af ae)) ae)) (bP di rfl T.cZ c_ (aa (pv 3) ae))))
  (aq (@jc _ _ _ _ _ _ (fH (pv 0) T.cS T.pA kU (hr.mono (by decide)) pE pD iU (aa af ae)) (jb (pv 5) (aw bW (pv 3) (au gZ (pv 4) af)) set_list) (by rfl) (by rfl) (by rfl))
  (ax (aT (aM (N6 T) hr T.FQ T.sS.kp T.FP aP (aa (pv 0) (aa (pv 1) (aa (pv 2) (aa (Jo RB (pv 3) Jm (Jn (au gZ (pv 4) af))) (aa (pv 5) ae)))))))))),?_⟩
 refine eI fun _ hR=>dB ⟨_,rfl,z,dz,_,rfl,hz,fK (by decide +kernel),z,q,0,1,rfl,⟨dz,hz⟩,hq,a8.of_lt (by decide) (by decide),fun h=>absurd h nv,fun _ v0 H1 s1 YK=>?_⟩
 refine ⟨by show 1≤sizeLine;decide,fun l nl=>?_⟩
 have sl:ag H1 (upd H1 l (.lst [v0])):=aO nl;have tw:upd H1 l (.lst [v0]) l=some (.lst [v0]):=az;have h0:=yu (B:=X) (by lia) (YK.mono sl) hq (.inl rfl)
 generalize upd H1 l (.lst [v0])=H2 at sl tw h0 ⊢;have s2:=s1.trans sl;refine ⟨_,rfl,d,_,rfl,.inl (.of (s2 _ _ ed)),?_⟩;rw [ln];refine ⟨l,(n:Int),[v0],rfl,rfl,tw,by lia,by lia,?_,fun r nr=>hR _ _ ?_⟩
 ·rw [e9]
  exact aj (show [v0].length*n≤40 by simp;exact jx) (by decide)
 rw [e9,show (List.replicate n [v0]).flatten=(List.range n).map fun _=>v0 by
  refine ke (by simp) fun i h1 h2=>?_
  simp]
 have sr:ag H2 (upd H2 r (.lst ((List.range n).map fun _=>v0))):=aO nr;have er:upd H2 r (.lst ((List.range n).map fun _=>v0)) r=some (.lst ((List.range n).map fun _=>v0)):=az;generalize upd H2 r (.lst ((List.range n).map fun _=>v0))=H3 at sr er ⊢;have s3:=s2.trans sr;have YL:H r=none:=none_of s2 nr;have N7:=s3 _ _ hz;refine eI fun _ hR=>dB ⟨_,rfl,z,dz,_,rfl,N7,fK (by decide +kernel),z,q,1,1,rfl,⟨dz,N7⟩,hq,a8.of_lt (by decide) (by decide),fun h=>absurd h nv,fun _ v1 H4 s4 YM=>?_⟩
 have h1:=yu (B:=X) (by lia) YM hq (.inr rfl)
 have tE:=s4 _ _ er;have ek:(cQ o)[k]?=some (.int (tt:Int)):=by unfold cQ;rw [cB,gW kl,YJ];rfl
 refine ⟨_,rfl,_,rfl,_,rfl,_,_,rfl,rfl,d,_,_,_,rfl,rfl,.of (s4 _ _ (s3 _ _ ed)),(by show d5 (cQ o) ((k:Int)+1-1)=_;rw [show (k:Int)+1-1=(k:Int) by lia];exact iS ek),r,_,_,tt,rfl,rfl,tE,by rw [aG,cK];exact o8 ht,hR _ _ ?_⟩
 have N8:¬q∣aK M (cO o k):=nV hq gd;rw [map_set];have o5:∀b u,b≠r→H4 b=some u→upd H4 r (.lst ((List.range n).map fun j'=>if j'=tt then v1 else v0)) b=some u:=fun b u ne e=>by rw [a9 ne];exact e
 have CZ:upd H4 r (.lst ((List.range n).map fun j'=>if j'=tt then v1 else v0)) r=some (.lst ((List.range n).map fun j'=>if j'=tt then v1 else v0)):=az
 have w1:bM X (upd H4 r (.lst ((List.range n).map fun j'=>if j'=tt then v1 else v0))) q v1 (aK M (cO o k)) (aK M (cO o k)):=bM.put ⟨1,1,h1,by rw [mX,d7,k9];exact gB q,N8⟩ tE
 have w0:bM X (upd H4 r (.lst ((List.range n).map fun j'=>if j'=tt then v1 else v0))) q v0 0 (aK M (cO o k)):=bM.put ⟨0,1,(h0.mono sr).mono s4,by rw [fj,fj,k9];exact gB q,N8⟩ tE
 generalize upd H4 r (.lst ((List.range n).map fun j'=>if j'=tt then v1 else v0))=H5 at o5 CZ w1 w0 ⊢
 have s5:ag H H5:=fun b u e=>o5 b u (fun zz=>by rw [zz,YL] at e;cases e) (s4 _ _ (s3 _ _ e))
 refine jr ⟨_,rfl,_,rfl,_,rfl,_,rfl,_,rfl,_,_,rfl,rfl,_,rfl,d,_,rfl,.of (s5 _ _ ed),fun u nu=>?_⟩;have ec:jL (cQ o) none (some ((k:Int)+1-1))=cQ (o.take k):=by
  rw [show (k:Int)+1-1=(k:Int) by lia,SJ]
  unfold cQ;rw [List.map_take]
 rw [ec];have s6:ag H5 (upd H5 u (.lst (cQ (o.take k)))):=aO nu;have eu:upd H5 u (.lst (cQ (o.take k))) u=some (.lst (cQ (o.take k))):=az;generalize upd H5 u (.lst (cQ (o.take k)))=H6 at s6 eu ⊢;have mM:=s5.trans s6;have lt:∀{p},p∈o.take k→p<n∧o.idxOf p<k:=fun{p} hp=>(uC ho).mp hp;refine ⟨_,rfl,z,wk,ot,u,r,q,X,n,o.take k,sT M D o k,sU M D o k,rs,ls,vf,g,fun j'=>if j'=tt then v1 else v0,fun i=>if i=tt then aK M (cO o k) else 0,fun _=>aK M (cO o k),b9 M o k tt,fun _=>aK M (cO o k),mS M o g k tt,fun p _=>D p*aK M (cO o (o.idxOf p))*aK M (cO o k),rfl,⟨dz,mM _ _ hz⟩,hq,jx,hW.mono mM,fun i j hi hj=>(hF i j hi hj).mono mM,fun i j _ _=>bd k i j (by lia),⟨mM _ _ la.1,fun p hp=>mM _ _ (la.2 p hp)⟩,eu,(xt k o).nodup (iA ho),fun p hp=>⟨(lt hp).1,fun j hj=>⟨(dP p (lt hp).1).1.lt j hj,fun zz=>by have:=(dP p (lt hp).1).1.la j hj;rw [zz] at this;lia⟩⟩,fun k' p mJ j hj zz=>?_,s6 _ _ CZ,fun i hi=>?_,X1,gP,VY hq ho ht it gd hD zero dP b1 b2,fun r' lv H7 s7 Gs YN F7=>kk r' lv H7 (mM.trans s7) (none_of mM Gs) YN F7⟩
 ·have pm:=gT mJ
  have Gu:=(b6.mp mJ).1;have e1:o[k']?=some p:=by
   rw [kY] at Gu;rw [List.getElem?_take,ai (by lia)] at mJ
   exact mJ
  have ip:o.idxOf p=k':=by
   have:=mE (iA ho) (b6.mp e1).1
   rwa [(b6.mp e1).2] at this
  have YO:=(dP p (lt pm).1).1.la j hj;have jt:j∈o.take (k'+1):=by rw [List.take_take] at zz;exact (List.take_prefix_take_left (Nat.min_le_left _ _)).subset zz
  have:=((uC ho).mp jt).2;lia
 ·dsimp only
  by_cases e:i=tt
  ·rw [ai e,ai e]
   exact w1.mono s6
  ·rw [ao e,ao e]
   exact w0.mono s6
theorem YQ:bG ["row","bottom","number"] ["row"] (aN BQ):=bQ
theorem YR(T:Txt K mg t):a_ P w K mg base b8 2 t.rq t.ve ["row"] T_:=by
 have S:=YQ;refine T.wo.cC S (fun _ _ _ _ H vs _ _ hr h=>?_);obtain ⟨a,ps,B,D,rfl,⟨vs,ea,hl,hn⟩,N9,kI,hD,hB,bD,k⟩:=h
 refine ⟨_,(aq (fJ 1 S.nd af)
  (aq (gE e_ rfl (gh (pv 0)) (eh (i:=2) S.nd rfl (Or.inl rfl))
   (ax (fJ 1 S.nd (au eN (au kA (pv 1) (aM (w9 T) hr T.sQ T.lP.kp T.sP aP (aa (pv 1) (aa (aw a7 (pv 2) af) ae)))) (aw a7 (pv 2) af)))))
  (ax (aT (eE (aa (iu (N:=["number","bottom"]) (ρ:=(fun σ=>[σ[1]?.join])) (fP [1] rfl) rfl (gh (pv 0)) (fun _ _ _=>.nil) (fun _ _ _=>(au eN (aw (Em (K:=K)) (pv 0) af) (au kA (pv 1) (aw (Em (K:=K)) (pv 0) af))))) (aa (pv 1) ae))))))),?_⟩
 have D1:=kI.1 rfl;have parts:∀(i:Nat) (v:V),vs[i]?=some v→∃(r:Addr) (x m:Int),v=.ref r∧H r=some (.tup [.int x,.int m])∧ps[i]?=some (x,m)∧cz x m∧x.natAbs≤B∧m∣D:=fun i v e=>by
  have hi:i<ps.length:=by rw [←hl];exact (b6.mp e).1
  have ep:ps[i]?=some ps[i]:=by simp [hi]
  have h1:=hn i v ps[i] e ep;have h2:=hD _ (dD hi);generalize ps[i]=p at h1 ep h2;obtain ⟨x,m⟩:=p;cases h1 with
  | bA er l bx bm=>exact ⟨_,x,m,rfl,er,ep,l,bx,h2⟩
  | rem h0 h1 h2=>lia
 have xg:∀{y:Int},y∣D→a8 y:=fun h=>a8.Eu (aj (uu h (by lia)) bD)
 refine ⟨_,rfl,a,rfl,⟨_,.of ea⟩,?_⟩
 refine nj (K:=K) (a:=a) (xs:=vs) (fun i σ Hc=>Hc=H∧∃(b:Int) (v2:Option V),σ=[some (.ref a),some (.int b),v2]∧1≤b∧b∣D∧∀(j:Nat) (p:Int×Int),j<i→ps[j]?=some p→p.2∣b)
  ⟨rfl,1,none,rfl,by decide,Int.one_dvd D,fun j p hj=>by lia⟩ (fun i σ Hc _ ⟨z,_⟩=>by rw [z];exact .of ea) ?_ ?_
 ·rintro i v σ Hc hi ⟨rfl,b,v2,rfl,b1,bb,hd⟩
  obtain ⟨r,x,m,rfl,er,ep,l,bx,bm⟩:=parts i v hi;have m1:=l.pos;obtain ⟨s1,s2,s3,s4⟩:=TH b1 m1;have gp:=qt (a:=b) (b:=m) (by lia)
  have gm:a8 (Int.gcd b m:Int):=xg (jA (lU ..) bm);refine ⟨_,rfl,_,rfl,_,rfl,r,_,_,_,rfl,rfl,.of er,rfl,b,m,rfl,xg bm,_,_,rfl,rfl,⟨by lia,gm⟩,_,rfl,r,_,_,_,rfl,rfl,.of er,rfl,_,_,rfl,rfl,⟨?_,xg bm⟩,?_⟩
  ·exact fE (mU ..) (xg bb)
  ·refine ⟨rfl,_,_,rfl,s1,lcm_dvd b1 m1 bb bm,fun j p hj hp=>?_⟩
   by_cases z:j=i
   ·subst z
    rw [ep] at hp;cases hp;exact s2
   ·exact jA (hd j p (by lia) hp) s3
 ·rintro σ Hc ⟨rfl,b,v2,rfl,b1,bb,hd⟩
  rw [hl] at hd;have mb:a8 b:=xg bb;dsimp only;refine jr (TC (qx (xs:=vs) (fun R h=>⟨_,rfl,a,rfl,⟨_,.of ea⟩,h _ _ (ag.refl _) (mq (.of ea))⟩) (by rw [hl];exact gG (by lia)) (fun _ i y _=>∃(p:Int×Int),ps[i]?=some p∧y=.int (p.1*(b / p.2))) (fun _ _ _ _ _ _ h _ _=>h) ?_ ?_))
  ·intro D' i v hi Hd R sd _ kd
   obtain ⟨r,x,m,rfl,er,ep,l,bx,bm⟩:=parts i v hi;have m1:=l.pos;have YS:a8 (b / m):=fE (mU ..) mb;exact ⟨_,rfl,r,_,_,_,rfl,rfl,.of (sd _ _ er),rfl,_,rfl,_,rfl,r,_,_,_,rfl,rfl,.of (sd _ _ er),rfl,_,_,rfl,rfl,⟨by lia,xg bm⟩,_,_,rfl,rfl,⟨a8.Eu (aj bx hB),YS⟩,kd _ Hd (ag.refl _) ⟨(x,m),ep,rfl⟩⟩
  ·intro D' ys Hd nD sd oh hP eD
   have ey:ys=(ps.map fun p=>p.1*(b / p.2)).map V.int:=um (by rw [oh,hl,aG]) fun i v e=>by obtain ⟨p,e1,e2⟩:=hP i v e;exact ⟨p.1*(b / p.2),by rw [cB,e1];rfl,e2⟩
   refine ⟨_,rfl,by show 2≤sizeLine;decide,fun r i3=>?_⟩
   refine k _ _ (ps.map fun p=>p.1*(b / p.2)) b (sd.trans (aO i3)) ⟨r,D',rfl,az,aO i3 _ _ (by rw [eD,ey]),nD⟩ ⟨by rw [aG],⟨fun _=>b1,fun z=>absurd rfl z⟩,bb,fun i hi=>?_⟩
   have Gv:i<vs.length:=by lia
   have e1:(ps.map fun p=>p.1*(b / p.2)).getD i 0=ps[i].1*(b / ps[i].2):=by rw [getD_at (by rw [aG];exact hi),gC]
   rw [e1,getD_at hi];obtain ⟨r',x,m,_,_,ep,l,bx,bm⟩:=parts i vs[i] (by simp [Gv])
   have C0:ps[i]=(x,m):=by
    rw [show ps[i]?=some ps[i] by simp [hi]] at ep
    exact Option.some.inj ep
   rw [C0];dsimp only;have m1:=l.pos;obtain ⟨c,ec⟩:=hd i (x,m) hi (by rw [←C0];simp [hi])
   dsimp only at ec;have eq:b / m=c:=by rw [ec];exact f9 _ (by lia)
   refine ⟨by rw [eq,ec];grind,?_⟩
   rw [b_];exact cq bx (aj (mU ..) (uu bb (by lia)))
theorem YT:bG ["self","row"] ["self","row"] (aN Cp):=bQ
theorem YU(T:Txt K mg t):a_ P w K mg base b8 3 t.sC t.vO ["self","row"] (Ua t.aW):=by
 have S:=YT;refine T.yY.cC S (fun _ _ _ _ H vs _ _ hr h=>?_);obtain ⟨z,a,q,ps,B,D,rfl,⟨dx,hx⟩,hq,N_,N9,kI,hD,hB,b1,bD,k⟩:=h
 refine ⟨_,(aq (bV (bN t5 (jG (pv 0) rfl) ng) (ax (aT (aM (YR T) hr T.MG T.wo.kp T.MF aP (aa (pv 1) ae)))) b7)
  (ax (aT (eE (aa (jK oM rfl T.jZ boot_list (aa (pv 1) ae)) (aa af ae)))))),?_⟩
 refine ⟨_,rfl,z,t.aW,dx,_,_,rfl,hx,T.cS,T.iC,jP _,rfl,_,rfl,?_⟩;rcases hq with rfl | ⟨q2,q3,q4⟩
 ·rw [ai rfl]
  exact eF ⟨_,rfl,a,ps,B,D,rfl,N_,N9,kI,hD,hB,bD,k⟩
 ·have hq:q≠0:=by lia
  rw [ao hq] at hx ⊢;obtain ⟨vs,ea,hl,hn⟩:=N_;have parts:∀(i:Nat) (v:V),vs[i]?=some v→∃x:Int,v=.int x∧ps[i]?=some (x,1)∧0≤x∧x<q:=fun i v e=>by
   have hi:i<ps.length:=by rw [←hl];exact (b6.mp e).1
   have ep:ps[i]?=some ps[i]:=by simp [hi]
   have h1:=hn i v ps[i] e ep;generalize ps[i]=p at h1 ep;obtain ⟨x,m⟩:=p;cases h1 with
   | bA er l bx bm=>exact absurd rfl hq
   | rem h0 h1 h2=>exact ⟨x,rfl,ep,h0,h1⟩
  have ey:vs=(ps.map fun p=>p.1).map V.int:=um (by rw [hl,aG]) fun i v e=>by obtain ⟨x,e1,e2,_⟩:=parts i v e;exact ⟨x,by rw [cB,e2];rfl,e1⟩
  have eD:=kI.2 hq;refine cE ⟨_,rfl,a,vs,rfl,.inl (.of ea),fun l nl=>⟨by show 2≤sizeLine;decide,fun r i3=>?_⟩⟩
  refine k _ _ (ps.map fun p=>p.1) 1 ((aO nl).trans (aO i3)) ⟨r,l,rfl,az,aO i3 _ _ (by rw [az,ey]),nl⟩ ⟨by rw [aG],cT.one,Int.one_dvd D,fun i hi=>?_⟩
  have Gv:i<vs.length:=by lia
  rw [getD_at (by rw [aG];exact hi),gC,getD_at hi]
  obtain ⟨x,_,ep,x0,x1⟩:=parts i vs[i] (by simp [Gv])
  have C0:ps[i]=(x,1):=by
   rw [show ps[i]?=some ps[i] by simp [hi]] at ep
   exact Option.some.inj ep
  rw [C0];refine ⟨rfl,?_⟩;rw [eD];show x.natAbs≤B*1;lia
def YV(C:Addr):Sp:=fun vs H Q _=>∃(z a:Addr) (q c b:Int) (ts:List Int) (B:Nat),vs=[.ref z,.ref a,.int c,.int b]∧dj C H z q∧aF q∧H a=some (.lst (ts.map V.int))∧ts.length≤500∧¬q∣b∧a8 b∧a8 c∧(∀t∈ts,a8 t)∧b.natAbs≤B∧(∀t∈ts,(t*c).natAbs≤B) ∧
 ∀(r:Addr) (ps:aR) (H':Hp),ag H H'→H r=none→bK B H' q r ps→ps.length=ts.length→(∀i,i<ts.length→gI q (ps.getD i o1) (ts.getD i 0*c,b))→Q (.ref r) H'
theorem YW:bG ["world","wholes","times","bottom"] ["world","wholes","times","bottom"] (aN Bx):=bQ
theorem Oa(T:Txt K mg t):a_ P w K mg base b8 4 t.qN t.uR ["world","wholes","times","bottom"] (YV t.aW):=by
 have S:=YW;have kU:=w_ (P:=P) (w:=w) (base:=base) T;refine T.sJ.cC S (fun _ _ _ _ H _ _ _ hr h=>?_);obtain ⟨z,a,q,c,b,ts,B,rfl,⟨dz,hd⟩,hq,ea,Gw,nb,mb,mc,mt,bb,bt,k⟩:=h;refine ⟨_,(ax (aT (iu (N:=["whole","world","times","bottom"]) (ρ:=(fun σ=>[σ[0]?.join,σ[2]?.join,σ[3]?.join])) (fP [0,2,3] rfl) rfl (gh (pv 1)) (fun _ _ _=>.nil) (fun _ _ _=>(fH (pv 1) T.cS T.pA kU (hr.mono (by decide)) T.FV .nil iU (aa (au eN (pv 0) (pv 2)) (aa (pv 3) ae))))))),?_⟩
 refine jr (qx (xs:=ts.map V.int) (fun R h=>⟨_,rfl,a,rfl,⟨_,.of ea⟩,h _ _ (ag.refl _) (mq (.of ea))⟩) (by rw [aG];exact gG (by lia)) (fun _ i y Hx=>∃p:Int×Int,bC B Hx q y p.1 p.2∧gI q p (ts.getD i 0*c,b)) (fun _ _ _ _ _ _ ⟨p,h0,h1⟩ e f=>⟨p,h0.cm e f,h1⟩) ?_ ?_)
 ·intro D i v hi Hc R sc _ kc
  have cf:i<ts.length:=by have:=(b6.mp hi).1;simpa using this
  have ev:v=.int ts[i]:=by rw [cB] at hi;simp [cf] at hi;exact hi.symm
  subst ev;have tm:=dD cf;refine ⟨_,rfl,z,dz,_,rfl,sc _ _ hd,fK (by decide +kernel),_,rfl,_,rfl,_,_,rfl,rfl,⟨mt _ tm,mc⟩,_,rfl,z,q,ts[i]*c,b,rfl,⟨dz,sc _ _ hd⟩,hq,mb,fun h=>absurd h (J6 nb),fun _ v' H' s' ho=>kc v' H' s' ?_⟩
  rw [getD_at cf];exact V2 ho hq nb (bt _ tm) bb
 ·intro D ys Hc nD sc oh hP eD
  obtain ⟨ps,lp,hp⟩:=pick (R:=fun i y p=>bC B Hc q y (Prod.fst p) (Prod.snd p)∧gI q p (ts.getD i 0*c,b)) hP;rw [aG] at oh;refine k D ps Hc sc nD ⟨ys,eD,lp.symm,fun i v p h1 h2=>(hp i v p h1 h2).1⟩ (by lia) fun i hi=>?_
  have i1:i<ys.length:=by lia
  have i2:i<ps.length:=by lia
  rw [getD_at i2];exact (hp i ys[i] ps[i] (by simp [i1]) (by simp [i2])).2
theorem YX:bG ["self","row","by","back"] ["self","row","by"] (aN Cq):=bQ
theorem Ob(T:Txt K mg t):a_ P w K mg base b8 4 t.sD t.vP ["self","row","by"] (Wj t.aW):=by
 have S:=YX;have kU:=w_ (P:=P) (w:=w) (base:=base) T;refine T.y1.cC S (fun _ _ _ _ H _ _ _ hr h=>?_);obtain ⟨z,a,q,ts,b,u,rfl,⟨dx,hx⟩,hq,ea,Gw,hm,mb,nb,AZ,k⟩:=h
 refine ⟨_,(aq (bV (bN t5 (jG (pv 0) rfl) ng) (ax (aT (iu (N:=["number","by"]) (ρ:=(fun σ=>[σ[2]?.join])) (fP [2] rfl) rfl (gh (pv 1)) (fun _ _ _=>.nil) (fun _ _ _=>(au yl (pv 0) (pv 1)))))) b7)
  (aq (fJ 3 S.nd (fH (pv 0) T.cS T.pA kU (hr.mono (by decide)) T.FV .nil iU (aa af (aa (pv 2) ae))))
  (ax (aT (iu (N:=["number","back","self"]) (ρ:=(fun σ=>[σ[3]?.join,σ[0]?.join])) (fP [3,0] rfl) rfl (gh (pv 1)) (fun _ _ _=>.nil) (fun _ _ _=>(au fO (au eN (pv 0) (pv 1)) (Ut (K:=K) (pv 2) rfl)))))))),?_⟩
 refine ⟨_,rfl,z,t.aW,dx,_,_,rfl,hx,T.cS,T.iC,jP _,rfl,_,rfl,?_⟩;rcases id hq with rfl | ⟨q2,q3,q4⟩
 ·rw [ai rfl]
  have b0:b≠0:=mI nb;refine eF (jr (KJ (ts:=ts) (fun x=>x.fdiv b) Gw (fun R h=>⟨_,rfl,a,rfl,⟨_,.of ea⟩,h _ _ (ag.refl _) (mq (.of ea))⟩) ?_ ?_))
  ·intro x C1 Hc R sc kc
   exact ⟨_,rfl,_,rfl,_,_,rfl,rfl,⟨b0,mb⟩,kc Hc (ag.refl _)⟩
  ·refine fun D Hc nD sc eD=>k D Hc _ sc nD eD (by rw [aG]) (fun i hi=>?_) fun z=>absurd rfl z
   have e:=mH (AZ i hi);rw [getD_at hi] at e;rw [getD_at (by rw [aG];exact hi),gC,e,Int.mul_fdiv_cancel_left _ b0]
   exact Cg.refl _
 ·have pF:q≠0:=by lia
  rw [ao pF] at hx ⊢;have hz:dj t.aW H z q:=⟨dx,by rw [ao pF];exact hx⟩
  refine cE ⟨_,rfl,z,dx,_,rfl,hx,fK (by decide +kernel),_,rfl,z,q,1,b,rfl,hz,hq,mb,fun h=>absurd h (J6 nb),fun _ v H1 s1 ho=>?_⟩
  rcases ho with ⟨e,_⟩ | ⟨_,r,rfl,r0,r1,er⟩;·exact absurd e pF
  have mr:a8 r:=a8.of_lt (by lia) (by lia)
  dsimp only [bH];refine jr (KJ (ts:=ts) (fun x=>x*r % q) Gw (fun R h=>⟨_,rfl,a,rfl,⟨_,.of (s1 _ _ ea)⟩,h _ _ (ag.refl _) (mq (.of (s1 _ _ ea)))⟩) ?_ ?_)
  ·intro x C1 Hc R sc kc
   exact ⟨_,rfl,_,rfl,_,_,rfl,rfl,⟨hm x C1,mr⟩,_,rfl,z,t.aW,dx,_,_,rfl,sc _ _ (s1 _ _ hx),T.cS,T.iC,jP _,_,_,rfl,rfl,(show (0:Int)<q by lia),kc Hc (ag.refl _)⟩
  ·refine fun D Hc nD sc eD=>k D Hc _ (s1.trans sc) (none_of s1 nD) eD (by rw [aG]) (fun i hi=>?_) fun _ x C1=>?_
   ·have e:=AZ i hi
    rw [getD_at hi] at e;rw [getD_at (by rw [aG];exact hi),gC]
    have e1:Cg q (r*b) 1:=by refine Cg.trans (((nO q b).symm.mulL r).trans (nO q _).symm) ?_;rw [er];exact nO q 1
    refine (nO q _).trans ((e.mulR r).trans ?_);rw [show b*u i*r=r*b*u i by grind]
    refine (e1.mulR (u i)).trans ?_;rw [mX];exact Cg.refl _
   ·obtain ⟨y,_,rfl⟩:=gc.mp C1
    exact ⟨f_ _ pF,gU _ (by lia)⟩
theorem YY:bG ["row"] ["row"] (aN BB):=bQ
theorem Oc(T:Txt K mg t):a_ P w K mg base (dO P w) 1 t.qR t.uV ["row"] (V6 t.kT):=by
 have S:=YY;obtain ⟨uM,hM,rM⟩:=T.NF;refine T.sN.eM S (fun _ _ _ _ H _ Q _ hr h L=>?_);obtain ⟨a,xs,rfl,ea,Od,kE,k⟩:=h
 refine ⟨_,(aq (bV (PW.pt (pw_or (bN fo (au fO (bP di rfl T.cZ c_ (aa (pv 0) ae)) af) af) (pw_or1 (bN Ak (bP di rfl T.cZ c_ (aa (pv 0) ae)) (au fe af (Dt (v:=.int 40) rfl hM rM)))))) (ax (nB L rfl m6 T.zd rfl T.y9 (aa fc ae))) b7)
  (ax (aT (au t4 (au dU (bP di rfl T.cZ c_ (aa (pv 0) ae)) af) af)))),?_⟩
 refine ⟨_,rfl,a,xs,rfl,.inl (.of ea),_,_,rfl,rfl,(show (0:Int)<2 by decide),rfl,_,rfl,cu (fun h=>?_) (fun h=>?_)⟩
 ·have e:((xs.length:Int) % 2)=0:=by simpa using h
  exact eF ⟨by show 1≤sizeLine;decide,kE (.inl (by lia))⟩
 ·have e:¬((xs.length:Int) % 2)=0:=by simpa using h
  refine ⟨_,rfl,a,xs,rfl,.inl (.of ea),_,_,rfl,rfl,.inl ⟨by decide,by decide⟩,_,_,rfl,rfl,_,rfl,cu (fun h2=>?_) (fun h2=>?_)⟩
  ·have e2:(2*40:Int)≤(xs.length:Int):=fN h2
   exact ⟨by show 1≤sizeLine;decide,kE (.inr (by lia))⟩
  ·have e2:¬(2*40:Int)≤(xs.length:Int):=fun z=>h2 (dC z)
   dsimp only [ja];refine ⟨_,rfl,a,xs,rfl,.inl (.of ea),_,_,rfl,rfl,_,_,rfl,rfl,⟨by decide,by decide⟩,?_⟩
   have z:=k (fun h=>by rcases h with h | h <;> lia)
   show Q (.int (((xs.length:Int)+1) / 2)) H;rw [show ((xs.length:Int)+1) / 2=(((xs.length+1) / 2:Nat):Int) by lia]
   exact z
theorem YZ:bG ["world","row","many"] ["world","row","many"] (aN Bw):=bQ
theorem Y0(T:Txt K mg t):a_ P w K mg base b8 4 t.qM t.uQ ["world","row","many"] (T6 t.aW):=by
 have S:=YZ;have kU:=w_ (P:=P) (w:=w) (base:=base) T;obtain ⟨dv,pD,pE⟩:=T.y4;refine T.vU.cC S (fun _ _ _ _ H vs _ _ hr h=>?_);obtain ⟨z,a,q,ps,B,n,rfl,⟨dz,hd⟩,hq,hR,hB,hn,Y3,k⟩:=h;refine ⟨_,(ax (aT (au Aw (pv 1) (au DR (gi (aa (fH (pv 0) T.cS T.pA kU (hr.mono (by decide)) pE pD iU (aa af ae)) ae)) (au gZ (pv 2) (bP di rfl T.cZ c_ (aa (pv 1) ae))))))),?_⟩
 have nv:=A5 hq;obtain ⟨vs,ea,lv,fv⟩:=id hR;refine ⟨_,rfl,_,rfl,z,dz,_,rfl,hd,fK (by decide +kernel),z,q,0,1,rfl,⟨dz,hd⟩,hq,a8.of_lt (by decide) (by decide),fun h=>absurd h nv,fun _ v0 H1 s1 ho=>?_⟩
 refine ⟨by show 1≤sizeLine;decide,fun l nl=>?_⟩
 have sl:ag H1 (upd H1 l (.lst [v0])):=aO nl;have el:upd H1 l (.lst [v0]) l=some (.lst [v0]):=az;have h0:=yu (B:=B) hB (ho.mono sl) hq (.inl rfl);generalize upd H1 l (.lst [v0])=H2 at sl el h0 ⊢;have s2:=s1.trans sl;have ek:(n:Int)-(vs.length:Int)=((n-ps.length:Nat):Int):=by lia
 refine ⟨_,rfl,_,rfl,a,vs,rfl,.inl (.of (s2 _ _ ea)),_,_,rfl,rfl,l,((n-ps.length:Nat):Int),[v0],rfl,by show V.int ((n:Int)-(vs.length:Int))=_;rw [ek],el,by lia,by lia,?_,fun r nr=>?_⟩
 ·rw [e9]
  exact aj (show [v0].length*(n-ps.length)≤1000 by simp;lia) (by decide)
 rw [e9,show (List.replicate (n-ps.length) [v0]).flatten=List.replicate (n-ps.length) v0 by induction (n-ps.length) with
  | zero=>rfl
  | succ n ih=>simp [pK]]
 have sr:ag H2 (upd H2 r (.lst (List.replicate (n-ps.length) v0))):=aO nr;have er:upd H2 r (.lst (List.replicate (n-ps.length) v0)) r=some (.lst (List.replicate (n-ps.length) v0)):=az;have h0:=h0.mono sr;generalize upd H2 r (.lst (List.replicate (n-ps.length) v0))=H3 at sr er h0 ⊢;have s3:=s2.trans sr;refine ⟨a,r,vs,_,rfl,rfl,s3 _ _ ea,er,aj (show _≤1000 by rw [xu];lia) (by decide),fun c nc=>?_⟩
 have sc:ag H3 (upd H3 c (.lst (vs++List.replicate (n-ps.length) v0))):=aO nc;refine k c _ (s3.trans sc) (none_of s3 nc) (bK.cat az lv (by rw [xu,xu]) (fun i v p h1 h2=>(fv i v p h1 h2).mono (s3.trans sc)) (fun i v p h1 h2=>?_))
 rw [De] at h1 h2
 split at h1
 ·rename_i hi
  rw [ai hi] at h2;cases h1;cases h2;exact h0.mono sc
 ·cases h1
theorem Y4:bG ["row","i","many","start"] ["row","i","many"] (aN yR):=bQ
theorem Gx(T:Txt K mg t):a_ P w K mg base b8 1 t.pe t.qS ["row","i","many"] Wi:=by
 have S:=Y4;refine T.mK.cC S (fun _ _ _ _ H _ _ _ hr h=>?_);obtain ⟨a,ts,i,n,rfl,ea,Y5,af_,i1,i2,hi,k⟩:=h
 refine ⟨_,(aq (fJ 3 S.nd (au dU (au t4 (bP di rfl T.cZ c_ (aa (pv 0) ae)) af) (pv 1)))
  (ax (aT (iu (N:=["j","row","start"]) (ρ:=(fun σ=>[σ[0]?.join,σ[3]?.join])) (fP [0,3] rfl) rfl (lh rfl T.iZ (aa (pv 2) ae)) (fun _ _ _=>.nil) (fun _ _ _=>(aw (nH (K:=K)) (pv 1) (au gZ (pv 2) (pv 0)))))))),?_⟩
 refine ⟨_,rfl,a,_,rfl,.inl (.of ea),_,_,rfl,rfl,⟨by decide,by decide⟩,_,rfl,_,_,rfl,rfl,?_⟩
 dsimp only [bH];refine jr (qx (xs:=(List.range n).map fun i:Nat=>V.int (0+(i:Int))) (fun R h=>⟨_,rfl,(n:Int),rfl,by lia,by lia,h _ _ (ag.refl _) (by rw [e9];exact ym)⟩) (by rw [aG,cK];exact gG (by lia)) (fun _ j y Hx=>y=.int (bL ts (i-(j:Int)))) (fun _ _ _ _ _ _ h1 e f=>h1) ?_ ?_)
 ·intro D j v hj Hc R sc _ kc
  obtain ⟨iy,rfl⟩:=Eo hj;have hx:=hi j iy;refine ⟨_,rfl,_,rfl,_,rfl,_,_,rfl,rfl,a,_,_,.int (bL ts (i-(j:Int))),rfl,rfl,.of (sc _ _ ea),?_,kc _ Hc (ag.refl _) rfl⟩;show d5 (ts.map V.int) (((ts.map V.int).length:Int) / 2+i-(j:Int))=_;rw [aG,show ((ts.length:Int) / 2+i-(j:Int))=((((ts.length / 2:Nat):Int)+(i-(j:Int))).toNat:Int) by lia]
  refine iS ?_;have Oe:(((ts.length / 2:Nat):Int)+(i-(j:Int))).toNat<ts.length:=by lia
  unfold bL;rw [ai (by lia),getD_at Oe,cB]
  simp [Oe]
 ·intro D ys Hc nD sc dX hP eD
  rw [aG,cK] at dX;have ev:ys=((List.range n).map fun(j:Nat)=>bL ts (i-j)).map V.int:=um (by simpa using dX) fun j v hv=>by
   have hj:j<n:=by rw [←dX];exact (b6.mp hv).1
   exact ⟨bL ts (i-(j:Int)),by rw [cB];simp [hj],hP j v hv⟩
  subst ev;exact k D Hc sc nD eD
theorem Y6:bG ["one","other"] ["one","other"] (aN BD):=bQ
theorem Gy(T:Txt K mg t):a_ P w K mg base b8 1 t.qU t.uX ["one","other"] Wh:=by
 have S:=Y6;refine T.ph.cC S (fun _ _ _ _ H vs _ _ hr h=>?_);obtain ⟨a,b,ts,us,rfl,ea,eb,hl,Y5,mt,mu,k⟩:=h;refine ⟨_,(ax (aT (bP (Ke (K:=K) rfl) rfl T.F0 boot_sum (aa (A2 (N:=["a","b"]) (ρ:=(fun σ=>[])) (A1 [] rfl) rfl (A0 rfl T.zc (aa (pv 0) (aa (pv 1) ae))) (fun _ _ _=>.nil) (fun _ _ _=>(au eN (pv 0) (pv 1)))) ae)))),?_⟩;have hlen:((ts.map V.int).zip (us.map V.int)).length=min ts.length us.length:=by simp
 refine jr (yr (Ki (zs:=(ts.map V.int).zip (us.map V.int)) (fun R h=>⟨_,rfl,_,rfl,a,b,rfl,⟨_,.of ea⟩,⟨_,.of eb⟩,h _ _ (ag.refl _) (A3 (.of ea) (.of eb))⟩) (by rw [hlen];exact gG (by lia)) (fun i v=>∃w:Int,(List.zipWith (· * ·) ts us)[i]?=some w∧v=.int w) ?_ ?_))
 ·intro i x y oi Hc R sc kc
  obtain ⟨t0,u0,rfl,rfl,a1,a2⟩:=TF oi;exact ⟨_,rfl,_,rfl,_,_,rfl,rfl,⟨mt t0 (gT a1),mu u0 (gT a2)⟩,kc _ Hc (ag.refl _) ⟨t0*u0,by rw [List.getElem?_zipWith,a1,a2],rfl⟩⟩
 ·intro D vs Hc sc Ka hP eD
  have ev:vs=(List.zipWith (· * ·) ts us).map V.int:=um (by rw [Ka,hlen,List.length_zipWith]) hP
  subst ev;refine ⟨D,_,rfl,.of eD,?_⟩;have z:=k Hc sc;rw [←LI us.length ts us hl rfl] at z;exact z
theorem Y7:bG ["world","row","pair","last","many","much","down","up","front","back","mended_front","mended_back"] ["world","row","pair","last"] (aN BE):=bQ
theorem Y8(T:Txt K mg t):a_ P w K mg base b8 5 t.qV t.uY ["world","row","pair","last"] (Wl t.aW):=by
 have S:=Y7;have zu:=Ob (P:=P) (w:=w) (base:=base) T;refine T.vY.cC S (fun _ _ _ _ H _ _ _ hr h=>?_);obtain ⟨z,a,p,f,b,q,ts,fs,bs,aJ,last,G,M,h,k,rfl,⟨dz,hd⟩,hq,ea,lt,ep,ef,eb,I,B,kh,nm,kk⟩:=h
 refine ⟨_,(aq (putL 4 S.nd (bP di rfl T.cZ c_ (aa (aw a7 (pv 2) af) ae)))
  (aq (fJ 5 S.nd (aw a7 (pv 2) af))
  (aq (fJ 6 S.nd (aM (Gy T) hr T.Cw T.ph.kp T.Cv aP (aa (aM (Gx T) hr T.yW T.mK.kp T.yV aP (aa (pv 1) (aa (pv 4) (aa (pv 4) ae)))) (aa (aw a7 (pv 2) af) ae))))
  (aq (fJ 7 S.nd (aM (Gy T) hr T.Cw T.ph.kp T.Cv aP (aa (aM (Gx T) hr T.yW T.mK.kp T.yV aP (aa (pv 1) (aa (lq lA af) (aa (pv 4) ae)))) (aa (aw a7 (pv 2) af) ae))))
  (aq (putL 8 S.nd (au Aw (aw a7 (pv 2) af) (gi (aa af ae))))
  (aq (putL 9 S.nd (au Aw (gi (aa af ae)) (aw a7 (pv 2) af)))
  (aq (putL 10 S.nd (fH (pv 0) T.cS T.sX zu (hr.mono (by decide)) T.y2 .nil aP (aa (A2 (N:=["a","b","much","down"]) (ρ:=(fun σ=>[σ[5]?.join,σ[6]?.join])) (A1 [5,6] rfl) rfl (A0 rfl T.zc (aa (pv 8) (aa (pv 9) ae))) (fun _ _ _=>.nil) (fun _ _ _=>(au gZ (au eN (pv 2) (pv 0)) (au eN (pv 3) (pv 1))))) (aa (pv 3) ae))))
  (aq (putL 11 S.nd (fH (pv 0) T.cS T.sX zu (hr.mono (by decide)) T.y2 .nil aP (aa (A2 (N:=["a","b","much","up"]) (ρ:=(fun σ=>[σ[5]?.join,σ[7]?.join])) (A1 [5,7] rfl) rfl (A0 rfl T.zc (aa (pv 8) (aa (pv 9) ae))) (fun _ _ _=>.nil) (fun _ _ _=>(au gZ (au eN (pv 2) (pv 1)) (au eN (pv 3) (pv 0))))) (aa (pv 3) ae))))
  (ax (aT (eE (aa (pv 10) (aa (pv 11) (aa (aw bW (fH (pv 0) T.cS T.sX zu (hr.mono (by decide)) T.y2 .nil aP (aa (gi (aa (au gZ (au eN (pv 5) (pv 5)) (au eN (pv 6) (pv 7))) ae)) (aa (pv 3) ae))) af) ae)))))))))))))),?_⟩
 have dc:=B.dc;have k1:=I.k1;have lf:=I.lf;have lb:=I.lb;have hh:ts.length / 2=h:=by lia
 have gM:∀{x:Int},x.natAbs≤G→a8 x:=fun h=>yB (aj h (aj B.G2 (by decide +kernel)))
 have Of:∀d,a8 (bL ts d):=fun d=>gM (aj (B.r d) B.mG);have bf:=B.fs I hq (by lia)
 have bb:=B.bs I hq (by lia)
 have bm:=B.mu I hq kh;have bl:=B.la I hq (by lia)
 have bd:=B.dn I hq kh;have bu:=B.Wg I hq kh;have nl:¬q∣last:=I.l.nz (I.nz (k-1) (by lia))
 have two:∀{x y u v:Int},x.natAbs≤G→y.natAbs≤G→u.natAbs≤G→v.natAbs≤G→a8 (x*y-u*v):=fun{x y u v} h1 h2 h3 h4=>by
  have e1:(x*y).natAbs≤G*G:=by rw [b_];exact cq h1 h2
  have e2:(u*v).natAbs≤G*G:=by rw [b_];exact cq h3 h4
  refine a8.T9 B.G2 ?_;rw [mY];lia
 refine ⟨_,rfl,p,_,_,_,rfl,rfl,.of ep,rfl,f,_,rfl,.inl (.of ef),?_⟩;dsimp only [bH];rw [aG,lf];refine ⟨_,rfl,p,_,_,_,rfl,rfl,.of ep,rfl,?_⟩;dsimp only [bH];refine ⟨_,rfl,_,rfl,_,rfl,a,ts,(k:Int),k,rfl,ea,by lia,by lia,by lia,by lia,fun j hj=>by lia,fun c1 H1 s1 nc1 e1=>?_⟩
 refine ⟨_,rfl,p,_,_,_,rfl,rfl,.of (s1 _ _ ep),rfl,c1,f,_,fs,rfl,e1,s1 _ _ ef,by simp [lf],by simp;lia,fun x hx=>?_,fun x hx=>gM (bf x hx),fun H2 s2=>?_⟩
 ·obtain ⟨j,_,rfl⟩:=gc.mp hx
  exact Of _
 have ed:(ah fs.length fun j=>((List.range k).map fun(j:Nat)=>bL ts ((k:Int)-j)).getD j 0*fs.getD j 0)=kJ (bL ts) fs:=by unfold kJ;refine bZ fun j hj=>?_;rw [Ff (by lia),lf]
 rw [ed];have dQ:=s1.trans s2;dsimp only [bH];refine ⟨_,rfl,_,rfl,_,rfl,a,ts,-1,k,rfl,dQ _ _ ea,by lia,by lia,by lia,by lia,fun j hj=>by lia,fun c2 H3 s3 nc2 e3=>?_⟩
 have eV:=dQ.trans s3;refine ⟨_,rfl,p,_,_,_,rfl,rfl,.of (eV _ _ ep),rfl,c2,b,_,bs,rfl,e3,eV _ _ eb,by simp [lb],by simp;lia,fun x hx=>?_,fun x hx=>gM (bb x hx),fun H4 s4=>?_⟩
 ·obtain ⟨j,_,rfl⟩:=gc.mp hx
  exact Of _
 have eu:(ah bs.length fun j=>((List.range k).map fun(j:Nat)=>bL ts (-1-(j:Int))).getD j 0*bs.getD j 0)=kK (bL ts) bs:=by unfold kK;refine bZ fun j hj=>?_;rw [Ff (by lia)]
 rw [eu];have gR:=eV.trans s4;dsimp only [bH];refine ⟨_,rfl,p,_,_,_,rfl,rfl,.of (gR _ _ ep),rfl,by show 1≤sizeLine;decide,fun c3 n3=>?_⟩
 have s5:ag H4 (upd H4 c3 (.lst [.int 0])):=aO n3;refine ⟨f,c3,_,_,rfl,rfl,s5 _ _ (gR _ _ ef),az,aj (show _≤100 by simp;lia) (by decide),fun c4 n4=>?_⟩
 have s6:=s5.trans (aO (o:=.lst (fs.map V.int++[.int 0])) n4);have e4:upd (upd H4 c3 (.lst [.int 0])) c4 (.lst (fs.map V.int++[.int 0])) c4=some (.lst ((fs++[0]).map V.int)):=by rw [az,m4];rfl
 dsimp only [bH];generalize upd (upd H4 c3 (.lst [.int 0])) c4 (.lst (fs.map V.int++[.int 0]))=H6 at s6 e4 ⊢;have Gz:=gR.trans s6;refine ⟨by show 1≤sizeLine;decide,fun c5 n5=>?_⟩
 have s7:ag H6 (upd H6 c5 (.lst [.int 0])):=aO n5;refine ⟨_,rfl,p,_,_,_,rfl,rfl,.of (s7 _ _ (Gz _ _ ep)),rfl,c5,b,_,_,rfl,rfl,az,s7 _ _ (Gz _ _ eb),aj (show _≤100 by simp;lia) (by decide),fun c6 n6=>?_⟩
 have s8:=s7.trans (aO (o:=.lst ([V.int 0]++bs.map V.int)) n6);have e6:upd (upd H6 c5 (.lst [.int 0])) c6 (.lst ([V.int 0]++bs.map V.int)) c6=some (.lst (([0]++bs).map V.int)):=by rw [az,m4];rfl
 dsimp only [bH];generalize upd (upd H6 c5 (.lst [.int 0])) c6 (.lst ([V.int 0]++bs.map V.int))=H8 at s8 e6 ⊢;have GA:=Gz.trans s8;have GC:=s8 _ _ e4;have bx:∀x∈fs++[0],x.natAbs≤G:=fun x hx=>by
  rcases i7.mp hx with z | z;·exact bf x z
  ·rw [gA.mp z];exact cN _
 have gv:∀x∈[0]++bs,x.natAbs≤G:=fun x hx=>by
  rcases i7.mp hx with z | z;·rw [gA.mp z];exact cN _
  ·exact bb x z
 have l1:(fs++[0]).length=k+1:=by simp [lf]
 have l2:(([0]:List Int)++bs).length=k+1:=by simp [lb]
 have zl:((fs++[0]).zip ([0]++bs)).length=k+1:=by rw [z9,l1,l2,Nat.min_self]
 have zg:∀(g:Int→Int→Int) (j:Nat),j<k+1→(((fs++[0]).zip ([0]++bs)).map fun(ab:Int×Int)=>g ab.1 ab.2).getD j 0=g ((fs++[0]).getD j 0) (([0]++bs).getD j 0):=fun g j hj=>by rw [getD_at (by rw [aG,zl];exact hj),gC,List.getElem_zip,getD_at (by lia),getD_at (by lia)]
 have Og:=GA _ _ hd;refine gH (dB ⟨_,rfl,z,dz,_,rfl,Og,fK (by decide +kernel),EE (xs:=fs++[0]) (ys:=[0]++bs) (fun x y=>aJ*x-kJ (bL ts) fs*y) (by lia) (fun R h=>⟨_,rfl,_,rfl,c4,c6,rfl,⟨_,.of GC⟩,⟨_,.of e6⟩,h _ _ (ag.refl _) (A3 (.of GC) (.of e6))⟩) ?_ ?_⟩)
 ·intro x y oi Hx R sx kx
  exact ⟨_,rfl,_,rfl,_,_,rfl,rfl,⟨gM bm,gM (bx x (kX oi).1)⟩,_,rfl,_,rfl,_,_,rfl,rfl,⟨gM bd,gM (gv y (kX oi).2)⟩,_,_,rfl,rfl,kx Hx (ag.refl _)⟩
 intro D1 H9 s9 xb;refine ⟨_,rfl,z,D1,q,_,last,fun j=>b5 (k+1) (bL ts) j,rfl,⟨dz,s9 _ _ Og⟩,hq,xb,?_,?_,gM bl,nl,?_,fun c7 Oh gs pG n7 e7 lg hg rg=>?_⟩;·rw [aG,zl];lia
 ·intro x hx
  obtain ⟨ab,zw,rfl⟩:=gc.mp hx;have m:=kX zw;exact two bm (bx _ m.1) bd (gv _ m.2)
 ·intro j hj
  rw [aG,zl] at hj;rw [zg (fun x y=>aJ*x-kJ (bL ts) fs*y) j hj];exact I.Wa nm hj
 rw [aG,zl] at lg hg;have GD:=GA.trans (s9.trans pG);have Oi:=GD _ _ hd;have Oj:=(s9.trans pG) _ _ GC;have Ol:=(s9.trans pG) _ _ e6;dsimp only [bH];refine gH (dB ⟨_,rfl,z,dz,_,rfl,Oi,fK (by decide +kernel),EE (xs:=fs++[0]) (ys:=[0]++bs) (fun x y=>aJ*y-kK (bL ts) bs*x) (by lia) (fun R h=>⟨_,rfl,_,rfl,c4,c6,rfl,⟨_,.of Oj⟩,⟨_,.of Ol⟩,h _ _ (ag.refl _) (A3 (.of Oj) (.of Ol))⟩) ?_ ?_⟩)
 ·intro x y oi Hx R sx kx
  exact ⟨_,rfl,_,rfl,_,_,rfl,rfl,⟨gM bm,gM (gv y (kX oi).2)⟩,_,rfl,_,rfl,_,_,rfl,rfl,⟨gM bu,gM (bx x (kX oi).1)⟩,_,_,rfl,rfl,kx Hx (ag.refl _)⟩
 intro D2 C2 hV CU;refine ⟨_,rfl,z,D2,q,_,last,fun j=>b5 (k+1) (bj (bL ts)) (k-j),rfl,⟨dz,hV _ _ Oi⟩,hq,CU,?_,?_,gM bl,nl,?_,fun c8 Om cs Y9 n8 e8 lc hc rc=>?_⟩;·rw [aG,zl];lia
 ·intro x hx
  obtain ⟨ab,zw,rfl⟩:=gc.mp hx;have m:=kX zw;exact two bm (gv _ m.2) bu (bx _ m.1)
 ·intro j hj
  rw [aG,zl] at hj;rw [zg (fun x y=>aJ*y-kK (bL ts) bs*x) j hj];exact I.Wb nm hj
 rw [aG,zl] at lc hc;have Oo:=hV.trans Y9;have Oq:=GD.trans Oo;have Ot:=Oq _ _ hd;dsimp only [bH];refine ⟨_,rfl,_,rfl,_,rfl,z,dz,_,rfl,Ot,fK (by decide +kernel),_,rfl,_,rfl,_,_,rfl,rfl,⟨gM bm,gM bm⟩,_,rfl,_,rfl,_,_,rfl,rfl,⟨gM bd,gM bu⟩,_,_,rfl,rfl,by show 1≤sizeLine;decide,fun c9 n9=>?_⟩
 have sm:ag Om (upd Om c9 (.lst [.int (aJ*aJ-kJ (bL ts) fs*kK (bL ts) bs)])):=aO n9;refine ⟨_,rfl,z,c9,q,[aJ*aJ-kJ (bL ts) fs*kK (bL ts) bs],last,fun _=>aH (k+1) (bL ts),rfl,⟨dz,sm _ _ Ot⟩,hq,az,by simp,fun x hx=>?_,gM bl,nl,fun i hi=>?_,fun DX Ou ms Y_ n10 Za lm hm rm=>?_⟩
 ·rw [gA.mp hx]
  exact two bm bm bd bu
 ·rw [mR] at hi
  obtain rfl:i=0:=by lia
  exact I.We nm
 rw [mR] at lm hm;obtain ⟨more,rfl⟩:∃more,ms=[more]:=by
  match ms,lm with
  | [x],_=>exact ⟨x,rfl⟩
 refine ⟨DX,_,_,_,rfl,rfl,.of Za,rfl,by show 3≤sizeLine;decide,fun p' Ov=>?_⟩
 have GF:=sm.trans Y_;have sp:ag Ou (upd Ou p' (.tup [.ref c7,.ref c8,.int more])):=aO Ov;have Ow:=Oq.trans GF;exact kk p' c7 c8 gs cs more _ (Ow.trans sp) (none_of Ow Ov) (none_of (GA.trans s9) n7) (none_of (GD.trans hV) n8) az (sp _ _ (GF _ _ (Oo _ _ e7))) (sp _ _ (GF _ _ e8)) (I.next nm lg lc hg hc (hm 0 (by decide)) rg rc fun z=>rm z more (gA.mpr rfl))
theorem Zb:bG ["world","row","pair","told","last","following"] ["world","row"] (aN BF):=bQ
theorem Zc(T:Txt K mg t):a_ P w K mg base b8 6 t.qW t.uZ ["world","row"] (Wm t.aW):=by
 have S:=Zb;refine T.vZ.cC S (fun _ _ _ _ H vs _ _ hr h=>?_);obtain ⟨z,a,q,ts,G,M,h,rfl,hz,hq,ea,lt,B,rt,kk⟩:=h
 refine ⟨_,(aq (putL 2 S.nd (eE (aa (gi (aa af ae)) (aa (gi (aa af ae)) (aa (aw bW (pv 1) (au t4 (bP di rfl T.cZ c_ (aa (pv 1) ae)) af)) ae)))))
  (aq (putL 3 S.nd (gi (aa (pv 2) ae)))
  (aq (putL 4 S.nd af)
  (aq (xY e_ (PW.pt (pw_and (bN kq (aw a7 (pv 2) af) af) (pw_and1 (bN kr (au eN af (bP di rfl T.cZ c_ (aa (pv 3) ae))) (bP di rfl T.cZ c_ (aa (pv 1) ae)))))) (aq (putL 5 S.nd (aM (Y8 T) hr T.Mm T.vY.kp T.Ml aP (aa (pv 0) (aa (pv 1) (aa (pv 2) (aa (pv 4) ae))))))
  (aq (putL 4 S.nd (aw a7 (pv 2) af))
  (aq (putL 2 S.nd (pv 5))
  (ax (p_ (Jx PySem.F.plainAttrs_list PySem.F.slot_list_append PySem.F.type_list_append Av (pv 3) (aa (pv 2) ae))))))))
  (ax (aT (pv 3))))))),?_⟩
 have dc:=B.dc;have hh:ts.length / 2=h:=by lia
 have GG:h<ts.length:=by lia
 have e0:bL ts 0=ts[h]:=by unfold bL;rw [ai (by lia),hh,show ((h:Int)+0).toNat=h by lia,getD_at GG]
 refine ⟨by show 1≤sizeLine;decide,fun f0 Zd=>⟨by show 1≤sizeLine;decide,fun b0 Ox=>?_⟩⟩
 have s1:ag H (upd H f0 (.lst [.int 1])):=aO Zd;have s2:=s1.trans (aO (o:=.lst [.int 1]) Ox);have Oy:upd (upd H f0 (.lst [.int 1])) b0 (.lst [.int 1]) f0=some (.lst (([1]:List Int).map V.int)):=aO (o:=.lst [.int 1]) Ox _ _ az;have Oz:upd (upd H f0 (.lst [.int 1])) b0 (.lst [.int 1]) b0=some (.lst (([1]:List Int).map V.int)):=az;generalize upd (upd H f0 (.lst [.int 1])) b0 (.lst [.int 1])=H2 at s2 Oy Oz ⊢;refine ⟨_,rfl,_,rfl,a,_,rfl,.inl (.of (s2 _ _ ea)),_,_,rfl,rfl,⟨by decide,by decide⟩,a,_,_,.int (bL ts 0),rfl,rfl,.of (s2 _ _ ea),?_,by show 3≤sizeLine;decide,fun p0 Ze=>?_⟩
 ·show d5 (ts.map V.int) (((ts.map V.int).length:Int) / 2)=_
  rw [aG,show ((ts.length:Int) / 2)=(h:Int) by lia]
  refine iS ?_;rw [e0,cB];simp [GG]
 have s3:ag H2 (upd H2 p0 (.tup [.ref f0,.ref b0,.int (bL ts 0)])):=aO Ze;have GH:upd H2 p0 (.tup [.ref f0,.ref b0,.int (bL ts 0)]) p0=some (.tup [.ref f0,.ref b0,.int (bL ts 0)]):=az;dsimp only [bH];generalize upd H2 p0 (.tup [.ref f0,.ref b0,.int (bL ts 0)])=H3 at s3 GH ⊢;have OA:=s3 _ _ Oy;have zx:=s3 _ _ Oz;refine ⟨_,rfl,by show 1≤sizeLine;decide,fun l nl=>?_⟩
 have s4:ag H3 (upd H3 l (.lst [.ref p0])):=aO nl;have el:upd H3 l (.lst [.ref p0]) l=some (.lst [.ref p0]):=az;dsimp only [bH];generalize upd H3 l (.lst [.ref p0])=H4 at s4 el ⊢;have gR:=s2.trans (s3.trans s4);have GJ:H l=none:=none_of (s2.trans s3) nl;have GK:∀{x:Addr} {o:HO},H3 x=some o→x≠l:=fun e e'=>by rw [e',nl] at e;cases e
 have I0:cG q (bL ts) 1 [1] [1] (bL ts 0) 1:=cG.start hq fun zq=>by rw [e0];exact rt zq _ (dD GG)
 refine ⟨fun c σ Hc=>ag H Hc∧∃(p:Addr) (vs:List V) (fF bF:Nat→List Int) (mF:Nat→Int) (last:Int) (v5:Option V),c+vs.length=h+2∧σ=[some (.ref z),some (.ref a),some (.ref p),some (.ref l),some (.int last),v5]∧Hc l=some (.lst vs)∧kM l Hc q (bL ts) h vs fF bF mF∧vs[vs.length-1]?=some (.ref p)∧cG q (bL ts) vs.length (fF (vs.length-1)) (bF (vs.length-1)) (mF (vs.length-1)) last,⟨h+1,gR,p0,[.ref p0],fun _=>[1],fun _=>[1],fun _=>bL ts 0,1,none,rfl,rfl,el,⟨fun i v hv=>?_,by simp⟩,rfl,I0⟩,?_⟩
 ·match i,hv with
  | 0,hv=>cases hv;exact ⟨⟨p0,f0,b0,rfl,s4 _ _ GH,s4 _ _ OA,s4 _ _ zx,GK GH,GK OA,GK zx⟩,1,I0⟩
  | i+1,hv=>cases hv
 rintro c σ Hc ⟨sc,p,vs,fF,bF,mF,last,v5,hc,rfl,el,PL,hv,I⟩;obtain ⟨⟨p',f,b,e',ep,ef,eb,np,nf,nb⟩,_⟩:=PL.at' _ _ hv;cases e';have ln:=PL.len;refine ⟨_,rfl,p,_,_,_,rfl,rfl,.of ep,rfl,rfl,_,rfl,cu (fun h0=>?_) (fun h0=>?_)⟩
 ·have hm:mF (vs.length-1)≠0:=by simpa using h0
  refine ⟨_,rfl,l,vs,rfl,.inl (.of el),_,_,rfl,rfl,⟨a8.of_lt (by decide) (by decide),a8.of_lt (by lia) (by lia)⟩,_,rfl,a,_,rfl,.inl (.of (sc _ _ ea)),_,_,rfl,rfl,_,rfl,cu (fun h1=>?_) (fun h1=>?_)⟩
  ·have h1:(2*(vs.length:Int))<((ts.map V.int).length:Int):=fN h1
   rw [aG] at h1;have vh:vs.length≤h:=by lia
   refine ⟨fun σ' H'=>ag H H'∧∃(p:Addr) (cA:List V) (fF bF:Nat→List Int) (mF:Nat→Int) (last:Int) (v5:Option V),cA.length=vs.length+1∧σ'=[some (.ref z),some (.ref a),some (.ref p),some (.ref l),some (.int last),v5]∧H' l=some (.lst cA)∧kM l H' q (bL ts) h cA fF bF mF∧cA[cA.length-1]?=some (.ref p)∧cG q (bL ts) cA.length (fF (cA.length-1)) (bF (cA.length-1)) (mF (cA.length-1)) last,?_,?_⟩
   ·rintro σ' H' ⟨s',p,cA,fF,bF,mF,last,v5,lv,rest⟩
    exact ⟨c-1,by lia,s',p,cA,fF,bF,mF,last,v5,by lia,rest⟩
   refine ⟨_,rfl,_,rfl,_,rfl,_,rfl,z,a,p,f,b,q,ts,_,_,_,last,G,M,h,vs.length,rfl,hz.mono sc,hq,sc _ _ ea,lt,ep,ef,eb,I,B,vh,I.yL hm,fun p1 f1 b1 gs cs more H5 s5 zj Zf Zg Zh Zi Zj I1=>?_⟩;dsimp only [bH];refine ⟨_,rfl,p,_,_,_,rfl,rfl,.of (s5 _ _ ep),rfl,?_⟩;dsimp only [bH];refine ⟨_,rfl,?_⟩;dsimp only [bH];have OB:=s5 _ _ el;have GL:∀{x:Addr},Hc x=none→x≠l:=fun e e'=>by rw [e',el] at e;cases e
   refine ⟨_,rfl,.inl ⟨rfl,_,.of OB⟩,_,rfl,l,vs,_,rfl,rfl,OB,gG (by lia),jq (sc.trans s5) GJ,p1,vs++[.ref p1],_,_,_,_,_,by simp,rfl,az,(PL.mono s5).push vh Zh Zi Zj (GL zj) (GL Zf) (GL Zg) I1,?_,?_⟩
   ·rw [eL,mR,i8,gS (aE _),mV]
    rfl
   ·rw [eL,mR,i8,ai rfl,ai rfl,ai rfl]
    exact I1
  ·have h1:¬(2*(vs.length:Int))<((ts.map V.int).length:Int):=fun z=>h1 (dC z)
   rw [aG] at h1;exact ⟨_,rfl,kk l vs fF bF mF Hc sc GJ el PL fun z=>by lia⟩
 ·have hm:mF (vs.length-1)=0:=by simpa using h0
  rw [hm] at I;exact ⟨_,rfl,kk l vs fF bF mF Hc sc GJ el PL fun _=>I.Fh⟩
theorem Zk:bG ["world","row","pairs","aim","answer","last","place","pair","short"] ["world","row","pairs","aim"] (aN BG):=bQ
theorem Zl(T:Txt K mg t):a_ P w K mg base b8 5 t.qX t.u3 ["world","row","pairs","aim"] (WC t.aW):=by
 have S:=Zk;have zu:=Ob (P:=P) (w:=w) (base:=base) T;refine T.v_.cC S (fun _ _ _ _ H _ _ _ hr h=>?_);obtain ⟨z,a,l,am,q,ts,ys,ws,fF,bF,mF,M,h,Y,rfl,⟨dz,hd⟩,hq,ea,lt,el,PL,lw,nz,GN,ly,hY,Y1,Y2,yO,GB,kk⟩:=h
 refine ⟨_,(aq (putL 4 S.nd (gi ae))
  (aq (putL 5 S.nd af)
  (aq (gE e_ rfl (Es rfl T.CK (aa (pv 2) ae)) (xW rfl (l8 (eh (i:=6) S.nd rfl (Or.inl rfl)) (l8 (eh (i:=7) S.nd rfl (Or.inr rfl)) xV)))
   (aq (fJ 8 S.nd (au gZ (au eN (pv 5) (aw bW (pv 3) (pv 6))) (aM (Gy T) hr T.Cw T.ph.kp T.Cv aP (aa (aM (Gx T) hr T.yW T.mK.kp T.yV aP (aa (pv 1) (aa (pv 6) (aa (pv 6) ae)))) (aa (pv 4) ae)))))
  (aq (putL 4 S.nd (fH (pv 0) T.cS T.sX zu (hr.mono (by decide)) T.y2 .nil aP (aa (A2 (N:=["a","b","pair","short"]) (ρ:=(fun σ=>[σ[7]?.join,σ[8]?.join])) (A1 [7,8] rfl) rfl (A0 rfl T.zc (aa (au Aw (pv 4) (gi (aa af ae))) (aa (aw a7 (pv 7) af) ae))) (fun _ _ _=>.nil) (fun _ _ _=>(au dU (au eN (aw (Em (K:=K)) (pv 2) af) (pv 0)) (au eN (pv 3) (pv 1))))) (aa (pv 5) ae))))
  (ax (putL 5 S.nd (aw a7 (pv 7) af))))))
  (ax (aT (pv 4)))))),?_⟩
 have dc:=GB.dc;have hh:ts.length / 2=h:=by lia
 refine ⟨by show 0≤sizeLine;decide,fun c0 n0=>?_⟩
 have s0:ag H (upd H c0 (.lst [])):=aO n0;have e0:upd H c0 (.lst []) c0=some (.lst (([]:List Int).map V.int)):=az;dsimp only [bH];generalize upd H c0 (.lst [])=H0 at s0 e0 ⊢;refine ⟨_,rfl,l,rfl,⟨_,.of (s0 _ _ el)⟩,?_⟩;have W1:40*(10 ^ 160*Y)≤10 ^ 182:=aj (kZ 40 (kZ _ Y2)) (by decide +kernel)
 refine Et (K:=K) (l:=l) (xs:=ws) (fun i σ Hc=>ag H Hc∧∃(c:Addr) (aY:List Int) (last:Int) (v6 v7 v8:Option V),σ=[some (.ref z),some (.ref a),some (.ref l),some (.ref am),some (.ref c),some (.int last),v6,v7,v8]∧H c=none∧Hc c=some (.lst (aY.map V.int))∧lK q (bL ts) (fun i=>ys.getD i 0) (40*(10 ^ 160*Y)) i aY last∧¬q∣last∧(∀m,i=m+1→last=mF m))
  ⟨s0,c0,[],1,_,_,_,rfl,n0,e0,lK.start hq,cT.one.nz hq,fun m hm=>by lia⟩ (fun i σ Hc ⟨z,_⟩=>.of (z _ _ el)) ?_ ?_
 ·rintro i x σ Hc Tt hx ⟨sc,c,aY,last,v6,v7,v8,rfl,nc,ec,AI,nl,GO⟩ nT
  have hi:i<ws.length:=(b6.mp hx).1;have ih:i≤h:=by lia
  obtain ⟨⟨p,f0,b0,rfl,ep,ef,eb,_⟩,Bp,I⟩:=PL.at' i x hx;have nm:¬q∣mF i:=by
   rcases Nat.lt_or_ge (i+1) ws.length with z | z;·exact I.yL (PL.Wn z)
   ·rw [show i=h by lia] at I ⊢
    exact I.yL nz
  have sT:ag Hc (upd Hc Tt (.tup [.int (i:Int),.ref p])):=aO nT;have eT:upd Hc Tt (.tup [.int (i:Int),.ref p]) Tt=some (.tup [.int (i:Int),.ref p]):=az;generalize upd Hc Tt (.tup [.int (i:Int),.ref p])=H1 at sT eT ⊢;refine ⟨Tt,_,rfl,.of eT,rfl,_,_,rfl,_,_,rfl,rfl,?_⟩;have s1:=sc.trans sT;have OC:=sT _ _ ec;have la:=AI.la;have lb:=I.lb;have tF:∀{x:Int},x.natAbs≤10 ^ 160→a8 x:=fun h=>yB (aj h (by decide +kernel))
  have zy:∀{x:Int},x.natAbs≤10 ^ 420→a8 x:=fun h=>yB (aj h (by decide +kernel))
  have GP:∀x∈aY,x.natAbs≤10 ^ 182:=fun x hx=>by
   by_cases z:q=0;·exact aj (AI.b z x hx) W1
   ·exact aj (jX hq z (AI.ra z x hx)) (by decide +kernel)
  have OD:=GB.bs I hq (by lia)
  have xh:(mF i).natAbs≤10 ^ 222:=aj (GB.LH I hq (by lia)) (aj (pQ _ (kZ 40 yO)) (by decide +kernel))
  have GQ:last.natAbs≤10 ^ 160:=by
   by_cases z:q=0
   ·subst z
    rw [mH AI.l];exact aj (yJ GB.r i) (aj (kL GB.M1 ih) (GB.f rfl))
   ·exact aj (jX hq z (AI.rl z)) (by decide +kernel)
  have br:∀d,(bL ts d).natAbs≤10 ^ 60:=fun d=>aj (GB.r d) yO;have OE:i<ys.length:=by lia
  have gv:∀k,(ys.getD k 0).natAbs≤Y:=fun k=>qB hY k;have Zm:(ah aY.length fun j=>bL ts ((aY.length:Int)-(j:Int))*aY.getD j 0).natAbs≤10 ^ 244:=aj (Fg (M:=10 ^ 60) (N:=10 ^ 182) (by lia) (fun j _=>br _) fun j _=>qB GP j) (by decide +kernel)
  have bly:(last*ys.getD i 0).natAbs≤10 ^ 180:=by rw [b_];exact aj (cq GQ (aj (gv i) Y2)) (by decide +kernel)
  have OF:(gQ (bL ts) (fun i=>ys.getD i 0) aY last).natAbs≤10 ^ 245:=by
   unfold gQ;rw [la] at Zm ⊢;dsimp only;have:(10:Nat) ^ 180+10 ^ 244≤10 ^ 245:=by decide +kernel
   lia
  dsimp only [bH];simp only [kg,ki];refine ⟨_,rfl,_,rfl,_,rfl,am,_,_,.int (ys.getD i 0),rfl,rfl,.of (s1 _ _ GN),iS (by rw [getD_at OE,cB];simp [OE]),_,_,rfl,rfl,⟨tF GQ,a8.Eu (aj (gv i) (aj Y2 (by decide +kernel)))⟩,?_⟩
  refine ⟨_,rfl,_,rfl,_,rfl,a,ts,(i:Int),i,rfl,s1 _ _ ea,by lia,by lia,by lia,by lia,fun j hj=>by lia,fun c1 H2 s2 n1 e1=>?_⟩
  refine ⟨_,rfl,c1,c,_,aY,rfl,e1,s2 _ _ OC,by simp [la],by simp;lia,fun x hx=>?_,fun x hx=>zy (aj (GP x hx) (by decide +kernel)),fun H3 s3=>?_⟩
  ·obtain ⟨j,_,rfl⟩:=gc.mp hx
   exact tF (aj (br _) (by decide +kernel))
  have eV:=s1.trans (s2.trans s3);have Zn:=(s2.trans s3) _ _ OC;have es:last*ys.getD i 0-(ah aY.length fun j=>((List.range i).map fun(j:Nat)=>bL ts ((i:Int)-j)).getD j 0*aY.getD j 0)=gQ (bL ts) (fun i=>ys.getD i 0) aY last:=by
   unfold gQ;rw [la];dsimp only
   congr 1
   refine bZ fun j hj=>?_;rw [Ff hj]
  refine ⟨_,_,rfl,rfl,?_⟩;dsimp only [bH];rw [es];simp only [kg,ki];have OG:=eV _ _ hd;have GR:=eV _ _ ep;have zx:=eV _ _ eb;have l1:(aY++[0]).length=i+1:=by simp [la]
  have zl:((aY++[0]).zip (bF i)).length=i+1:=by rw [z9,l1,lb,Nat.min_self]
  have bx:∀x∈aY++[0],x.natAbs≤10 ^ 182:=fun x hx=>by
   rcases i7.mp hx with z | z;·exact GP x z
   ·rw [gA.mp z];exact cN _
  have Zo:∀{x:Int},x.natAbs≤10 ^ 182→(mF i*x).natAbs≤10 ^ 404:=fun{x} h=>by rw [b_];exact aj (cq xh h) (by decide +kernel)
  have Zp:∀{x:Int},x.natAbs≤10 ^ 160→(gQ (bL ts) (fun i=>ys.getD i 0) aY last*x).natAbs≤10 ^ 405:=fun{x} h=>by rw [b_];exact aj (cq OF h) (by decide +kernel)
  obtain ⟨u,hu,bu⟩:=AI.step I hq nm (Y:=Y) GB.r fun i _=>gv i;refine gH (dB ⟨_,rfl,z,dz,_,rfl,OG,fK (by decide +kernel),EE (xs:=aY++[0]) (ys:=bF i) (fun x y=>mF i*x+gQ (bL ts) (fun i=>ys.getD i 0) aY last*y) (by lia) (fun R hk=>⟨_,rfl,by show 1≤sizeLine;decide,fun c2 n2=>?_⟩) ?_ ?_⟩)
  ·have OH:ag H3 (upd H3 c2 (.lst [.int 0])):=aO n2
   refine ⟨c,c2,_,_,rfl,rfl,OH _ _ Zn,az,aj (show _≤100 by simp;lia) (by decide),fun c3 n3=>?_⟩
   have C3:=OH.trans (aO (o:=.lst (aY.map V.int++[.int 0])) n3);have e3:upd (upd H3 c2 (.lst [.int 0])) c3 (.lst (aY.map V.int++[.int 0])) c3=some (.lst ((aY++[0]).map V.int)):=by rw [az,m4];rfl
   exact ⟨_,rfl,p,_,_,_,rfl,rfl,.of (C3 _ _ GR),rfl,c3,b0,rfl,⟨_,.of e3⟩,⟨_,.of (C3 _ _ zx)⟩,hk _ _ C3 (A3 (.of e3) (.of (C3 _ _ zx)))⟩
  ·intro x y oi Hx R sx kx
   have m:=kX oi;exact ⟨_,rfl,p,_,_,_,rfl,rfl,.of (sx _ _ GR),rfl,_,rfl,_,_,rfl,rfl,⟨zy (aj xh (by decide +kernel)),zy (aj (bx x m.1) (by decide +kernel))⟩,_,rfl,_,rfl,_,_,rfl,rfl,⟨zy (aj OF (by decide +kernel)),tF (OD y m.2)⟩,_,_,rfl,rfl,kx Hx (ag.refl _)⟩
  intro D1 H4 s4 xb;refine ⟨_,rfl,z,D1,q,_,last,u,rfl,⟨dz,s4 _ _ OG⟩,hq,xb,?_,?_,tF GQ,nl,?_,fun c7 H5 rs s5 n7 e7 lr nY rr=>?_⟩;·rw [aG,zl];lia
  ·intro x hx
   obtain ⟨ab,zw,rfl⟩:=gc.mp hx;have m:=kX zw;have b1:=Zo (bx _ m.1);have b2:=Zp (OD _ m.2);have:(10:Nat) ^ 404+10 ^ 405≤10 ^ 420:=by decide +kernel
   exact zy (by lia)
  ·intro j hj
   rw [aG,zl] at hj;rw [getD_at (by rw [aG,zl];exact hj),gC,List.getElem_zip]
   have:=hu j hj;rw [getD_at (show j<(aY++[0]).length by lia),getD_at (show j<(bF i).length by lia)] at this
   exact this
  rw [aG,zl] at lr nY;have xi:=s4.trans s5;have C4:=eV.trans xi;dsimp only [bH];simp only [kg,ki];refine ⟨_,rfl,p,_,_,_,rfl,rfl,.of (xi _ _ GR),rfl,?_⟩;refine ⟨C4,c7,rs,mF i,_,_,_,rfl,none_of (eV.trans s4) n7,e7,AI.next I hq nm nl hu lr nY rr (fun z j hj=>aj (bu j hj) ?_) (Y:=Y) GB.r (fun i _=>gv i),nm,fun m hm=>by rw [show i=m by lia]⟩
  exact cq (by lia) (pQ _ (aj (kL GB.M1 ih) (GB.f z)))
 ·rintro σ Hc ⟨sc,c,aY,last,v6,v7,v8,rfl,nc,ec,AI,nl,GO⟩
  rw [lw] at AI GO;rw [GO h rfl] at AI;exact ⟨_,rfl,kk c aY Hc sc nc ec AI⟩
theorem Zq:bG ["cell","at","x"] ["cell","at"] (aN Cb):=bQ
theorem Zr(T:Txt K mg t):a_ P w K mg base b8 1 t.rZ t.vE ["cell","at"] TU:=by
 have S:=Zq;refine T.wQ.cC S (fun _ _ _ _ H _ _ _ hr h=>?_);obtain ⟨c,a,rfl,ha,k⟩:=h
 refine ⟨_,(aq (bV (bN Ak (pv 0) (au DE af af)) (ax (aT (pv 0))) b7)
  (aq (putL 2 S.nd (au fO (au dU (au dU (au fe (au fO (pv 0) af) af) (au fe (pv 1) af)) af) af))
  (aq (putL 2 S.nd (au fO (au dU (au dU (au dU (au fe (pv 2) (pv 2)) (au fe af (pv 2))) (pv 1)) af) af))
  (ax (aT (au dU (au fe (pv 2) af) (au fO (au dU (au dU (au fe (pv 2) (pv 2)) (au fe af (pv 1))) af) af))))))),?_⟩
 refine ⟨_,rfl,_,_,rfl,rfl,⟨by decide,by decide,by decide⟩,_,_,rfl,rfl,_,rfl,cu (fun h=>?_) (fun h=>?_)⟩
 ·have h:=fN h
  exact ⟨_,rfl,k _ (Int.le_trans (by decide) h)⟩
 ·refine ⟨_,rfl,_,_,rfl,rfl,(by show (0:Int)<2147483647;decide),_,_,rfl,rfl,.inr ⟨by decide,by decide⟩,_,rfl,_,_,rfl,rfl,.inr ⟨by decide,by decide⟩,_,_,rfl,rfl,_,_,rfl,rfl,_,_,rfl,rfl,(by show (0:Int)<2147483399;decide),?_⟩
  have b0:=f_ (c % 2147483647*40692+a*65539+7) (show (2147483399:Int)≠0 by decide)
  have b1:=gU (c % 2147483647*40692+a*65539+7) (show (0:Int)<2147483399 by decide)
  generalize (c % 2147483647*40692+a*65539+7) % 2147483399=x at b0 b1 ⊢;refine ⟨_,rfl,_,rfl,_,_,rfl,rfl,.inl ⟨by lia,by lia⟩,_,rfl,_,_,rfl,rfl,.inl ⟨by decide,by decide⟩,_,_,rfl,rfl,_,rfl,_,_,rfl,rfl,_,_,rfl,rfl,_,_,rfl,rfl,(by show (0:Int)<2147483563;decide),?_⟩
  have c0:=f_ (x*x+40014*x+a+1) (show (2147483563:Int)≠0 by decide)
  have c1:=gU (x*x+40014*x+a+1) (show (0:Int)<2147483563 by decide)
  generalize (x*x+40014*x+a+1) % 2147483563=y at c0 c1 ⊢;refine ⟨_,rfl,_,_,rfl,rfl,.inr ⟨by decide,by decide⟩,_,rfl,_,rfl,_,_,rfl,rfl,.inl ⟨by lia,by lia⟩,_,rfl,_,_,rfl,rfl,.inl ⟨by decide,by decide⟩,_,_,rfl,rfl,_,_,rfl,rfl,_,_,rfl,rfl,(by show (0:Int)<2147483543;decide),_,_,rfl,rfl,k _ (Int.add_nonneg (Int.mul_nonneg (f_ _ (by decide)) (by decide)) (f_ _ (by decide)))⟩
theorem Zs:bG ["pen","many","at","cell","found"] ["pen","many"] (aN Cc):=bQ
theorem GS(T:Txt K mg t):a_ P w K mg base b8 2 t.r6 t.vF ["pen","many"] (TV K):=by
 have S:=Zs;refine T.eU.cC S (fun _ _ _ _ H _ _ _ hr h=>?_);obtain ⟨P0,a,ns,many,rfl,⟨x,y,eP,hx,hy⟩,hS,m1,mm,k⟩:=h;have s_:=hr.units
 refine ⟨_,(aq (bV (bN kr (aw bW (pv 0) af) (pv 1)) (aq (putL 2 S.nd (aw bW (pv 0) af))
  (aq (putL 3 S.nd af)
  (aq (bV (bN kr (pv 2) (bP di rfl T.cZ c_ (aa (aw bW (pv 0) af) ae))) (ax (putL 3 S.nd (aw bW (aw bW (pv 0) af) (pv 2)))) (ax (bV (bN (TQ s_) (aw bW (pv 0) af) (gi ae)) (ax (putL 3 S.nd (au dU (au fO (aw bW (aw bW (pv 0) af) (au fO (au fe (pv 2) af) (bP di rfl T.cZ c_ (aa (aw bW (pv 0) af) ae)))) af) (au fe (pv 2) af)))) b7)))
  (aq (@jc _ _ _ _ _ _ (au dU (pv 2) af) (jb (pv 0) af set_list) (by rfl) (by rfl) (by rfl))
  (ax (@jc _ _ _ _ _ _ (aM (Zr T) hr T.Ni T.wQ.kp T.Nh aP (aa (pv 3) (aa (pv 2) ae))) (jb (pv 0) af set_list) (by rfl) (by rfl) (by rfl))))))) b7)
  (aq (putL 4 S.nd (au fO (aw bW (pv 0) af) (pv 1)))
  (aq (@jc _ _ _ _ _ _ (au kA (aw bW (pv 0) af) (pv 1)) (jb (pv 0) af set_list) (by rfl) (by rfl) (by rfl))
  (ax (aT (pv 4)))))),?_⟩
 have C5:=gJ.seq hS;refine ⟨_,rfl,P0,_,_,_,rfl,rfl,.of eP,rfl,_,rfl,_,_,rfl,rfl,_,rfl,cu (fun cI=>?_) (fun cI=>?_)⟩
 ·refine ⟨_,rfl,P0,_,_,_,rfl,rfl,.of eP,rfl,?_⟩
  refine ⟨_,rfl,_,rfl,P0,_,_,_,rfl,rfl,.of eP,rfl,a,ns.map V.int,rfl,.inl C5,_,_,rfl,rfl,_,rfl,cu (fun h1=>?_) (fun h1=>?_)⟩
  ·have h1:x<((ns.map V.int).length:Int):=fN h1
   obtain ⟨v,hv,mv⟩:=JU (xs:=ns.map V.int) hx h1;obtain ⟨c,_,rfl⟩:=gc.mp mv;refine ⟨_,rfl,P0,_,_,_,rfl,rfl,.of eP,rfl,_,rfl,a,ns.map V.int,_,_,rfl,rfl,C5,hv,?_⟩;refine ⟨_,rfl,_,_,rfl,rfl,_,rfl,P0,_,1,1,rfl,rfl,eP,rfl,?_⟩;refine ⟨_,rfl,_,rfl,c,x,rfl,hx,fun r i3=>⟨_,rfl,P0,_,2,2,rfl,rfl,az,rfl,?_⟩⟩;have q0:=f_ (r) (show many≠0 by lia)
   have q1:=gU (r) (show 0<many by lia)
   have q2:=xJ (i3) (show 0≤many by lia)
   refine ⟨_,rfl,P0,_,_,_,rfl,rfl,.of az,rfl,_,rfl,_,_,rfl,rfl,(show 0<many by lia),?_⟩
   refine ⟨_,rfl,P0,_,_,_,rfl,rfl,.of az,rfl,_,rfl,_,_,rfl,rfl,⟨show 0<many by lia,mm⟩,_,rfl,P0,_,2,2,rfl,rfl,az,rfl,?_⟩
   exact ⟨_,rfl,k _ _ q0 q1 (((aQ.refl H).trans aQ.mx).trans (aQ.mx.trans aQ.mx)) ⟨x+1,r / many,az,by lia,q2⟩⟩
  ·refine ⟨_,rfl,P0,_,_,_,rfl,rfl,.of eP,rfl,by show 0≤sizeLine;decide,fun l nl=>?_⟩
   have sl:ag H (upd H l (.lst [])):=aO nl;refine ⟨a,l,ns.map V.int,rfl,rfl,sl.seq C5,az,fun v hv=>?_,_,rfl,?_⟩
   ·obtain ⟨c,_,rfl⟩:=gc.mp hv
    exact ⟨c,rfl⟩
   have zA:=sl _ _ eP;have lQ:=sl.seq C5;generalize upd H l (.lst [])=H2 at sl zA lQ ⊢;refine cu (fun h2=>?_) (fun h2=>?_)
   ·have hl:0<(ns.map V.int).length:=by
     cases ns with
     | nil=>simp at h2
     | cons=>simp
    have og:=f_ (x*5) (show ((ns.map V.int).length:Int)≠0 by lia)
    have Zt:=gU (x*5) (show (0:Int)<((ns.map V.int).length:Int) by lia)
    obtain ⟨v,hv,mv⟩:=JU (xs:=ns.map V.int) og Zt;obtain ⟨c,_,rfl⟩:=gc.mp mv;refine ⟨_,rfl,P0,_,_,_,rfl,rfl,.of zA,rfl,_,rfl,_,_,rfl,rfl,.inr ⟨by decide,by decide⟩,_,rfl,P0,_,_,_,rfl,rfl,.of zA,rfl,a,ns.map V.int,rfl,.inl lQ,_,_,rfl,rfl,(show (0:Int)<((ns.map V.int).length:Int) by lia),a,ns.map V.int,_,_,rfl,rfl,lQ,hv,_,_,rfl,rfl,(show (0:Int)<1000003 by decide),_,rfl,_,_,rfl,rfl,.inr ⟨by decide,by decide⟩,_,_,rfl,rfl,?_⟩
    refine ⟨_,rfl,_,_,rfl,rfl,_,rfl,P0,_,1,1,rfl,rfl,zA,rfl,?_⟩;refine ⟨_,rfl,_,rfl,_,x,rfl,hx,fun r i3=>⟨_,rfl,P0,_,2,2,rfl,rfl,az,rfl,?_⟩⟩;have q0:=f_ (r) (show many≠0 by lia)
    have q1:=gU (r) (show 0<many by lia)
    have q2:=xJ (i3) (show 0≤many by lia)
    refine ⟨_,rfl,P0,_,_,_,rfl,rfl,.of az,rfl,_,rfl,_,_,rfl,rfl,(show 0<many by lia),?_⟩
    refine ⟨_,rfl,P0,_,_,_,rfl,rfl,.of az,rfl,_,rfl,_,_,rfl,rfl,⟨show 0<many by lia,mm⟩,_,rfl,P0,_,2,2,rfl,rfl,az,rfl,?_⟩
    exact ⟨_,rfl,k _ _ q0 q1 (((aQ.of sl).trans aQ.mx).trans (aQ.mx.trans aQ.mx)) ⟨x+1,r / many,az,by lia,q2⟩⟩
   ·
    refine ⟨_,rfl,_,_,rfl,rfl,_,rfl,P0,_,1,1,rfl,rfl,zA,rfl,?_⟩;refine ⟨_,rfl,_,rfl,0,x,rfl,hx,fun r i3=>⟨_,rfl,P0,_,2,2,rfl,rfl,az,rfl,?_⟩⟩;have q0:=f_ (r) (show many≠0 by lia)
    have q1:=gU (r) (show 0<many by lia)
    have q2:=xJ (i3) (show 0≤many by lia)
    refine ⟨_,rfl,P0,_,_,_,rfl,rfl,.of az,rfl,_,rfl,_,_,rfl,rfl,(show 0<many by lia),?_⟩
    refine ⟨_,rfl,P0,_,_,_,rfl,rfl,.of az,rfl,_,rfl,_,_,rfl,rfl,⟨show 0<many by lia,mm⟩,_,rfl,P0,_,2,2,rfl,rfl,az,rfl,?_⟩
    exact ⟨_,rfl,k _ _ q0 q1 (((aQ.of sl).trans aQ.mx).trans (aQ.mx.trans aQ.mx)) ⟨x+1,r / many,az,by lia,q2⟩⟩
 ·dsimp only [ja]
  have q0:=f_ (y) (show many≠0 by lia)
  have q1:=gU (y) (show 0<many by lia)
  have q2:=xJ (hy) (show 0≤many by lia)
  refine ⟨_,rfl,P0,_,_,_,rfl,rfl,.of eP,rfl,_,rfl,_,_,rfl,rfl,(show 0<many by lia),?_⟩
  refine ⟨_,rfl,P0,_,_,_,rfl,rfl,.of eP,rfl,_,rfl,_,_,rfl,rfl,⟨show 0<many by lia,mm⟩,_,rfl,P0,_,2,2,rfl,rfl,eP,rfl,?_⟩
  exact ⟨_,rfl,k _ _ q0 q1 (aQ.mx) ⟨x,y / many,az,hx,q2⟩⟩
theorem Zu:bG ["top","bottom","one","other"] ["top","bottom"] (aN Cd):=bQ
theorem GU(T:Txt K mg t):a_ P w K mg base b8 1 t.r9 t.vG ["top","bottom"] SI:=by
 have S:=Zu;refine T.pz.cC S (fun _ _ _ _ H _ Q _ hr h=>?_);obtain ⟨a,b,rfl,hb,mb,k⟩:=h
 refine ⟨_,(aq (putL 2 S.nd (bP Am rfl T.y_ boot_abs (aa (pv 0) ae)))
  (aq (putL 3 S.nd (bP Am rfl T.y_ boot_abs (aa (pv 1) ae)))
  (aq (xY e_ (bN kq (pv 3) af) (ax (Qh (i:=2) (j:=3) rfl S.nd rfl rfl (by decide) rfl rfl (aa (pv 3) (aa (au fO (pv 2) (pv 3)) ae)) rfl)))
  (aq (bV (bN kr (pv 1) af) (ax (putL 2 S.nd (lq lA (pv 2)))) b7)
  (ax (aT (eE (aa (au yl (pv 0) (pv 2)) (aa (au yl (pv 1) (pv 2)) ae))))))))),?_⟩
 have ok:=JW (a:=a) hb mb;refine ⟨_,rfl,a,rfl,_,rfl,b,rfl,fun m σ H'=>H'=H∧∃(x y:Nat),σ=[some (.int a),some (.int b),some (.int (x:Int)),some (.int (y:Int))]∧m=y∧Nat.gcd x y=Int.gcd a b,⟨b.natAbs,rfl,a.natAbs,b.natAbs,?_,rfl,rfl⟩,?_⟩
 ·show [some (V.int a),some (V.int b),some (V.int (if a<0 then -a else a)),some (V.int (if b<0 then -b else b))]=_
  rw [AM,AM]
 ·rintro m σ H' ⟨rfl,x,y,rfl,em,hg⟩
  refine ⟨_,rfl,rfl,_,rfl,cu (fun hy=>?_) (fun hy=>?_)⟩
  ·have hy:y≠0:=fun z=>by subst z;revert hy;decide
   refine ⟨fun σ' H2=>H2=H'∧σ'=[some (.int a),some (.int b),some (.int (y:Int)),some (.int (((x % y:Nat)):Int))],?_,?_⟩
   ·rintro σ' H2 ⟨rfl,rfl⟩
    exact ⟨x % y,by rw [em];exact Nat.mod_lt _ (by lia),rfl,y,x % y,rfl,rfl,by rw [JV];exact hg⟩
   ·exact ⟨_,rfl,_,rfl,_,rfl,_,_,rfl,rfl,(show (0:Int)<y by lia),_,_,rfl,rfl,rfl⟩
  ·have y0:y=0:=by
    by_cases z:y=0;·exact z
    ·refine absurd ?_ hy
     rw [iW,eC (by lia)]
     rfl
   subst y0;rw [Nat.gcd_zero_right] at hg;have OI:∀(g:Int),g=lowG a b→∀(p:Addr),H' p=none→Q (.ref p) (upd H' p (.tup [.int (a.fdiv g),.int (b.fdiv g)])):=fun g e p hp=>by rw [e];exact k p _ (aO hp) az
   refine ⟨_,rfl,_,_,rfl,rfl,_,rfl,cu (fun hn=>?_) (fun hn=>?_)⟩
   ·have hn:b<0:=fN hn
    have eg:-(x:Int)=lowG a b:=by unfold lowG;rw [ai hn,hg,oB]
    have zB:AK 0 (-(x:Int)):=by rw [eg];exact ok
    exact ⟨_,rfl,_,rfl,_,rfl,_,rfl,_,_,rfl,rfl,zB,_,rfl,_,rfl,_,_,rfl,rfl,zB,by show 2≤sizeLine;decide,OI _ eg⟩
   ·have hn:¬b<0:=fun z=>hn (dC z)
    have eg:(x:Int)=lowG a b:=by unfold lowG;rw [ao hn,hg]
    have zB:AK 0 (x:Int):=by rw [eg];exact ok
    exact ⟨_,rfl,_,rfl,_,_,rfl,rfl,zB,_,rfl,_,rfl,_,_,rfl,rfl,zB,by show 2≤sizeLine;decide,OI _ eg⟩
theorem Zv:bG ["told","number"] ["told","number"] (aN Ce):=bQ
theorem Zw(T:Txt K mg t){B:Nat}:a_ P w K mg base b8 1 t.r_ t.vH ["told","number"] (TY B):=by
 have S:=Zv;refine T.mL.cC S (fun _ _ _ _ H _ _ _ hr h=>?_);obtain ⟨td,q,i,rfl,ht,hq,bi,b1,k⟩:=h
 refine ⟨_,(aq (bV (bN fo (aw a7 (pv 0) af) fc) (ax (aT (au fO (pv 1) (aw a7 (pv 0) af)))) b7)
  (ax (aT (eE (aa (pv 1) (aa af ae)))))),?_⟩
 unfold gK at ht;by_cases z:q=0
 ·subst z
  rw [yv] at ht;refine ⟨_,rfl,td,_,_,_,rfl,rfl,.of ht,rfl,rfl,false,by decide +kernel,cE ?_⟩
  refine ⟨_,rfl,by show 2≤sizeLine;decide,fun r nr=>k _ _ (aO nr) ?_⟩
  unfold iw;rw [ai rfl];exact .bA az ⟨show (1:Int)≤1 by decide,zW ..⟩ bi (by show Int.natAbs 1≤B;lia)
 ·rw [uo z] at ht
  obtain ⟨q2,q3,q4⟩:=hq.resolve_left z;refine ⟨_,rfl,td,_,_,_,rfl,rfl,.of ht,rfl,rfl,true,by decide +kernel,eF ?_⟩
  refine ⟨_,rfl,_,rfl,td,_,_,_,rfl,rfl,.of ht,rfl,_,_,rfl,rfl,(show 0<q by lia),k _ H (ag.refl H) ?_⟩
  unfold iw;rw [ao z];exact .rem (f_ _ z) (gU _ (by lia)) q3
theorem Zx:bG ["told","a","part"] ["told","a"] (aN Cf):=bQ
theorem Zy(T:Txt K mg t):a_ P w K mg base b8 2 t.se t.vI ["told","a"] TZ:=by
 have S:=Zx;refine T.wV.cC S (fun _ _ _ _ H _ Q _ hr h=>?_);obtain ⟨td,q,v,x,m,B,rfl,ht,hq,hv,hB,k⟩:=h;have hu:=hr.x6
 refine ⟨_,(aq (bV (bN fo (aw a7 (pv 0) af) fc) (ax (aT (nh (bP (iV (K:=K)) rfl T.iD boot_isinstance (aa (pv 1) (aa (iM (v:=.ty "int") rfl T.zb boot_int rfl) ae))) (nh (Io (bP (iV (K:=K)) rfl T.iD boot_isinstance (aa (pv 1) (aa (iM (v:=.ty "bool") rfl T.za boot_bool rfl) ae)))) (tX (IL Aj kr af (pv 1) (aw a7 (pv 0) af))))))) b7)
  (aq (bV (PW.pt (pw_or (l5 (iO (bP (iV (K:=K)) rfl T.iD boot_isinstance (aa (pv 1) (aa (iM (v:=.ty "tuple") rfl T.sY boot_tuple rfl) ae))))) (pw_or1 (bN kq (bP di rfl T.cZ c_ (aa (pv 1) ae)) af)))) (ax (aT i_)) b7)
  (aq (gE e_ rfl (Iw (pv 1)) (eh (i:=2) S.nd rfl (Or.inl rfl))
   (ax (bV (PW.pt (pw_or (l5 (iO (bP (iV (K:=K)) rfl T.iD boot_isinstance (aa (pv 2) (aa (iM (v:=.ty "int") rfl T.zb boot_int rfl) ae))))) (pw_or1 (iO (bP (iV (K:=K)) rfl T.iD boot_isinstance (aa (pv 2) (aa (iM (v:=.ty "bool") rfl T.za boot_bool rfl) ae))))))) (ax (aT i_)) b7)))
  (ax (aT (nh (qi qh (aw a7 (pv 1) af) af) (tX (qi (JL hu) (pv 1) (aM (GU T) hr T.CD T.pz.kp T.CB aP (aa (aw a7 (pv 1) af) (aa (aw a7 (pv 1) af) ae))))))))))),?_⟩
 unfold gK at ht;cases hv with
 | bA e l bx bm=>
  rename_i p
  rw [yv] at ht;refine ⟨_,rfl,td,_,_,_,rfl,rfl,.of ht,rfl,rfl,false,by decide +kernel,cE ?_⟩
  refine ⟨_,rfl,_,_,_,true,rfl,rfl,.of (.tup e),nC,true,rfl,cE ?_⟩;refine ⟨_,rfl,p,_,rfl,.inr (.of e),rfl,false,by rw [iW];rfl,cE ?_⟩
  refine ⟨_,rfl,p,rfl,⟨_,.of e⟩,?_⟩;refine IC (K:=K) (a:=p) (xs:=[.int x,.int m]) (fun i σ Hc=>Hc=H∧∃v2:Option V,σ=[some (.ref td),some (.ref p),v2]) ⟨rfl,_,rfl⟩ (fun i σ Hc _ ⟨z,_⟩=>by rw [z];exact .of e) ?_ ?_
  ·rintro i v σ Hc hi ⟨rfl,v2,rfl⟩
   obtain ⟨c,rfl⟩:∃c:Int,v=.int c:=by
    match i,hi with
    | 0,h=>cases h;exact ⟨_,rfl⟩
    | 1,h=>cases h;exact ⟨_,rfl⟩
    | i+2,h=>cases h
   refine ⟨_,rfl,_,_,_,true,rfl,rfl,.of (.int c),rfl,true,rfl,cE ?_⟩;refine ⟨_,rfl,_,_,_,false,rfl,rfl,.of (.int c),rfl,false,rfl,cE ?_⟩;exact ⟨rfl,_,rfl⟩
  ·rintro σ Hc ⟨rfl,v2,rfl⟩
   have m0:=l.pos;refine ⟨_,rfl,p,_,_,_,rfl,rfl,.of e,rfl,_,_,rfl,rfl,true,by show V.bl (decide ((0:Int)<m))=_;rw [dC (show (0:Int)<m by lia)],eF ?_⟩
   refine ⟨_,rfl,_,rfl,p,_,_,_,rfl,rfl,.of e,rfl,_,rfl,p,_,_,_,rfl,rfl,.of e,rfl,x,m,rfl,by lia,fE (aj bm hB) JX,fun r H' s' i5=>?_⟩
   have e1:lowG x m=1:=by unfold lowG;rw [ao (by lia),l.jk];rfl
   rw [e1,Int.fdiv_one,Int.fdiv_one] at i5;refine ⟨p,r,_,_,rfl,rfl,.of (s' _ _ e),.of i5,rfl,rfl,?_⟩;show Q (.bl (g9 [V.int x,V.int m] [V.int x,V.int m])) H';rw [Tc];exact k H' s'
 | rem h0 h1 h2=>
  have z:q≠0:=by lia
  rw [uo z] at ht;refine ⟨_,rfl,td,_,_,_,rfl,rfl,.of ht,rfl,rfl,true,by decide +kernel,eF ?_⟩
  refine ⟨_,rfl,_,_,_,true,rfl,rfl,.of (.int x),rfl,true,rfl,eF ?_⟩;refine ⟨_,rfl,_,_,_,false,rfl,rfl,.of (.int x),rfl,false,rfl,_,rfl,eF ?_⟩;refine ⟨_,rfl,_,_,rfl,rfl,true,by show V.bl (decide ((0:Int)≤x))=_;rw [dC h0],eF ?_⟩
  refine ⟨_,rfl,td,_,_,_,rfl,rfl,.of ht,rfl,_,_,rfl,rfl,?_⟩;show Q (.bl (decide (x<q))) H;rw [dC h1];exact k H (ag.refl H)
theorem Zz:bG ["told","found"] ["told","found"] (aN Ci):=bQ
theorem ZA(T:Txt K mg t):a_ P w K mg base b8 3 t.si t.vJ ["told","found"] T3:=by
 have S:=Zz;refine T.wW.cC S (fun _ _ _ _ H vs _ _ hr h=>?_);obtain ⟨td,a,q,ps,B,rfl,ht,hq,⟨vs,ea,hl,hn⟩,Y3,hB,k⟩:=h;refine ⟨_,(ax (aT (nh (bP (iV (K:=K)) rfl T.iD boot_isinstance (aa (pv 1) (aa (iM (v:=.ty "list") rfl T.jZ boot_list rfl) ae))) (tX (bP (JQ (K:=K) rfl) rfl T.FY boot_all (aa (iu (N:=["a","told"]) (ρ:=(fun σ=>[σ[0]?.join])) (fP [0] rfl) rfl (gh (pv 1)) (fun _ _ _=>.nil) (fun _ _ _=>(aM (Zy T) hr T.Nk T.wV.kp T.Nj aP (aa (pv 1) (aa (pv 0) ae))))) ae)))))),?_⟩;refine ⟨_,rfl,_,_,_,true,rfl,rfl,.of (.lst ea),nC,true,rfl,eF ?_⟩;refine yr (Eb (xs:=vs) (fun R h=>⟨_,rfl,a,rfl,⟨_,.of ea⟩,h _ _ (ag.refl _) (mq (.of ea))⟩) (by rw [hl];exact gG (by lia)) (fun _ i y _=>y=.bl true) (fun _ _ _ _ _ _ h _ _=>h) ?_ ?_)
 ·intro D i v hi Hc R sc _ kc
  have cf:i<ps.length:=by rw [←hl];exact (b6.mp hi).1
  exact ⟨_,rfl,_,rfl,td,q,v,_,_,B,rfl,ht.mono sc,hq,(hn i v ps[i] hi (by simp [cf])).mono sc,hB,fun H' s'=>kc _ H' s' rfl⟩
 ·intro D ys Hc sc oh hP eD
  refine ⟨D,List.replicate ys.length true,rfl,.of (by rw [eD];exact eY _ (eY _ (En hP))),?_⟩
  rw [Km];exact k Hc sc
theorem ZC:bG ["pen","way"] ["pen"] (aN Cj):=bQ
theorem ZD(T:Txt K mg t):a_ P w K mg base b8 3 t.sj t.vK ["pen"] (T4 K):=by
 have S:=ZC;have fM:=GS (P:=P) (w:=w) (base:=base) T;refine T.wX.cC S (fun _ _ _ _ H _ _ _ hr h=>?_);obtain ⟨P0,a,ns,rfl,pc,hS,k⟩:=h
 refine ⟨_,(@aq _ _ _ _ _ (@D8 _ _ 1 _ _ _ _ (by rfl) (by first | exact .inl rfl | exact .inr rfl | assumption) S.nd rfl (Or.inl rfl) (Ao fM (hr.mono (by decide)) rfl T.fW T.eU.kp T.fV .nil aP (@eA _ _ _ _ _ (by rfl) (pv 0) (@eA _ _ _ _ _ (by rfl) af ae))))
   (@aq _ _ _ _ _ (@bV _ _ _ _ _ _ _ _ (@DG _ _ _ _ _ _ _ _ kr (pv 1) af (Al _)) (@ax _ _ _ (@aT _ _ _ _ (@eE _ _ _ _ _ (@eA _ _ _ _ _ (by rfl) fc ae)))) b7)
   (@aq _ _ _ _ _ (@bV _ _ _ _ _ _ _ _ (@DG _ _ _ _ _ _ _ _ kr (pv 1) af (Al _)) (@ax _ _ _ (@aT _ _ _ _ (@eE _ _ _ _ _ (@eA _ _ _ _ _ (by rfl) fc (@eA _ _ _ _ _ (by rfl) (@DL _ _ _ _ _ _ _ bW (@gi _ _ _ _ (@eA _ _ _ _ _ (by rfl) af (@eA _ _ _ _ _ (by rfl) af (@eA _ _ _ _ _ (by rfl) af (@eA _ _ _ _ _ (by rfl) af ae))))) (Ao fM (hr.mono (by decide)) rfl T.fW T.eU.kp T.fV .nil aP (@eA _ _ _ _ _ (by rfl) (pv 0) (@eA _ _ _ _ _ (by rfl) af ae))) (fun _ _=>rfl)) ae))))) b7)
   (@ax _ _ _ (@aT _ _ _ _ (@eE _ _ _ _ _ (@eA _ _ _ _ _ (by rfl) fc (@eA _ _ _ _ _ (by rfl) (@DL _ _ _ _ _ _ _ bW (@gi _ _ _ _ (@eA _ _ _ _ _ (by rfl) af (@eA _ _ _ _ _ (by rfl) af (@eA _ _ _ _ _ (by rfl) af (@eA _ _ _ _ _ (by rfl) af (@eA _ _ _ _ _ (by rfl) af (@eA _ _ _ _ _ (by rfl) af (@eA _ _ _ _ _ (by rfl) af (@eA _ _ _ _ _ (by rfl) af (@eA _ _ _ _ _ (by rfl) af (@eA _ _ _ _ _ (by rfl) af ae))))))))))) (Ao fM (hr.mono (by decide)) rfl T.fW T.eU.kp T.fV .nil aP (@eA _ _ _ _ _ (by rfl) (pv 0) (@eA _ _ _ _ _ (by rfl) af ae))) (fun _ _=>rfl)) ae)))))))),?_⟩
 refine ⟨_,rfl,P0,a,ns,5,rfl,pc,hS,by decide,a8.of_lt (by decide) (by decide),fun r H1 r0 r1 sA p1=>?_⟩
 have h_:aZ K (er P0 H1) a (ns.map V.int):=ag.seq sA hS;refine ⟨_,rfl,_,_,rfl,rfl,_,rfl,cu (fun _=>?_) (fun _=>?_)⟩
 ·refine ⟨by show 1≤sizeLine;decide,fun td lR=>?_⟩
  have np:=p1.ne lR;refine k td 0 _ (.inl rfl) (sA.trans (aQ.of (aO lR))) (p1.mono (aO lR)) ?_;unfold gK;rw [yv,nJ np];exact az
 refine ⟨_,rfl,_,_,rfl,rfl,_,rfl,cu (fun _=>?_) (fun _=>?_)⟩
 ·refine ⟨by show 4≤sizeLine;decide,fun l nl=>?_⟩
  have nP:=p1.ne nl;have sl:ag H1 (upd H1 l (.lst [.int 2,.int 3,.int 5,.int 7])):=aO nl;have el:upd H1 l (.lst [.int 2,.int 3,.int 5,.int 7]) l=some (.lst [.int 2,.int 3,.int 5,.int 7]):=az;have pl:=p1.mono sl;have pH:aZ K (er P0 (upd H1 l (.lst [.int 2,.int 3,.int 5,.int 7]))) a (ns.map V.int):=ag.seq (nK sl) h_;generalize upd H1 l (.lst [.int 2,.int 3,.int 5,.int 7])=H2 at sl el pl pH ⊢;refine ⟨_,rfl,P0,a,ns,4,rfl,pl,pH,by decide,a8.of_lt (by decide) (by decide),fun r H3 r0 r1 s3 p3=>?_⟩
  obtain ⟨q,zC,hq,pF⟩:∃q:Int,d5 ([.int 2,.int 3,.int 5,.int 7]:List V) r=some (.int q)∧aF q∧q≠0:=by
   rcases (show r=0∨r=1∨r=2∨r=3 by lia) with rfl | rfl | rfl | rfl
   ·exact ⟨2,rfl,.inr ⟨by decide,by decide,by decide⟩,by decide⟩
   ·exact ⟨3,rfl,.inr ⟨by decide,by decide,by decide⟩,by decide⟩
   ·exact ⟨5,rfl,.inr ⟨by decide,by decide,by decide⟩,by decide⟩
   ·exact ⟨7,rfl,.inr ⟨by decide,by decide,by decide⟩,by decide⟩
  refine ⟨l,_,_,_,rfl,rfl,.of (s3.at nP el),zC,by show 2≤sizeLine;decide,fun td lR=>?_⟩
  have np:=p3.ne lR;refine k td q _ hq ((sA.trans (aQ.of sl)).trans (s3.trans (aQ.of (aO lR)))) (p3.mono (aO lR)) ?_;unfold gK;rw [uo pF,nJ np];exact az
 ·refine ⟨by show 10≤sizeLine;decide,fun l nl=>?_⟩
  have nP:=p1.ne nl;have sl:ag H1 (upd H1 l (.lst [.int 11,.int 13,.int 29,.int 97,.int 101,.int 257,.int 499,.int 743,.int 991,.int 997])):=aO nl;have el:upd H1 l (.lst [.int 11,.int 13,.int 29,.int 97,.int 101,.int 257,.int 499,.int 743,.int 991,.int 997]) l=some (.lst [.int 11,.int 13,.int 29,.int 97,.int 101,.int 257,.int 499,.int 743,.int 991,.int 997]):=az;have pl:=p1.mono sl;have pH:aZ K (er P0 (upd H1 l (.lst [.int 11,.int 13,.int 29,.int 97,.int 101,.int 257,.int 499,.int 743,.int 991,.int 997]))) a (ns.map V.int):=ag.seq (nK sl) h_;generalize upd H1 l (.lst [.int 11,.int 13,.int 29,.int 97,.int 101,.int 257,.int 499,.int 743,.int 991,.int 997])=H2 at sl el pl pH ⊢;refine ⟨_,rfl,P0,a,ns,10,rfl,pl,pH,by decide,a8.of_lt (by decide) (by decide),fun r H3 r0 r1 s3 p3=>?_⟩
  obtain ⟨q,zC,hq,pF⟩:∃q:Int,d5 ([.int 11,.int 13,.int 29,.int 97,.int 101,.int 257,.int 499,.int 743,.int 991,.int 997]:List V) r=some (.int q)∧aF q∧q≠0:=by
   rcases (show r=0∨r=1∨r=2∨r=3∨r=4∨r=5∨r=6∨r=7∨r=8∨r=9 by lia) with rfl | rfl | rfl | rfl | rfl | rfl | rfl | rfl | rfl | rfl
   ·exact ⟨11,rfl,.inr ⟨by decide,by decide,by decide⟩,by decide⟩
   ·exact ⟨13,rfl,.inr ⟨by decide,by decide,by decide⟩,by decide⟩
   ·exact ⟨29,rfl,.inr ⟨by decide,by decide,by decide⟩,by decide⟩
   ·exact ⟨97,rfl,.inr ⟨by decide,by decide,by decide⟩,by decide⟩
   ·exact ⟨101,rfl,.inr ⟨by decide,by decide,by decide⟩,by decide⟩
   ·exact ⟨257,rfl,.inr ⟨by decide,by decide,by decide⟩,by decide⟩
   ·exact ⟨499,rfl,.inr ⟨by decide,by decide,by decide⟩,by decide⟩
   ·exact ⟨743,rfl,.inr ⟨by decide,by decide,by decide⟩,by decide⟩
   ·exact ⟨991,rfl,.inr ⟨by decide,by decide,by decide⟩,by decide⟩
   ·exact ⟨997,rfl,.inr ⟨by decide,by decide,by decide⟩,by decide⟩
  refine ⟨l,_,_,_,rfl,rfl,.of (s3.at nP el),zC,by show 2≤sizeLine;decide,fun td lR=>?_⟩
  have np:=p3.ne lR;refine k td q _ hq ((sA.trans (aQ.of sl)).trans (s3.trans (aQ.of (aO lR)))) (p3.mono (aO lR)) ?_;unfold gK;rw [uo pF,nJ np];exact az
theorem ZE:bG ["pen","told","far","kind","top"] ["pen","told","far"] (aN Ck):=bQ
theorem OJ(T:Txt K mg t):a_ P w K mg base b8 3 t.sk t.vL ["pen","told","far"] (Ub K):=by
 have S:=ZE;have fM:=GS (P:=P) (w:=w) (base:=base) T;refine T.sV.cC S (fun _ _ _ _ H _ _ _ hr h=>?_);obtain ⟨P0,a,td,ns,q,cm,F,rfl,pc,hS,ht,hq,f1,f2,f3,f4,k⟩:=h
 refine ⟨_,(aq (putL 3 S.nd (aM fM hr T.fW T.eU.kp T.fV aP (aa (pv 0) (aa af ae))))
  (aq (bV (bN fo (aw a7 (pv 1) af) fc) (aq (bV (bN kr (pv 3) af) (ax (aT af)) b7)
  (ax (aT (aM fM hr T.fW T.eU.kp T.fV aP (aa (pv 0) (aa (aw a7 (pv 1) af) ae)))))) b7)
  (aq (bV (bN kr (pv 3) af) (ax (aT (eE (aa af (aa af ae))))) b7)
  (aq (bV (bN fo (pv 3) af) (aq (putL 4 S.nd (au fe (au gZ af (au fe af (aM fM hr T.fW T.eU.kp T.fV aP (aa (pv 0) (aa af ae))))) (aM fM hr T.fW T.eU.kp T.fV aP (aa (pv 0) (aa (pv 2) ae)))))
  (ax (aT (aM (GU T) hr T.CD T.pz.kp T.CB aP (aa (pv 4) (aa (au dU af (aM fM hr T.fW T.eU.kp T.fV aP (aa (pv 0) (aa (pv 2) ae)))) ae)))))) b7)
  (ax (aT (aM (GU T) hr T.CD T.pz.kp T.CB aP (aa (au gZ (aM fM hr T.fW T.eU.kp T.fV aP (aa (pv 0) (aa af ae))) af) (aa (aw bW (gi (aa af (aa af (aa af (aa af ae))))) (aM fM hr T.fW T.eU.kp T.fV aP (aa (pv 0) (aa af ae)))) ae))))))))),?_⟩
 have mf:a8 cm:=a8.of_lt (by lia) (by lia)
 refine ⟨_,rfl,P0,a,ns,16,rfl,pc,hS,by decide,a8.of_lt (by decide) (by decide),fun kd H1 kd0 kd1 s1 p1=>?_⟩
 have h_:aZ K (er P0 H1) a (ns.map V.int):=ag.seq s1 hS;have iE:=ht.mono s1;unfold gK at iE;by_cases z:q=0
 ·subst z
  rw [yv] at iE;refine ⟨_,rfl,td,_,_,_,rfl,rfl,.of (gJ _ _ iE),rfl,rfl,false,by decide +kernel,cE ?_⟩
  refine ⟨_,rfl,_,_,rfl,rfl,_,rfl,cu (fun _=>?_) (fun _=>?_)⟩
  ·refine ⟨by show 2≤sizeLine;decide,fun r nr=>?_⟩
   have np:=p1.ne nr;exact k _ 0 1 _ (s1.trans (aQ.of (aO nr))) (p1.mono (aO nr)) (.bA (qy np az) ⟨by decide,by decide⟩ (by show Int.natAbs 0≤F;lia) (by show Int.natAbs 1≤F;lia))
  refine ⟨_,rfl,rfl,_,rfl,cu (fun _=>?_) (fun _=>?_)⟩
  ·refine ⟨_,rfl,P0,a,ns,2,rfl,p1,h_,by decide,a8.of_lt (by decide) (by decide),fun sg H2 sg0 sg1 s2 p2=>?_⟩
   refine ⟨_,_,rfl,rfl,.inl ⟨by decide,by decide⟩,_,_,rfl,rfl,_,rfl,_,rfl,P0,a,ns,cm,rfl,p2,ag.seq s2 h_,f1,mf,fun tp H3 ZF ZG s3 p3=>?_⟩
   refine ⟨_,_,rfl,rfl,.inl ⟨by lia,by lia⟩,?_⟩
   refine ⟨_,rfl,_,rfl,_,rfl,P0,a,ns,cm,rfl,p3,ag.seq s3 (ag.seq s2 h_),f1,mf,fun bt H4 bt0 bt1 s4 p4=>?_⟩;refine ⟨_,_,rfl,rfl,_,_,rfl,(show 1+bt≠0 by lia),a8.of_lt (by lia) (by lia),fun r H5 s5 i5=>?_⟩
   have b1:((1-2*sg)*tp).natAbs≤F:=by
    rcases (show sg=0∨sg=1 by lia) with rfl | rfl
    ·rw [show (1-2*(0:Int))*tp=tp by lia];lia
    ·rw [show (1-2*(1:Int))*tp=-tp by lia];lia
   refine k _ _ _ H5 (s1.trans (s2.trans (s3.trans (s4.trans (aQ.of s5))))) (p4.mono s5) ((Ks (B:=F) i5 (show 1≤1+bt by lia) b1 (by lia)).er (H':=H5) (p4.mono s5))
  ·refine ⟨_,rfl,P0,a,ns,9,rfl,p1,h_,by decide,a8.of_lt (by decide) (by decide),fun tp H2 ZF ZG s2 p2=>?_⟩
   refine ⟨_,_,rfl,rfl,by show 4≤sizeLine;decide,fun l nl=>?_⟩
   have nP:=p2.ne nl;have sl:ag H2 (upd H2 l (.lst [.int 1,.int 1,.int 2,.int 3])):=aO nl;have el:upd H2 l (.lst [.int 1,.int 1,.int 2,.int 3]) l=some (.lst [.int 1,.int 1,.int 2,.int 3]):=az;have pl:=p2.mono sl;have pH:aZ K (er P0 (upd H2 l (.lst [.int 1,.int 1,.int 2,.int 3]))) a (ns.map V.int):=ag.seq (nK sl) (ag.seq s2 h_);generalize upd H2 l (.lst [.int 1,.int 1,.int 2,.int 3])=H3 at sl el pl pH ⊢;refine ⟨_,rfl,P0,a,ns,4,rfl,pl,pH,by decide,a8.of_lt (by decide) (by decide),fun r H4 r0 r1 s4 p4=>?_⟩
   obtain ⟨b,zC,b1,b3⟩:∃b:Int,d5 ([.int 1,.int 1,.int 2,.int 3]:List V) r=some (.int b)∧1≤b∧b≤3:=by
    rcases (show r=0∨r=1∨r=2∨r=3 by lia) with rfl | rfl | rfl | rfl
    ·exact ⟨1,rfl,by decide,by decide⟩
    ·exact ⟨1,rfl,by decide,by decide⟩
    ·exact ⟨2,rfl,by decide,by decide⟩
    ·exact ⟨3,rfl,by decide,by decide⟩
   refine ⟨l,_,_,_,rfl,rfl,.of (s4.at nP el),zC,_,_,rfl,by lia,a8.of_lt (by lia) (by lia),fun r' H5 s5 i5=>?_⟩
   exact k _ _ _ H5 (s1.trans (s2.trans ((aQ.of sl).trans (s4.trans (aQ.of s5))))) (p4.mono s5) ((Ks (B:=F) i5 b1 (show (tp-4).natAbs≤_ by lia) (by lia)).er (H':=H5) (p4.mono s5))
 ·rw [uo z] at iE
  obtain ⟨q2,q3,q4⟩:=hq.resolve_left z;refine ⟨_,rfl,td,_,_,_,rfl,rfl,.of (gJ _ _ iE),rfl,rfl,true,by decide +kernel,eF ?_⟩
  refine ⟨_,rfl,_,_,rfl,rfl,_,rfl,cu (fun _=>?_) (fun _=>?_)⟩;·exact k _ 0 1 H1 s1 p1 (.rem (by decide) (by lia) q3)
  ·refine ⟨_,rfl,_,rfl,td,_,_,_,rfl,rfl,.of (gJ _ _ iE),rfl,P0,a,ns,q,rfl,p1,h_,by lia,a8.of_lt (by lia) (by lia),fun r H2 r0 r1 s2 p2=>?_⟩
   exact k _ r 1 H2 (s1.trans s2) p2 (.rem r0 r1 q3)
theorem ZH:bG ["n","aim"] ["n","aim"] (aN BA):=bQ
theorem OK(T:Txt K mg t):a_ P w K mg base (dO P w) 1 t.qQ t.uU ["n","aim"] (V7 t.kT):=by
 have S:=ZH;refine T.sM.eM S (fun _ _ _ _ H _ _ _ hr h L=>?_);obtain ⟨n,a,xs,rfl,ea,kE,k⟩:=h;refine ⟨_,(ax (bV (bN kq (bP di rfl T.cZ c_ (aa (pv 1) ae)) (pv 0)) (ax (nB L rfl m6 T.zd rfl T.y9 (aa fc ae))) b7)),?_⟩;refine ⟨_,rfl,a,xs,rfl,.inl (.of ea),_,rfl,rfl,_,rfl,cu (fun fI=>?_) (fun fI=>?_)⟩
 ·have fI:xs.length≠n:=fun z=>by
   have:(xs.length:Int)=(n:Int):=by lia
   rw [iW,dC this] at fI;cases fI
  exact ⟨by show 1≤sizeLine;decide,kE fI⟩
 ·have heq:xs.length=n:=by
   by_cases z:(xs.length:Int)=(n:Int);·lia
   ·exact absurd (by rw [iW,eC z];rfl) fI
  exact k heq
theorem ZI:bG ["world","table","order","aim","told","work","others","answer"] ["world","table","order","aim"] (aN Ca):=bQ
theorem ZJ(T:Txt K mg t):a_ P w K mg base b8 9 t.rY t.vD ["world","table","order","aim"] (V0 t.aW):=by
 have S:=ZI;refine T.wO.cC S (fun _ _ _ _ H _ _ _ hr h=>?_);obtain ⟨z,a,d,e,q,B,X,n,ay,o,M,D,av,rfl,hw,hq,hT,N3,ln,n1,jx,wd,ed,ho,eW,am,kS,kO⟩:=h;have s_:=hr.units;have lo:=gL ho
 refine ⟨_,(aq (p_ (aM (OK T) hr T.FH T.sM.kp T.FG iU (aa (bP di rfl T.cZ c_ (aa (pv 1) ae)) (aa (pv 3) ae))))
  (aq (putL 4 S.nd (aM (Yt T) hr T.M_ T.wL.kp T.M9 aP (aa (pv 0) (aa (pv 1) (aa (pv 2) ae)))))
  (aq (putL 5 S.nd (aw a7 (pv 4) af))
  (aq (putL 6 S.nd (aw a7 (pv 4) af))
  (aq (bV (bN QF (aw a7 (pv 4) af) ng) (ax (aT (eE (aa fc (aa (aw a7 (pv 4) af) (aa (aM (YI T) hr T.Nd T.wN.kp T.Nc aP (aa (pv 0) (aa (pv 5) (aa (pv 6) (aa (pv 2) (aa (aw a7 (pv 4) af) ae)))))) ae)))))) b7)
  (aq (putL 7 S.nd (aM (N6 T) hr T.FQ T.sS.kp T.FP aP (aa (pv 0) (aa (pv 5) (aa (pv 6) (aa (pv 2) (aa (aM (YD T) hr T.Nb T.wM.kp T.Na aP (aa (pv 0) (aa (pv 5) (aa (pv 6) (aa (pv 2) (aa (pv 3) ae)))))) ae)))))))
  (ax (aT (eE (aa fc (aa (pv 7) (aa (bP (Ke (K:=K) rfl) rfl T.F0 boot_sum (aa (iu (N:=["each"]) (ρ:=(fun σ=>[])) (fP [] rfl) rfl (gh (pv 6)) (fun _ _ _=>.nil) (fun _ _ _=>(aM (Yb T) hr T.M6 T.wJ.kp T.M5 aP (aa (bP (Kj (K:=K)) rfl T.cZ c_ (aa (pv 0) ae)) ae)))) ae)) ae)))))))))))),?_⟩
 obtain ⟨OL,ea,lvT,_⟩:=id hT;have zero:∀a' b',a'<n→b'<n→a'≠b'→¬aL n (eQ n (dq ay) n) a' b'→M a' b'=0:=fun a' b' ha hb ab na=>eW.zero a' b' ha hb (Lz ha hb ab na);have gl:∀{g:Nat→List Nat},(∀p,p<n→ju n o p (g p)∧iY n (eQ n (dq ay) n) o p (g p))→∀p,p<n→(g p).length≤n:=fun{g} dP p hp=>aj (Vt ho (dP p hp).1) (by lia)
 refine eI fun _ hR=>⟨_,rfl,a,OL,rfl,.inl (.of ea),_,rfl,OL.length,e,_,rfl,am.row,fun ne=>absurd (by rw [aG,cK];lia) ne,fun _=>hR _ _ ?_⟩
 refine eI fun _ hR=>dB ⟨_,rfl,_,rfl,_,rfl,z,a,d,q,B,X,n,ay,o,M,D,rfl,hw,hq,hT,N3,ln,n1,jx,wd,ed,ho,eW,fun k hk gd dv tp wk ot H1 rs ls vf g s1 d6 pk=>hR _ _ ?_,fun gd tp wk ot H1 rs ls vf g s1 d6 pk=>hR _ _ ?_⟩
 ·clear hR
  have ht:o[k]<n:=(dY ho).mp (dD hk);have it:o.idxOf o[k]=k:=mE (iA ho) hk;obtain ⟨dz,hz⟩:=id hw;refine eI fun _ hR=>dB ⟨_,rfl,tp,_,_,_,rfl,rfl,.of d6,rfl,hR _ _ ?_⟩;refine eI fun _ hR=>dB ⟨_,rfl,tp,_,_,_,rfl,rfl,.of d6,rfl,hR _ _ ?_⟩;refine eI fun _ hR=>⟨_,rfl,tp,_,_,_,rfl,rfl,.of d6,rfl,rfl,true,by simp,eF (jr ⟨_,rfl,tp,_,_,_,rfl,rfl,.of d6,rfl,_,rfl,_,rfl,_,rfl,_,rfl,_,rfl,tp,_,_,_,rfl,rfl,.of d6,rfl,z,wk,ot,d,q,X,n,k,o[k],eQ n (dq ay) n,o,M,D,rs,ls,vf,g,rfl,⟨dz,s1 _ _ hz⟩,hq,jx,pk.tab,pk.qG,pk.gO,pk.ok,s1 _ _ ed,ho,ht,it,gd,eW.dn,zero,eW.X1,eW.gP,eW.bd,fun p l hp hl=>am.bt g (gl pk.ok) k o[k] p l (by lia) hp hl,fun p=>am.bm k o[k] p (by lia),fun r lv H2 s2 nr er F2=>⟨by show 3≤sizeLine;decide,fun lO oj=>?_⟩⟩)⟩
  have dQ:=s1.trans s2;exact kS k hk gd dv lO r lv _ (dQ.trans (aO oj)) (none_of s1 nr) (none_of dQ oj) az ((aO oj) _ _ er) fun i hi=>(F2 i hi).mono (aO oj)
 ·clear hR
  obtain ⟨dz,hz⟩:=id hw;refine eI fun _ hR=>dB ⟨_,rfl,tp,_,_,_,rfl,rfl,.of d6,rfl,hR _ _ ?_⟩;refine eI fun _ hR=>dB ⟨_,rfl,tp,_,_,_,rfl,rfl,.of d6,rfl,hR _ _ ?_⟩;refine eI fun _ hR=>⟨_,rfl,tp,_,_,_,rfl,rfl,.of d6,rfl,rfl,false,by simp,cE (hR _ _ ?_)⟩
  refine eI fun _ hR=>dB ⟨_,rfl,_,rfl,_,rfl,_,rfl,_,rfl,_,rfl,_,rfl,_,rfl,_,rfl,z,wk,ot,d,e,q,X,n,eQ n (dq ay) n,o,M,D,rs,ls,vf,g,av,rfl,⟨dz,s1 _ _ hz⟩,hq,n1,jx,pk.tab,pk.qG,pk.gO,pk.ok,s1 _ _ ed,ho,s1 _ _ am.row,fun i hi=>(am.qG i hi).mono s1,gd,eW.dn,zero,eW.X1,eW.gP,eW.bd,am.bl,fun r1 ZK H2 s2 nr1 ZL F1=>?_⟩;refine ⟨z,wk,ot,d,r1,q,X,n,o,sT M D o n,sU M D o n,rs,ls,vf,g,ZK,sL M o n n,sW M D o n,dM M (cO o n) n,fun _=>aK M (cO o n),rS M o g (cO o n) n fun _=>aK M (cO o n),fun p _=>D p*aK M (cO o (o.idxOf p))*aK M (cO o n),rfl,⟨dz,s2 _ _ (s1 _ _ hz)⟩,hq,jx,pk.tab.mono s2,fun i j hi hj=>(pk.qG i j hi hj).mono s2,fun i j _ _=>eW.bd n i j (aE _),⟨s2 _ _ pk.gO.1,fun p hp=>s2 _ _ (pk.gO.2 p hp)⟩,s2 _ _ (s1 _ _ ed),iA ho,fun p hp=>⟨(dY ho).mp hp,fun j hj=>⟨(pk.ok p ((dY ho).mp hp)).1.lt j hj,fun zz=>by have:=(pk.ok p ((dY ho).mp hp)).1.la j hj;rw [zz] at this;lia⟩⟩,fun k' p mJ j hj zz=>?_,ZL,F1,eW.X1,eW.gP,VU hq ho gd eW.dn zero pk.ok (fun p l hp hl=>am.bo g (gl pk.ok) p l hp hl) am.bc,fun r lv H3 s3 nr er F3=>hR _ _ ?_⟩
  ·have Gu:=(b6.mp mJ).1
   have ip:o.idxOf p=k':=by
    have:=mE (iA ho) Gu
    rwa [(b6.mp mJ).2] at this
   have pn:p<n:=(dY ho).mp (gT mJ);have YO:=(pk.ok p pn).1.la j hj;have:=((uC ho).mp zz).2;lia
  ·have eV:=s1.trans (s2.trans s3)
   have GV:uy H3 ot n ls g:=⟨s3 _ _ (s2 _ _ pk.gO.1),fun p hp=>s3 _ _ (s2 _ _ (pk.gO.2 p hp))⟩;have xc:((List.range n).map fun p=>V.ref (ls p)).length=n:=by rw [aG,cK]
   refine jr ⟨_,rfl,?_⟩;dsimp only;refine V1 (qx (xs:=(List.range n).map fun p=>V.ref (ls p)) (fun R h=>⟨_,rfl,ot,rfl,⟨_,.of GV.1⟩,h _ _ (ag.refl _) (mq (.of GV.1))⟩) (by rw [xc];exact gG (by lia)) (fun _ i y _=>y=.int (((g i).length:Int)*(g i).length+3*(g i).length+1)) (fun _ _ _ _ _ _ h _ _=>h) ?_ ?_)
   ·intro D' k x hx Hc R sc _ kc
    have hk:k<n:=by
     have:=(b6.mp hx).1
     rwa [xc] at this
    have ex:x=.ref (ls k):=by rw [cB,pL hk] at hx;exact (Option.some.inj hx).symm
    subst ex;have lg:=gl pk.ok k hk;refine ⟨_,rfl,ls k,_,rfl,.inl (.of (sc _ _ (GV.2 k hk))),(g k).length,by rw [aG];rfl,by lia,kc _ Hc (ag.refl _) rfl⟩
   ·intro D' ys Hc nD' sc dX oh ZM
    rw [xc] at dX;have ey:ys=((List.range n).map fun i=>((g i).length:Int)*(g i).length+3*(g i).length+1).map V.int:=by
     refine ke (by simp [dX]) fun i h1 h2=>?_
     rw [gC,gC,jC];exact oh i _ (gW h1)
    have es:((List.range n).map fun i=>((g i).length:Int)*(g i).length+3*(g i).length+1).sum=((E4 n g:Nat):Int):=by
     unfold E4 Lx;generalize List.range n=l;clear ey oh dX
     induction l with
     | nil=>rfl
     | cons x l ih=>rw [cX,dF,cX,dF,ih];push_cast;rfl
    refine ⟨D',_,rfl,.of (by rw [ZM,ey]),?_⟩
    rw [es];refine ⟨by show 3≤sizeLine;decide,fun lO oj=>?_⟩
    have gR:=eV.trans sc;exact kO gd lO r lv g _ (gR.trans (aO oj)) (none_of (s1.trans s2) nr) (none_of gR oj) pk.ok az ((aO oj) _ _ (sc _ _ er)) fun i hi=>((F3 i hi).mono sc).mono (aO oj)
theorem ZN:bG ["world","row","aim","n","wholes","pairs","back","much","aims","answer"] ["world","row","aim"] (aN BH):=bQ
theorem ZO(T:Txt K mg t):a_ P w K mg base (dO P w) 7 t.qY t.u4 ["world","row","aim"] (WE t.aW):=by
 have S:=ZN;have OM:=YU (P:=P) (w:=w) (base:=base) T;refine T.wa.eM S (fun _ _ _ _ H vs _ _ hr h L=>?_);obtain ⟨z,a,m,q,ps,D,f,T',h,as,Da,fa,rfl,⟨dz,hd⟩,hq,hA,GI,Fl,Fj,hM,kW,kk,ZP⟩:=h;obtain ⟨us,em,ZQ,_⟩:=id hM;have lu:us.length=h+1:=by rw [ZQ,kW.len]
 refine ⟨_,(aq (putL 3 S.nd (aM (Oc T) hr T.FJ T.sN.kp T.FI (lD L) (aa (pv 1) ae)))
  (aq (p_ (aM (OK T) hr T.FH T.sM.kp T.FG (lD L) (aa (pv 3) (aa (pv 2) ae))))
  (aq (putL 4 S.nd (fH (pv 0) T.cS T.yZ OM (hr.mono (by decide)) T.FU .nil aP (aa (pv 1) ae)))
  (aq (putL 5 S.nd (aM (Zc T) hr T.Mo T.vZ.kp T.Mn aP (aa (pv 0) (aa (aw a7 (pv 4) af) ae))))
  (aq (putL 6 S.nd (aw a7 (aw bW (pv 5) (lq lA af)) af))
  (aq (putL 7 S.nd (aw a7 (aw bW (pv 5) (lq lA af)) af))
  (aq (bV (bN fo (pv 7) af) (ax (aT (eE (aa fc (aa (bP di rfl T.cZ c_ (aa (pv 5) ae)) (aa (aM (Y0 T) hr T.Md T.vU.kp T.Mc aP (aa (pv 0) (aa (aM (Oa T) hr T.FF T.sJ.kp T.FE aP (aa (pv 0) (aa (pv 6) (aa af (aa (aw bW (pv 6) (lq lA af)) ae))))) (aa (pv 3) ae)))) ae)))))) b7)
  (aq (putL 8 S.nd (fH (pv 0) T.cS T.yZ OM (hr.mono (by decide)) T.FU .nil aP (aa (pv 2) ae)))
  (aq (putL 9 S.nd (aM (Zl T) hr T.Mq T.v_.kp T.Mp aP (aa (pv 0) (aa (aw a7 (pv 4) af) (aa (pv 5) (aa (aw a7 (pv 8) af) ae))))))
  (ax (aT (eE (aa fc (aa (aM (Oa T) hr T.FF T.sJ.kp T.FE aP (aa (pv 0) (aa (pv 9) (aa (aw a7 (pv 4) af) (aa (au eN (pv 7) (aw a7 (pv 8) af)) ae))))) ae)))))))))))))),?_⟩
 obtain ⟨vs,ea,lv,fv⟩:=id hA;have lp:=GI.len;have dc:=GI.dc;have nb:¬qH vs.length:=fun e=>by rcases e with e | e <;> lia
 refine ⟨_,rfl,a,vs,rfl,ea,by lia,fun hb=>absurd hb nb,fun hg=>?_⟩
 rw [show (vs.length+1) / 2=h+1 by lia]
 dsimp only [bH];refine ⟨_,rfl,_,rfl,h+1,m,us,rfl,em,fun e=>absurd lu e,fun _=>?_⟩;refine ⟨_,rfl,z,dz,_,rfl,hd,fK (by decide +kernel),_,rfl,z,a,q,ps,10 ^ 150,D,rfl,⟨dz,hd⟩,hq,hA,by lia,GI.ok,GI.dvd,aE _,by decide +kernel,aj GI.bD (by decide +kernel),fun v H1 ts b s1 hw wd=>?_⟩
 obtain ⟨tp,l,rfl,d6,el,nl⟩:=hw;obtain ⟨GB,ZR⟩:=GI.bd hq hA.yI wd;have lt:ts.length=2*h+1:=by rw [wd.len,lp]
 dsimp only [bH];refine ⟨_,rfl,_,rfl,tp,_,_,_,rfl,rfl,.of d6,rfl,z,l,q,ts,_,_,h,rfl,⟨dz,s1 _ _ hd⟩,hq,el,lt,GB,ZR,fun l' cA fF bF mF H2 s2 nl' tw PL ZS=>?_⟩;have dQ:=s1.trans s2;have ln:=PL.len;have ON:cA.length-1<cA.length:=by lia
 obtain ⟨⟨p,f0,b0,ev,ep,ef,eb,_⟩,last,I⟩:=PL.at' (cA.length-1) cA[cA.length-1] (by simp [ON])
 have OO:d5 cA (-1)=some (.ref p):=by exact Wy (by lia) (by rw [←ev];simp [ON])
 rw [show cA.length-1+1=cA.length by lia] at I
 dsimp only [bH];refine ⟨_,rfl,_,rfl,l',cA,_,.ref p,rfl,rfl,.of tw,OO,p,_,_,_,rfl,rfl,.of ep,rfl,?_⟩;dsimp only [bH];refine ⟨_,rfl,_,rfl,l',cA,_,.ref p,rfl,rfl,.of tw,OO,p,_,_,_,rfl,rfl,.of ep,rfl,?_⟩;dsimp only [bH];refine ⟨_,rfl,rfl,_,rfl,cu (fun h0=>?_) (fun h0=>?_)⟩
 ·have og:mF (cA.length-1)=0:=by simpa using h0
  rw [og] at I;have lf:=I.lf;have lb:=I.lb;have k1:=I.k1;have rep:=LL wd lp;have bb:=GB.bs I hq (by lia)
  have b1:1≤(bF (cA.length-1)).length:=by lia
  have OP:Cg q ((bF (cA.length-1)).getD ((bF (cA.length-1)).length-1) 0) (aH (cA.length-1) (bL ts)):=by
   rw [lb];have:=I.b (cA.length-1) (by lia)
   rw [mV,yz k1,kC (bL ts) (cA.length-1) fun m hm=>mI (I.nz m (by lia))] at this
   exact this
  have OQ:¬q∣(bF (cA.length-1)).getD ((bF (cA.length-1)).length-1) 0:=OP.nz (I.nz (cA.length-1) (by lia))
  have OR:=qB bb ((bF (cA.length-1)).length-1);have tF:∀{x:Int},x.natAbs≤10 ^ 160→a8 x:=fun h=>yB (aj h (by decide +kernel))
  have OS:∀{x:Int},x.natAbs≤10 ^ 160→x.natAbs≤10 ^ 230:=fun h=>aj h (by decide +kernel)
  refine ⟨_,rfl,l',cA,rfl,.inl (.of tw),_,rfl,_,rfl,_,rfl,_,rfl,_,rfl,b0,_,_,_,rfl,rfl,.of eb,Uv b1,z,b0,q,1,_,bF (cA.length-1),10 ^ 230,rfl,⟨dz,dQ _ _ hd⟩,hq,eb,by lia,OQ,tF OR,a8.of_lt (by decide) (by decide),fun t ht=>tF (bb t ht),OS OR,fun t ht=>by rw [d7];exact OS (bb t ht),fun rr xs H3 s3 nrr ZT lx wx=>?_⟩
  refine ⟨_,rfl,z,rr,q,xs,10 ^ 230,h+1,rfl,⟨dz,s3 _ _ (dQ _ _ hd)⟩,hq,ZT,by decide +kernel,by lia,by lia,fun mv H4 s4 zD tG=>⟨by show 3≤sizeLine;decide,fun tt nt=>?_⟩⟩
  have eV:=dQ.trans s3;have gR:=eV.trans s4;have st:ag H4 (upd H4 tt (.tup [.str "stops",.int (cA.length:Int),.ref mv])):=aO nt;refine kk tt mv xs cA.length (bL ts) b _ (gR.trans st) (none_of gR nt) (none_of eV zD) az (tG.mono st) ⟨wd.ok,rep,k1,by lia,I.nz,I.Fh,by lia,fun j hj=>?_,GB.grow GI.T2 (aj (uu wd.dvd (mI (GI.ok.nz hq))) GI.bD)⟩
  have w1:=Wo hq OQ (wx j (by lia)) (I.b j hj) OP
  rw [d7] at w1;exact w1
 ·have og:mF (cA.length-1)≠0:=by simpa using h0
  have nn:=I.ne (I.yL og);have OT:cA.length=h+1:=by
   rcases Nat.lt_or_ge cA.length (h+1) with z | z;·exact absurd (ZS z) (nn _ (by lia))
   ·lia
  dsimp only [ja];have hd2:=dQ _ _ hd;refine ⟨_,rfl,z,dz,_,rfl,hd2,fK (by decide +kernel),_,rfl,z,m,q,as,10 ^ 150,Da,rfl,⟨dz,hd2⟩,hq,hM.mono dQ,by rw [kW.len];lia,kW.ok,kW.dvd,aE _,by decide +kernel,aj kW.bD (by decide +kernel),fun v H3 ys c s3 hw om=>?_⟩
  obtain ⟨tq,ly,rfl,OU,ZU,_⟩:=hw;have eV:=dQ.trans s3;have ZV:=hM.yI;have bY:∀x∈ys,x.natAbs≤10 ^ 20:=fun x hx=>by
   obtain ⟨i,hi,rfl⟩:=k6 hx;have cf:i<as.length:=by rw [←om.len];exact hi
   have e:=(om.each i cf).1;have w:=kW.w i (by rw [←kW.len];exact cf)
   rw [getD_at hi,getD_at cf] at e;rw [getD_at cf] at w;exact LD hq (by decide) (ZV _ (dD cf)) e om.ok kW.ok om.dvd w.1 w.2
  have GW:(if q=0 then T' else 1000)≤10 ^ 36:=by
   split
   ·exact Fl
   ·decide +kernel
  have dX:ys.length=h+1:=by rw [om.len,kW.len]
  dsimp only [bH];refine ⟨_,rfl,_,rfl,tp,_,_,_,rfl,rfl,.of ((s2.trans s3) _ _ d6),rfl,_,rfl,_,rfl,tq,_,_,_,rfl,rfl,.of OU,rfl,z,l,l',ly,q,ts,ys,cA,fF,bF,mF,_,h,10 ^ 20,rfl,⟨dz,eV _ _ hd⟩,hq,(s2.trans s3) _ _ el,lt,s3 _ _ tw,PL.mono s3,OT,by rw [show h=cA.length-1 by lia];exact og,ZU,dX,bY,by decide,by decide,aj GW (by decide +kernel),GB,fun ca aY H4 s4 nca ZW AV=>?_⟩
  have GX:mF (cA.length-1)=mF h:=by rw [show cA.length-1=h by lia]
  rw [GX] at I og;rw [OT] at I nn;have gR:=eV.trans s4;have GY:=s3.trans s4;have xh:(mF h).natAbs≤10 ^ 198:=aj (GB.LH I hq (by lia)) (aj (pQ _ (kZ 40 GW)) (by decide +kernel))
  have bb:b.natAbs≤10 ^ 36:=aj (uu wd.dvd (mI (GI.ok.nz hq))) Fj;have bc:c.natAbs≤10 ^ 20:=aj (uu om.dvd (mI (kW.ok.nz hq))) kW.bD;have ba:∀x∈aY,x.natAbs≤10 ^ 182:=fun x hx=>by
   by_cases z:q=0;·exact aj (AV.b z x hx) (by decide +kernel)
   ·exact aj (jX hq z (AV.ra z x hx)) (by decide +kernel)
  have OV:(mF h*c).natAbs≤10 ^ 218:=by rw [b_];exact aj (cq xh bc) (by decide +kernel)
  have zE:∀{x:Int},x.natAbs≤10 ^ 260→a8 x:=fun h=>yB (aj h (by decide +kernel))
  have nm:¬q∣mF h:=I.yL og;dsimp only [bH];refine ⟨_,rfl,_,rfl,_,rfl,tp,_,_,_,rfl,rfl,.of ((s2.trans GY) _ _ d6),rfl,_,rfl,_,rfl,tq,_,_,_,rfl,rfl,.of (s4 _ _ OU),rfl,_,_,rfl,rfl,⟨zE (aj (mP (eY Int.natAbs GX)) (aj xh (by decide +kernel))),zE (aj bc (by decide +kernel))⟩,z,ca,q,b,mF h*c,aY,10 ^ 260,by rw [GX];rfl,⟨dz,gR _ _ hd⟩,hq,ZW,by rw [AV.la];lia,yt hq nm (om.ok.nz hq),zE (aj OV (by decide +kernel)),zE (aj bb (by decide +kernel)),fun x hx=>zE (aj (ba x hx) (by decide +kernel)),aj OV (by decide +kernel),fun x hx=>by rw [b_];exact aj (cq (ba x hx) bb) (by decide +kernel),fun mv xs H5 s5 zD tG lx wx=>⟨by show 2≤sizeLine;decide,fun tt nt=>?_⟩⟩
  have C4:=gR.trans s5;have st:ag H5 (upd H5 tt (.tup [.str "one",.ref mv])):=aO nt;have la:=AV.la;exact ZP tt mv xs (bL ts) b _ (C4.trans st) (none_of C4 nt) (none_of gR zD) az (tG.mono st) (WG hq lp dc wd.ok om.ok (LL wd lp) (fun i hi=>(om.each i (by rw [kW.len];exact hi)).1) AV nn (by lia) (fun j hj=>wx j (by lia)) (fun d=>aj (GB.r d) GW) bb ba xh bc)
theorem ZX:bG ["row","i","many","start"] ["row","i","many"] (aN yR):=bQ
theorem ZY(T:Txt K mg t):a_ P w K mg base b8 1 t.pe t.qS ["row","i","many"] V8:=by
 have S:=ZX;refine T.mK.cC S (fun _ _ _ _ H vs _ _ hr h=>?_);obtain ⟨a,q,ps,B,n,i,rfl,hA,lp,n1,jx,hi,k⟩:=h
 refine ⟨_,(aq (fJ 3 S.nd (au dU (au t4 (bP di rfl T.cZ c_ (aa (pv 0) ae)) af) (pv 1)))
  (ax (aT (iu (N:=["j","row","start"]) (ρ:=(fun σ=>[σ[0]?.join,σ[3]?.join])) (fP [0,3] rfl) rfl (lh rfl T.iZ (aa (pv 2) ae)) (fun _ _ _=>.nil) (fun _ _ _=>(aw (nH (K:=K)) (pv 1) (au gZ (pv 2) (pv 0)))))))),?_⟩
 obtain ⟨vs,ea,lv,fv⟩:=id hA;refine ⟨_,rfl,a,vs,rfl,.inl (.of ea),_,_,rfl,rfl,⟨by decide,by decide⟩,_,rfl,_,_,rfl,rfl,?_⟩
 dsimp only [bH];refine jr (qx (xs:=(List.range n).map fun i:Nat=>V.int (0+(i:Int))) (fun R h=>⟨_,rfl,(n:Int),rfl,by lia,by lia,h _ _ (ag.refl _) (by rw [e9];exact ym)⟩) (by rw [aG,cK];exact gG (by lia)) (fun _ j y Hx=>bC B Hx q y (ps.getD (ps.length / 2+i-j) o1).1 (ps.getD (ps.length / 2+i-j) o1).2) (fun _ _ _ _ _ _ h1 e f=>h1.cm e f) ?_ ?_)
 ·intro D j v hj Hc R sc _ kc
  obtain ⟨iy,rfl⟩:=Eo hj;have hx:ps.length / 2+i-j<vs.length:=by lia
  refine ⟨_,rfl,_,rfl,_,rfl,_,_,rfl,rfl,a,vs,_,vs[ps.length / 2+i-j],rfl,rfl,.of (sc _ _ ea),?_,kc _ Hc (ag.refl _) ?_⟩
  ·show d5 vs ((vs.length:Int) / 2+(i:Int)-(j:Int))=_
   rw [show (vs.length:Int) / 2+(i:Int)-(j:Int)=((ps.length / 2+i-j:Nat):Int) by lia]
   exact iS (by simp [hx])
  ·have hp:ps.length / 2+i-j<ps.length:=by lia
   rw [getD_at hp];exact (fv (ps.length / 2+i-j) vs[ps.length / 2+i-j] ps[ps.length / 2+i-j] (by simp [hx]) (by simp [hp])).mono sc
 ·intro D ys Hc nD sc dX hP eD
  rw [aG,cK] at dX;refine k D Hc sc nD ⟨ys,eD,by unfold gu;rw [aG,cK];exact dX,fun j v p h1 h2=>?_⟩
  have hj:j<n:=by rw [←dX];exact (b6.mp h1).1
  unfold gu at h2;rw [cB] at h2;simp [hj] at h2;subst h2;exact hP j v h1
theorem ZZ:bG ["world","row","n"] ["world","row"] (aN BC):=bQ
theorem Z0(T:Txt K mg t):a_ P w K mg base (dO P w) 2 t.qT t.uW ["world","row"] (V9 t.kT):=by
 have S:=ZZ;refine T.vX.eM S (fun _ _ _ _ H vs _ _ hr h L=>?_);obtain ⟨z,a,xs,rfl,ea,Od,kE,k⟩:=h
 refine ⟨_,(aq (fJ 2 S.nd (aM (Oc T) hr T.FJ T.sN.kp T.FI (lD L) (aa (pv 1) ae)))
  (ax (aT (iu (N:=["i","row","n"]) (ρ:=(fun σ=>[σ[1]?.join,σ[2]?.join])) (fP [1,2] rfl) rfl (lh rfl T.iZ (aa (pv 2) ae)) (fun _ _ _=>.nil) (fun _ _ _=>(aM (ZY T) hr T.yW T.mK.kp T.yV aP (aa (pv 1) (aa (pv 0) (aa (pv 2) ae))))))))),?_⟩
 refine ⟨_,rfl,a,xs,rfl,ea,Od,fun hb=>kE hb,fun hg=>?_⟩;obtain ⟨q,ps,B,hA,k⟩:=k hg;obtain ⟨vs,tf,lv,fv⟩:=id hA;have e:=ea.symm.trans tf;cases e;have OW:¬qH ps.length:=by rw [←lv];exact hg
 generalize hn:(ps.length+1) / 2=n at k;have en:(xs.length+1) / 2=n:=by lia
 have jx:n≤40:=Nat.le_of_not_lt fun z=>OW (.inr (by lia))
 have odd:ps.length % 2=1:=by have:¬ps.length % 2=0:=fun z=>OW (.inl z);lia
 rw [en];dsimp only [bH];refine jr (qx (xs:=(List.range n).map fun i:Nat=>V.int (0+(i:Int))) (fun R h=>⟨_,rfl,(n:Int),rfl,by lia,by lia,h _ _ (ag.refl _) (by rw [e9];exact ym)⟩) (by rw [aG,cK];exact gG (by lia)) (fun D i y Hx=>∃x:Addr,y=.ref x∧x≠D∧H x=none∧bK B Hx q x (gu ps n i)) (fun D i y Ha Hb ys ⟨x,h1,h2,h3,vs,e1,e2,e3⟩ e f=>⟨x,h1,h2,h3,vs,f _ _ h2 e1,e2,fun j v p x y=>(e3 j v p x y).cm e f⟩) ?_ ?_)
 ·intro D i v hi Hc R sc ⟨ys,eD⟩ kc
  obtain ⟨cf,rfl⟩:=Eo hi;refine ⟨_,rfl,_,rfl,_,rfl,a,q,ps,B,n,i,rfl,hA.mono sc,by lia,by lia,jx,cf,fun r H' s' nr hR=>kc _ H' s' ⟨r,rfl,(fun e=>by rw [e,eD] at nr;cases nr),none_of sc nr,hR⟩⟩
 ·intro D ys Hc nD sc dX hP eD
  rw [aG,cK] at dX;exact k D Hc sc nD ⟨ys,eD,dX,hP⟩
theorem Z1:bG ["pen","told","first","half","far","row","way","many","k"] ["pen","told","first"] (aN Cm):=bQ
theorem Z2(T:Txt K mg t):a_ P w K mg base b8 4 t.sq t.vM ["pen","told","first"] (WK K):=by
 have S:=Z1;have fM:=GS (P:=P) (w:=w) (base:=base) T;have zF:=Zw (P:=P) (w:=w) (base:=base) (B:=1000) T;refine T.wY.cC S (fun _ _ _ _ H _ _ _ hr h=>?_);obtain ⟨P0,a,td,ns,q,first,rfl,pc,hS,ht,hq,kk⟩:=h
 have hu:=hr.x6
 refine ⟨_,(aq (putL 3 S.nd (aM fM hr T.fW T.eU.kp T.fV aP (aa (pv 0) (aa af ae))))
  (aq (bV (bN fo (aw a7 (pv 1) af) fc) (aq (putL 3 S.nd (aM fM hr T.fW T.eU.kp T.fV aP (aa (pv 0) (aa af ae))))
  (ax (bV (PW.pt (pw_and (QK (pv 2) (fun _=>rfl)) (pw_and1 (bN fo (aM fM hr T.fW T.eU.kp T.fV aP (aa (pv 0) (aa af ae))) af)))) (ax (putL 3 S.nd (aM fM hr T.fW T.eU.kp T.fV aP (aa (pv 0) (aa af ae))))) b7))) b7)
  (aq (fJ 4 S.nd (aw bW (gi (aa (au DE af af) (aa (au DE af af) (aa af (aa af (aa af (aa af ae))))))) (bP (QL rfl) rfl T.NA boot_min (aa (pv 3) (aa af ae)))))
  (aq (fJ 5 S.nd (iu (N:=["k","pen","told","far"]) (ρ:=(fun σ=>[σ[0]?.join,σ[1]?.join,σ[4]?.join])) (fP [0,1,4] rfl) rfl (lh rfl T.iZ (aa (au dU (au fe af (pv 3)) af) ae)) (fun _ _ _=>.nil) (fun _ _ _=>(aM (OJ T) hr T.FT T.sV.kp T.FR aP (aa (pv 1) (aa (pv 2) (aa (pv 3) ae)))))))
  (aq (putL 6 S.nd (aM fM hr T.fW T.eU.kp T.fV aP (aa (pv 0) (aa af ae))))
  (aq (bV (bN fo (pv 6) af) (ax (fJ 5 S.nd (iu (N:=["k","told","pen"]) (ρ:=(fun σ=>[σ[1]?.join,σ[0]?.join])) (fP [1,0] rfl) rfl (lh rfl T.iZ (aa (au dU (au fe af (pv 3)) af) ae)) (fun _ _ _=>.nil) (fun _ _ _=>(aM zF hr T.wU T.mL.kp T.wR aP (aa (pv 1) (aa (au gZ (aM fM hr T.fW T.eU.kp T.fV aP (aa (pv 2) (aa af ae))) af) ae))))))) b7)
  (aq (bV (bN fo (pv 6) af) (aq (fJ 7 S.nd (au dU af (aM fM hr T.fW T.eU.kp T.fV aP (aa (pv 0) (aa (au dU (pv 3) af) ae)))))
  (ax (fJ 5 S.nd (iu (N:=["k","row","many"]) (ρ:=(fun σ=>[σ[5]?.join,σ[7]?.join])) (fP [5,7] rfl) rfl (lh rfl T.iZ (aa (au dU (au fe af (pv 3)) af) ae)) (fun _ _ _=>.nil) (fun _ _ _=>(aw (nH (K:=K)) (pv 1) (au fO (pv 0) (pv 2)))))))) b7)
  (aq (bV (bN fo (pv 6) af) (aq (fJ 7 S.nd (aM fM hr T.fW T.eU.kp T.fV aP (aa (pv 0) (aa (au dU (pv 3) af) ae))))
  (ax (gE e_ rfl (lh rfl T.iZ (aa (au gZ (pv 3) (pv 7)) ae)) (eh (i:=8) S.nd rfl (Or.inl rfl))
   (aq (@jc _ _ _ _ _ _ (aM zF hr T.wU T.mL.kp T.wR aP (aa (pv 1) (aa af ae))) (jb (pv 5) (pv 8) set_list) (by rfl) (by rfl) (by rfl))
  (ax (@jc _ _ _ _ _ _ (aM zF hr T.wU T.mL.kp T.wR aP (aa (pv 1) (aa af ae))) (jb (pv 5) (au gZ (au fe af (pv 3)) (pv 8)) set_list) (by rfl) (by rfl) (by rfl))))))) b7)
  (aq (bV (PW.pt (pw_and (bN (J0 hu) (aw bW (pv 5) (pv 3)) (aM zF hr T.wU T.mL.kp T.wR aP (aa (pv 1) (aa af ae)))) (pw_and1 (bN qh (aM fM hr T.fW T.eU.kp T.fV aP (aa (pv 0) (aa af ae))) af)))) (ax (@jc _ _ _ _ _ _ (aM zF hr T.wU T.mL.kp T.wR aP (aa (pv 1) (aa af ae))) (jb (pv 5) (pv 3) set_list) (by rfl) (by rfl) (by rfl))) b7)
  (ax (aT (pv 5)))))))))))),?_⟩
 refine ⟨_,rfl,P0,a,ns,6,rfl,pc,hS,by decide,a8.of_lt (by decide) (by decide),fun h0 H1 Z3 h01 s1 p1=>?_⟩
 have h_:aZ K (er P0 H1) a (ns.map V.int):=ag.seq s1 hS;have iE:=ht.mono s1;dsimp only [bH];refine gH (yM (fun σ Hx=>∃h:Nat,σ=[some (.ref P0),some (.ref td),some (.bl first),some (.int (h:Int)),none,none,none,none,none]∧aQ P0 H Hx∧cJ Hx P0 a∧(h<40∧(first=false→h≤11))∧(q=0→h≤5)) ?_ ?_)
 ·rintro σ H2 ⟨h,rfl,s2,p2,⟨dc,lM⟩,Z4⟩
  have lQ:aZ K (er P0 H2) a (ns.map V.int):=ag.seq s2 hS;have ht2:=ht.mono s2;have fk:=uH h;dsimp only;refine ⟨_,_,rfl,rfl,⟨by decide,by decide,by decide⟩,_,_,rfl,rfl,⟨by decide,by decide,by decide⟩,by show 6≤sizeLine;decide,fun lf OX=>?_⟩
  have nfP:=p2.ne OX;have sl:ag H2 (upd H2 lf (.lst [.int (10 ^ Int.toNat 12),.int (10 ^ Int.toNat 12),.int 100,.int 100,.int 9,.int 9])):=aO OX;have el:upd H2 lf (.lst [.int (10 ^ Int.toNat 12),.int (10 ^ Int.toNat 12),.int 100,.int 100,.int 9,.int 9]) lf=some (.lst [.int (10 ^ 12),.int (10 ^ 12),.int 100,.int 100,.int 9,.int 9]):=az;generalize upd H2 lf (.lst [.int (10 ^ Int.toNat 12),.int (10 ^ Int.toNat 12),.int 100,.int 100,.int 9,.int 9])=H3 at sl el ⊢;have s3:=s2.trans (aQ.of sl);have p3:=p2.mono sl;have g_:aZ K (er P0 H3) a (ns.map V.int):=ag.seq s3 hS;have xj:=ht.mono s3;refine ⟨_,rfl,_,_,rfl,lf,_,_,.int (cp h:Int),rfl,rfl,.of el,?_,?_⟩
  ·show d5 _ (if (5:Int)<(h:Int) then 5 else (h:Int))=_
   rw [show (if (5:Int)<(h:Int) then 5 else (h:Int))=min (h:Int) 5 by split <;> lia]
   exact Wq h
  dsimp only [bH];simp only [kg,ki];have en:(2*(h:Int)+1)=((2*h+1:Nat):Int):=by lia
  refine gH (dB (Fi (P:=P0) (a:=a) (n:=2*h+1) (fE (show 2*h+1≤100 by lia) (by decide)) (fun R h=>⟨_,rfl,_,_,rfl,rfl,.inl ⟨by decide,by decide⟩,_,_,rfl,rfl,_,eY (fun x=>[V.int x]) en,by lia,by lia,by rw [e9];exact h H3 (aQ.refl _) p3⟩) (fun _ i y Hy=>∃xm:Int×Int,bC (cp h) (er P0 Hy) q y xm.1 xm.2) (fun _ _ _ _ _ _ ⟨xm,h1⟩ e _ f=>⟨xm,h1.ur e f⟩) ?_ ?_))
  ·intro D j hj Hd R sd pd _ nD kd
   exact ⟨_,rfl,_,rfl,_,rfl,P0,a,td,ns,q,(cp h:Int),cp h,rfl,pd,ag.seq sd g_,xj.mono sd,hq,by lia,by lia,fk.1,fk.2,fun v x m H' s' p' hv=>kd v H' s' p' ⟨(x,m),hv⟩⟩
  intro r0 ys H4 OY Z5 s4 p4 dX hP Z6;have GY:=s3.trans s4;have OZ:aZ K (er P0 H4) a (ns.map V.int):=ag.seq s4 g_;have GZ:=xj.mono s4;dsimp only [bH];simp only [kg,ki];refine ⟨_,rfl,P0,a,ns,5,rfl,p4,OZ,by decide,a8.of_lt (by decide) (by decide),fun way H5 w0 w1 s5 p5=>?_⟩
  have xi:=GY.trans s5;have Z7:aZ K (er P0 H5) a (ns.map V.int):=ag.seq s5 OZ;have Z8:=GZ.mono s5;have Z9:lJ P0 H H5 q r0 h (cp h):=⟨OY,none_of s3 Z5,ys,s5.at OY Z6,by lia,fun i v hv=>by obtain ⟨xm,g⟩:=hP i v hv;exact ⟨xm,g.mono s5⟩⟩
  dsimp only [bH];simp only [kg,ki];refine gH (yM (fun σ Hx=>∃r:Addr,σ=[some (.ref P0),some (.ref td),some (.bl first),some (.int (h:Int)),some (.int (cp h:Int)),some (.ref r),some (.int way),none,none]∧aQ P0 H Hx∧cJ Hx P0 a∧lJ P0 H Hx q r h (cp h)) ?_ ?_)
  ·rintro σ H6 ⟨r1,rfl,s6,p6,n1,f1,xk,e1,l1,O0⟩
   have Z_:aZ K (er P0 H6) a (ns.map V.int):=ag.seq s6 hS;have G0:=ht.mono s6;dsimp only;refine gH (yM (fun σ Hx=>∃(r:Addr) (v7:Option V),σ=[some (.ref P0),some (.ref td),some (.bl first),some (.int (h:Int)),some (.int (cp h:Int)),some (.ref r),some (.int way),v7,none]∧aQ P0 H Hx∧cJ Hx P0 a∧lJ P0 H Hx q r h (cp h)) ?_ ?_)
   ·rintro σ H7 ⟨r2,v7,rfl,s7,p7,n2,f2,O1,e2,l2,O2⟩
    have hS7:aZ K (er P0 H7) a (ns.map V.int):=ag.seq s7 hS;have ht7:=ht.mono s7;dsimp only;refine gH (yM (fun σ Hx=>∃(r:Addr) (v7 v8:Option V),σ=[some (.ref P0),some (.ref td),some (.bl first),some (.int (h:Int)),some (.int (cp h:Int)),some (.ref r),some (.int way),v7,v8]∧aQ P0 H Hx∧cJ Hx P0 a∧lJ P0 H Hx q r h (cp h)) ?_ ?_)
    ·rintro σ H8 ⟨r3,v7,v8,rfl,s8,p8,n3,f3,tH,e3,l3,G3⟩
     have hS8:aZ K (er P0 H8) a (ns.map V.int):=ag.seq s8 hS;have ht8:=ht.mono s8;have hh:h<tH.length:=by lia
     obtain ⟨xm,g⟩:=G3 h tH[h] (by simp [hh])
     dsimp only;refine gH (yM (fun σ Hx=>σ=[some (.ref P0),some (.ref td),some (.bl first),some (.int (h:Int)),some (.int (cp h:Int)),some (.ref r3),some (.int way),v7,v8]∧aQ P0 H Hx∧cJ Hx P0 a∧lJ P0 H Hx q r3 h (cp h)) ?_ ?_)
     ·rintro σ H9 ⟨rfl,s9,p9,n4,f4,ys4,e4,l4,hP4⟩
      obtain ⟨ps,hR,Gr⟩:=Kt (qy n4 e4) hP4;exact ⟨_,rfl,kk r3 ps h H9 s9 p9 f4 n4 dc lM Z4 (by lia) hR⟩
     ·intro R hR
      have gf:∀Hx,aQ P0 H8 Hx→cJ Hx P0 a→R [some (.ref P0),some (.ref td),some (.bl first),some (.int (h:Int)),some (.int (cp h:Int)),some (.ref r3),some (.int way),v7,v8] Hx:=fun Hx sx px=>hR _ _ ⟨rfl,s8.trans sx,px,n3,f3,tH,sx.at n3 e3,l3,fun i v hv=>by obtain ⟨xm,g⟩:=G3 i v hv;exact ⟨xm,g.mono sx⟩⟩
      refine ⟨_,rfl,_,rfl,r3,tH,_,tH[h],rfl,rfl,.of e3,iS (by simp [hh]),?_⟩
      refine ⟨_,rfl,td,q,0,rfl,ht8.mono gJ,hq,by decide,by decide,fun v0 H9 s9 ho=>?_⟩
      have AW:bC 1000 H9 q v0 0 1:=by
       have e:iw q 0=(0,1):=by unfold iw;split <;> simp
       rw [e] at ho;exact ho
      refine Kq ((g.mono gJ).mono s9) AW ⟨_,rfl,cu (fun hz0=>?_) (fun hz0=>?_)⟩
      ·refine ⟨_,rfl,P0,a,ns,3,rfl,p8.mono s9,ag.seq (nK s9) hS8,by decide,a8.of_lt (by decide) (by decide),fun c Oh c0 c1 pG G4=>⟨_,_,rfl,rfl,_,rfl,cu (fun _=>?_) (fun _=>?_)⟩⟩
       ·have O3:=((aQ.of s9).trans pG).at n3 e3
        have O4:=s8.trans ((aQ.of s9).trans pG);refine ⟨_,rfl,td,q,1,rfl,(ht.mono O4).mono gJ,hq,by decide,by decide,fun v1 C2 hV hv=>?_⟩
        refine ⟨_,rfl,_,rfl,r3,tH,_,h,rfl,rfl,hV _ _ O3,(by show g8 tH.length (h:Int)=_;unfold g8;rw [ai (by lia),ai (by lia),e9]),?_⟩
        obtain ⟨a1,a2,a3⟩:=lJ.put (a:=a) (i:=h) n3 f3 (hV _ _ O3) l3 (fun i v hv=>by obtain ⟨xm,g⟩:=G3 i v hv;exact ⟨xm,(g.mono ((aQ.of s9).trans pG)).mono (nK hV)⟩) (O4.trans (aQ.of hV)) (G4.mono hV) (xm:=iw q 1) ((Bo (F:=cp h) hv (by show Int.natAbs 1≤_;lia) (by lia)).er (H':=C2) (G4.mono hV))
        exact hR _ _ ⟨rfl,a1,a2,a3⟩
       ·exact gf _ ((aQ.of s9).trans pG) G4
      ·exact gf _ (aQ.of s9) (p8.mono s9)
    ·intro R hR
     refine ⟨_,rfl,rfl,_,rfl,cu (fun _=>?_) (fun _=>?_)⟩
     ·refine ⟨_,rfl,_,rfl,_,_,rfl,rfl,P0,a,ns,(h:Int)+1,rfl,p7,hS7,by lia,a8.of_lt (by lia) (by lia),fun m0 H8 m00 m01 s8 p8=>?_⟩
      have tI:=s7.trans s8;dsimp only [bH];refine ⟨_,rfl,_,rfl,_,_,rfl,rfl,(h:Int)-m0,rfl,by lia,by lia,?_⟩
      refine DA (fun i σ Hc=>∃v8:Option V,σ=[some (.ref P0),some (.ref td),some (.bl first),some (.int (h:Int)),some (.int (cp h:Int)),some (.ref r2),some (.int way),some (.int m0),v8]∧aQ P0 H Hc∧cJ Hc P0 a∧lJ P0 H Hc q r2 h (cp h)) ⟨_,rfl,tI,p8,n2,f2,O1,s8.at n2 e2,l2,fun i v hv=>by obtain ⟨xm,g⟩:=O2 i v hv;exact ⟨xm,g.mono s8⟩⟩ ?_ ?_
      ·rintro i σ Hc hi ⟨v8,rfl,sc,C6,nX,fX,ys,eX,lX,hX⟩
       have cf:(i:Int)<(h:Int)-m0:=by lia
       refine ⟨_,rfl,td,q,0,rfl,(ht.mono sc).mono gJ,hq,by decide,by decide,fun v1 H9 s9 hv=>?_⟩
       refine ⟨_,rfl,_,rfl,r2,ys,_,i,rfl,rfl,s9 _ _ eX,(by show g8 ys.length (0+(i:Int))=_;rw [oC];unfold g8;rw [ai (by lia),ai (by lia),e9]),?_⟩
       obtain ⟨a1,a2,_,_,zs,eZ,lZ,hZ⟩:=lJ.put (a:=a) (i:=i) nX fX (s9 _ _ eX) lX (fun i v hv=>by obtain ⟨xm,g⟩:=hX i v hv;exact ⟨xm,g.mono (nK s9)⟩) (sc.trans (aQ.of s9)) (C6.mono s9) (xm:=iw q 0) ((Bo (F:=cp h) hv (by show Int.natAbs 0≤_;lia) (by lia)).er (H':=H9) (C6.mono s9))
       generalize upd H9 r2 (.lst (ys.set i v1))=Oh at a1 a2 eZ hZ ⊢;refine ⟨_,rfl,td,q,0,rfl,(ht.mono a1).mono gJ,hq,by decide,by decide,fun v2 C2 hV hv2=>?_⟩
       refine ⟨_,rfl,_,rfl,_,_,rfl,rfl,.inl ⟨by decide,by decide⟩,_,rfl,_,_,rfl,rfl,r2,zs,_,2*h-i,rfl,rfl,hV _ _ eZ,(by show g8 zs.length (2*(h:Int)-(0+(i:Int)))=_;rw [show 2*(h:Int)-(0+(i:Int))=((2*h-i:Nat):Int) by lia];unfold g8;rw [ai (by lia),ai (by lia),e9]),?_⟩
       obtain ⟨b1,b2,b3⟩:=lJ.put (a:=a) (i:=2*h-i) nX fX (hV _ _ eZ) lZ (fun i v hv=>by obtain ⟨xm,g⟩:=hZ i v hv;exact ⟨xm,g.mono (nK hV)⟩) (a1.trans (aQ.of hV)) (a2.mono hV) (xm:=iw q 0) ((Bo (F:=cp h) hv2 (by show Int.natAbs 0≤_;lia) (by lia)).er (H':=C2) (a2.mono hV))
       exact ⟨_,rfl,b1,b2,b3⟩
      ·rintro σ Hc ⟨v8,rfl,sc,C6,rX⟩
       exact hR _ _ ⟨r2,_,_,rfl,sc,C6,rX⟩
     ·exact hR _ _ ⟨r2,_,_,rfl,s7,p7,n2,f2,O1,e2,l2,O2⟩
   ·intro R hR
    refine ⟨_,rfl,rfl,_,rfl,cu (fun _=>?_) (fun _=>?_)⟩
    ·refine ⟨_,rfl,_,rfl,_,_,rfl,rfl,P0,a,ns,(h:Int)+1,rfl,p6,Z_,by lia,a8.of_lt (by lia) (by lia),fun m0 H7 m00 m01 s7 p7=>?_⟩
     refine ⟨_,_,rfl,rfl,?_⟩;have O5:=s6.trans s7;have e17:=s7.at n1 e1;dsimp only [bH];refine dB (Fi (P:=P0) (a:=a) (n:=2*h+1) (fE (show 2*h+1≤100 by lia) (by decide)) (fun R h=>⟨_,rfl,_,_,rfl,rfl,.inl ⟨by decide,by decide⟩,_,_,rfl,rfl,_,eY (fun x=>[V.int x]) en,by lia,by lia,by rw [e9];exact h H7 (aQ.refl _) p7⟩) (fun _ i y Hy=>∃xm:Int×Int,bC (cp h) (er P0 Hy) q y xm.1 xm.2) (fun _ _ _ _ _ _ ⟨xm,h1⟩ e _ f=>⟨xm,h1.ur e f⟩) ?_ ?_)
     ·intro D j hj Hd R sd pd _ nD kd
      have em:((0+(j:Int)) % (1+m0))=((j % (m0.toNat+1):Nat):Int):=by
       rw [show (0+(j:Int))=(j:Int) by lia,show 1+m0=((m0.toNat+1:Nat):Int) by lia]
       exact (Int.natCast_emod _ _).symm
      have hx:j % (m0.toNat+1)<xk.length:=fE (Nat.mod_le _ _) (by lia)
      obtain ⟨xm,g⟩:=O0 (j % (m0.toNat+1)) xk[j % (m0.toNat+1)] (by simp [hx])
      refine ⟨_,rfl,_,rfl,_,rfl,_,_,rfl,rfl,(show (0:Int)<1+m0 by lia),r1,xk,_,xk[j % (m0.toNat+1)],rfl,rfl,.of (sd.at n1 e17),?_,kd _ Hd (aQ.refl _) pd ⟨xm,(g.mono s7).mono sd⟩⟩
      show d5 xk ((0+(j:Int)) % (1+m0))=_;rw [em];exact iS (by simp [hx])
     ·intro D ys Hx nD fD sx px dX hP eD
      exact hR _ _ ⟨D,_,rfl,O5.trans sx,px,nD,none_of O5 fD,ys,eD,dX,hP⟩
    ·exact hR _ _ ⟨r1,_,rfl,s6,p6,n1,f1,xk,e1,l1,O0⟩
  ·intro R hR
   refine ⟨_,rfl,rfl,_,rfl,cu (fun _=>?_) (fun _=>?_)⟩
   ·refine dB (Fi (P:=P0) (a:=a) (n:=2*h+1) (fE (show 2*h+1≤100 by lia) (by decide)) (fun R h=>⟨_,rfl,_,_,rfl,rfl,.inl ⟨by decide,by decide⟩,_,_,rfl,rfl,_,eY (fun x=>[V.int x]) en,by lia,by lia,by rw [e9];exact h H5 (aQ.refl _) p5⟩) (fun _ i y Hy=>∃xm:Int×Int,bC (cp h) (er P0 Hy) q y xm.1 xm.2) (fun _ _ _ _ _ _ ⟨xm,h1⟩ e _ f=>⟨xm,h1.ur e f⟩) ?_ ?_)
    ·intro D j hj Hd R sd pd _ nD kd
     refine ⟨_,rfl,_,rfl,P0,a,ns,3,rfl,pd,ag.seq sd Z7,by decide,a8.of_lt (by decide) (by decide),fun c H6 c0 c1 s6 p6=>⟨_,_,rfl,rfl,td,q,c-1,rfl,((Z8.mono sd).mono s6).mono gJ,hq,by lia,by decide,fun v H' s' hv=>kd v H' (s6.trans (aQ.of s')) (p6.mono s') ⟨_,(Bo (F:=cp h) hv (by lia) (by lia)).er (H':=H') (p6.mono s')⟩⟩⟩
    ·intro D ys Hx nD fD sx px dX hP eD
     exact hR _ _ ⟨D,rfl,xi.trans sx,px,nD,none_of xi fD,ys,eD,dX,hP⟩
   ·exact hR _ _ ⟨r0,rfl,xi,p5,Z9⟩
 ·intro R hR
  unfold gK at iE;by_cases z:q=0
  ·subst z
   rw [yv] at iE;refine ⟨_,rfl,td,_,_,_,rfl,rfl,.of (gJ _ _ iE),rfl,rfl,false,by decide +kernel,cE ?_⟩
   obtain ⟨h,rfl⟩:=xK Z3;exact hR _ _ ⟨h,rfl,s1,p1,⟨by lia,fun _=>by lia⟩,fun _=>by lia⟩
  ·rw [uo z] at iE
   refine ⟨_,rfl,td,_,_,_,rfl,rfl,.of (gJ _ _ iE),rfl,rfl,true,by decide +kernel,eF ?_⟩
   refine ⟨_,rfl,P0,a,ns,12,rfl,p1,h_,by decide,a8.of_lt (by decide) (by decide),fun h1 H2 h10 lM s2 p2=>?_⟩
   have lQ:aZ K (er P0 H2) a (ns.map V.int):=ag.seq s2 h_;have dQ:=s1.trans s2;obtain ⟨h,rfl⟩:=xK h10;have gf:∀Hx,aQ P0 H Hx→cJ Hx P0 a→R [some (.ref P0),some (.ref td),some (.bl first),some (.int (h:Int)),none,none,none,none,none] Hx:=fun Hx sx px=>hR _ _ ⟨h,rfl,sx,px,⟨by lia,fun _=>by lia⟩,fun e=>absurd e z⟩
   dsimp only [bH];refine ⟨_,rfl,first,rfl,?_⟩
   cases first with
   | false=>exact cE (gf _ dQ p2)
   | true=>
    refine eF ⟨_,rfl,P0,a,ns,8,rfl,p2,lQ,by decide,a8.of_lt (by decide) (by decide),fun h2 H3 h20 h21 s3 p3=>⟨rfl,_,rfl,cu (fun _=>?_) (fun _=>?_)⟩⟩
    ·refine ⟨_,rfl,P0,a,ns,40,rfl,p3,ag.seq s3 lQ,by decide,a8.of_lt (by decide) (by decide),fun h4 H4 dc h41 s4 p4=>?_⟩
     obtain ⟨h',rfl⟩:=xK dc;exact hR _ _ ⟨h',rfl,dQ.trans (s3.trans s4),p4,⟨by lia,fun e=>nomatch e⟩,fun e=>absurd e z⟩
    ·exact gf _ (dQ.trans s3) p3
theorem O6{te:TE}{σ:St}{H:Hp}{R:VK}(M:V→Hp→Prop)(h1:∀R':VK,(∀x H,M x H→R' x H)→te σ H R')(h2:∀x H,M x H→R x H):te σ H R:=h1 R h2
theorem aak:bG ["script","pen","k","told","world","row","many","aim","found","due"] ["script"] (aN Cn):=bQ
theorem aal(T:Txt K mg t):a_ P w K mg base b8 12 t.pf t.su ["script"] (AN K):=by
 have S:=aak;have aam:=Xt (P:=P) (w:=w) (base:=base) T;refine T.wZ.cC S (fun _ _ _ s H vs Q _ hr h=>?_);obtain ⟨a,ns,rfl,hS,hlen,kQ⟩:=h;have s_:=hr.units;have hu:=hr.x6
 refine ⟨_,(aq (fJ 1 S.nd (gi (aa (pv 0) (aa af (aa af ae)))))
  (aq (gE e_ rfl (lh rfl T.iZ (aa af ae)) (eh (i:=2) S.nd rfl (Or.inl rfl))
   (aq (bV (PW.pt (pw_and (bN qh (pv 2) af) (pw_and1 (bN Ak (aw bW (pv 1) af) (bP di rfl T.cZ c_ (aa (pv 0) ae)))))) (ax P_) b7)
  (aq (fJ 3 S.nd (aM (ZD T) hr T.Np T.wX.kp T.Nn aP (aa (pv 1) ae)))
  (aq (putL 4 S.nd (Q9 T.CF aam (hr.mono (by decide)) rfl T.Nw T.Nu .nil iU (aa (pv 3) ae)))
  (aq (putL 5 S.nd (aM (Z2 T) hr T.Nr T.wY.kp T.Nq aP (aa (pv 1) (aa (pv 3) (aa i_ ae)))))
  (aq (putL 6 S.nd (au dU (au t4 (bP di rfl T.cZ c_ (aa (pv 5) ae)) af) af))
  (aq (AX (i0:=7) (N:=["turn","pen","told"]) (ρ:=(fun σ=>[σ[1]?.join,σ[3]?.join])) (fP [1,3] rfl) rfl S.nd rfl (Or.inl rfl) (lh rfl T.iZ (aa (pv 6) ae)) (fun _ _ _=>.nil) (fun _ _ _=>(aM (OJ T) hr T.FT T.sV.kp T.FR aP (aa (pv 1) (aa (pv 2) (aa af ae))))))
  (aq (putL 8 S.nd (aM (ZO T) hr T.Ms T.wa.kp T.Mr iU (aa (pv 4) (aa (jK oM rfl T.jZ boot_list (aa (pv 5) ae)) (aa (jK oM rfl T.jZ boot_list (aa (pv 7) ae)) ae)))))
  (aq (putL 9 S.nd (aM (ZJ T) hr T.Ng T.wO.kp T.Nf aP (aa (pv 4) (aa (aM (Z0 T) hr T.Mj T.vX.kp T.Mi iU (aa (pv 4) (aa (jK oM rfl T.jZ boot_list (aa (pv 5) ae)) ae))) (aa (jK (JS rfl) rfl T.jZ boot_list (aa (jK JR rfl T.iZ JT (aa (pv 6) ae)) ae)) (aa (jK oM rfl T.jZ boot_list (aa (pv 7) ae)) ae))))))
  (aq (bV (PW.pt (pw_or (l5 (iO (bP (iV (K:=K)) rfl T.iD boot_isinstance (aa (pv 8) (aa (iM (v:=.ty "tuple") rfl T.sY boot_tuple rfl) ae))))) (pw_or (l5 (iO (bP (iV (K:=K)) rfl T.iD boot_isinstance (aa (pv 9) (aa (iM (v:=.ty "tuple") rfl T.sY boot_tuple rfl) ae))))) (pw_or (bN kr (bP di rfl T.cZ c_ (aa (pv 8) ae)) af) (pw_or1 (bN kq (bP di rfl T.cZ c_ (aa (pv 9) ae)) af)))))) (ax (aT i_)) b7)
  (aq (bV (PW.pt (pw_or (l5 (iO (aM (ZA T) hr T.Nm T.wW.kp T.Nl aP (aa (pv 3) (aa (aw a7 (pv 8) (lq lA af)) ae))))) (pw_or1 (bN kq (bP di rfl T.cZ c_ (aa (aw a7 (pv 8) (lq lA af)) ae)) (pv 6))))) (ax (aT i_)) b7)
  (aq (bV (bN fo (aw a7 (pv 9) af) fc) (ax (putL 9 S.nd (Jo VD (pv 9) Jm (Jn af)))) b7)
  (aq (bV (PW.pt (pw_and (bN fo (bP di rfl T.cZ c_ (aa (pv 8) ae)) af) (pw_and1 (PW.pt (pw_or (l5 (iO (bP (iV (K:=K)) rfl T.iD boot_isinstance (aa (aw a7 (pv 8) af) (aa (iM (v:=.ty "int") rfl T.zb boot_int rfl) ae))))) (pw_or1 (iO (bP (iV (K:=K)) rfl T.iD boot_isinstance (aa (aw a7 (pv 8) af) (aa (iM (v:=.ty "bool") rfl T.za boot_bool rfl) ae)))))))))) (ax (aT i_)) b7)
  (ax (bV (bN (WR (n:=2) s_) (pv 8) (pv 9)) (ax (aT i_)) b7)))))))))))))))
  (ax (aT i_)))),?_⟩
 refine ⟨_,rfl,by show 3≤sizeLine;decide,fun P0 nP=>?_⟩
 have p0:cJ (upd H P0 (.lst [.ref a,.int 0,.int 0])) P0 a:=⟨0,0,az,by decide,by decide⟩
 have O7:aZ K (er P0 (upd H P0 (.lst [.ref a,.int 0,.int 0]))) a (ns.map V.int):=by rw [Kp];exact ag.seq (fun b o e=>qy (gX e nP) e) hS
 generalize upd H P0 (.lst [.ref a,.int 0,.int 0])=H0 at p0 O7 ⊢;refine ⟨4,rfl,by decide,by decide,?_⟩
 refine DA (fun i σ Hc=>∃(v2 v3 v4 v5 v6 v7 v8 v9:Option V),σ=[some (.ref a),some (.ref P0),v2,v3,v4,v5,v6,v7,v8,v9]∧aQ P0 H0 Hc∧cJ Hc P0 a) ⟨_,_,_,_,_,_,_,_,rfl,aQ.refl _,p0⟩ ?_ ?_
 ·rintro i σ Hc hi ⟨v2,v3,v4,v5,v6,v7,v8,v9,rfl,sT,pc⟩
  have h_:aZ K (er P0 Hc) a (ns.map V.int):=ag.seq sT O7;refine gH (Wv (fun Q hQ=>?_) ?_ ?_)
  ·obtain ⟨x,y,eP,_⟩:=id pc
   exact ⟨_,rfl,_,_,rfl,rfl,_,rfl,cu (fun _=>⟨_,rfl,P0,_,_,_,rfl,rfl,.of eP,rfl,_,rfl,a,ns.map V.int,rfl,.inl (gJ.seq h_),_,_,rfl,rfl,_,rfl,hQ _⟩) (fun _=>hQ _)⟩
  ·exact kQ _
  dsimp only [ja];refine ⟨_,rfl,P0,a,ns,rfl,pc,h_,fun td q H1 hq s1 p1 iE=>?_⟩;refine ⟨_,rfl,fun z dz nz O8 ne=>⟨z,dz,td,lH q,rfl,az,?_,fun _=>⟨rfl,?_⟩,fun hg=>absurd ((TR hq).symm.trans hg) (by decide)⟩⟩
  ·have e:=gJ _ _ iE
   rw [a9 (gX e nz),a9 (gX e O8)];exact e
  have sz:ag H1 (upd (upd (upd H1 dz (.own z)) z (.ins t.aW dz [])) z (.ins t.aW dz [("prime",(lH q).prime)])):=fun b o e=>by rw [a9 (gX e nz),a9 (gX e nz),a9 (gX e O8)];exact e
  have C7:dj t.aW (upd (upd (upd H1 dz (.own z)) z (.ins t.aW dz [])) z (.ins t.aW dz [("prime",(lH q).prime)])) z q:=⟨dz,by rw [az,Wu]⟩
  generalize (upd (upd (upd H1 dz (.own z)) z (.ins t.aW dz [])) z (.ins t.aW dz [("prime",(lH q).prime)]))=H2 at sz C7 ⊢;have p2:=p1.mono sz;have nzP:z≠P0:=fun e=>by obtain ⟨x,y,eP,_⟩:=p2;obtain ⟨d',ez⟩:=C7;rw [e,eP] at ez;cases ez
  have O9:∀{Hx:Hp},aQ P0 H2 Hx→dj t.aW Hx z q:=fun{Hx} s=>by obtain ⟨d',ez⟩:=C7;exact ⟨d',s.at nzP ez⟩
  have ht:gK (er P0 H2) td q:=iE.mono (nK sz);have lQ:aZ K (er P0 H2) a (ns.map V.int):=ag.seq (s1.trans (aQ.of sz)) h_;have sT:aQ P0 H0 H2:=sT.trans (s1.trans (aQ.of sz));refine ⟨_,rfl,_,rfl,P0,a,td,ns,q,_,rfl,p2,lQ,ht,hq,fun r ps h H3 s3 p3 fr nr dc lM h5 lp hR=>?_⟩;have lM:=lM rfl;have g_:aZ K (er P0 H3) a (ns.map V.int):=ag.seq s3 lQ;have xj:=ht.mono s3;obtain ⟨vs,i5,lv,fv⟩:=id hR;have i6:H3 r=some (.lst vs):=gJ _ _ i5;dsimp only [bH];simp only [kg,ki];refine ⟨_,rfl,r,vs,rfl,.inl (.of i6),_,_,rfl,rfl,⟨by decide,by decide⟩,_,_,rfl,rfl,?_⟩
  dsimp only [bH];simp only [kg,ki];rw [show (vs.length:Int) / 2+1=((h+1:Nat):Int) by lia]
  refine gH (dB (Uc (P:=P0) (a:=a) (n:=h+1) (fE (show h+1≤40 by lia) (by decide)) (fun R hk=>⟨_,rfl,((h+1:Nat):Int),rfl,by lia,by lia,by rw [e9];exact hk H3 (aQ.refl _) p3⟩) (fun D _ y Hx=>∃xm:Int×Int,bC 100 (er P0 Hx) q y xm.1 xm.2) (fun _ _ _ _ _ _ ⟨xm,h1⟩ e _ f=>⟨xm,h1.ur e f⟩) ?_ ?_))
  ·intro D i hi Hc R sc pcc _ nD kc
   exact ⟨_,rfl,_,rfl,P0,a,td,ns,q,100,100,rfl,pcc,ag.seq sc g_,xj.mono sc,hq,by decide,by decide,by decide,by decide,fun v x m H' s' p' hv=>kc v H' s' p' ⟨(x,m),hv⟩⟩
  intro am ys H4 nam s4 p4 dX hP GN;obtain ⟨as,hA,uP⟩:=Kt (qy nam GN) hP;have uP:as.length=h+1:=by lia
  have tE:=s4.at nr i6;have xl:bK (cp h) H4 q r ps:=(hR.mono s4).mono gJ;have zG:bK 100 H4 q am as:=hA.mono gJ;have O_:=s3.trans s4;have sT4:=sT.trans O_;have GZ:gK H4 td q:=(xj.mono s4).mono gJ;have xf:dj t.aW H4 z q:=O9 O_;clear hP dX g_ lQ h_ xj ht iE sz C7 O9 i6 i5 fr hR fv;have cps:=xl.yI;have yP:∀p∈ps,¬q∣p.2:=fun p hp=>(xl.Kw p hp).nz hq;have Fy:∀p∈as,¬q∣p.2:=fun p hp=>(zG.Kw p hp).nz hq;obtain ⟨Bs,M,Ds,C8,B1,hM,out,hD⟩:=W5 hq lM h5 lp xl uP zG;obtain ⟨D,f,T0,TI⟩:=Wt hq dc h5 lp xl;obtain ⟨Da,fa,AI⟩:=WJ hq h5 uP zG;obtain ⟨us,Pa,lu,fu⟩:=id zG;obtain ⟨_,Pb,_,G5⟩:=id xl;rw [tE] at Pb;cases Pb;have cy:(List.range (h+1)).Perm (List.range (h+1)):=List.Perm.refl _;dsimp only [bH];simp only [kg,ki];refine eI fun _ hQ=>dB (O6 (fun x Hx=>∃tp:Addr,x=.ref tp∧ag H4 Hx∧qL q ps as h Hx tp) (fun R' zH=>?_) ?_)
  ·refine ⟨_,rfl,_,rfl,r,vs,rfl,.inl (.of tE),fun hd G6=>?_⟩
   have oo:ag H4 (upd H4 hd (.lst vs)):=aO G6;have zI:bK (cp h) (upd H4 hd (.lst vs)) q hd ps:=⟨vs,az,lv,fun i v p h1 h2=>(G5 i v p h1 h2).mono oo⟩;generalize upd H4 hd (.lst vs)=H5 at oo zI ⊢;refine ⟨_,rfl,am,us,rfl,.inl (.of (oo _ _ Pa)),fun ha G7=>?_⟩;have lS:ag H5 (upd H5 ha (.lst us)):=aO G7;have zJ:bK 100 (upd H5 ha (.lst us)) q ha as:=⟨us,az,lu,fun i v p h1 h2=>((fu i v p h1 h2).mono oo).mono lS⟩;generalize upd H5 ha (.lst us)=H6 at lS zJ ⊢;have tJ:=oo.trans lS;refine ⟨z,hd,ha,q,ps,D,f,T0,h,as,Da,fa,rfl,xf.mono tJ,hq,(zI.mono lS).weak (aj (uH h).2 (by decide +kernel)),TI.g,TI.Fl,TI.Fj,zJ.weak (by decide +kernel),AI,fun tp mv xs k r' b' Hy sy gz zD d6 tG SN=>zH _ _ ⟨tp,rfl,tJ.trans sy,.lN mv xs k r' b' d6 (tG.weak (tQ (by decide) (by decide))) SN⟩,fun tp mv xs r' b' Hy sy gz zD d6 tG SN=>zH _ _ ⟨tp,rfl,tJ.trans sy,.one mv xs r' b' d6 tG SN⟩⟩
  rintro x H5 ⟨fd,rfl,C9,FD⟩;refine hQ _ _ ?_;simp only [kg,ki];refine eI fun _ hQ=>dB (O6 (fun x Hx=>∃tp:Addr,x=.ref tp∧ag H5 Hx∧uO q (h+1) (eK (h+1) Bs) M Hx tp) (fun R' zH=>?_) ?_)
  ·have CZ:=C9 _ _ tE
   refine ⟨_,rfl,_,rfl,_,rfl,r,vs,rfl,.inl (.of CZ),fun hd G6=>?_⟩;have oo:ag H5 (upd H5 hd (.lst vs)):=aO G6;have Pc:=C9.trans oo;have zI:bK (cp h) (upd H5 hd (.lst vs)) q hd ps:=⟨vs,az,lv,fun i v p h1 h2=>(G5 i v p h1 h2).mono Pc⟩;have Pd:upd H5 hd (.lst vs) hd=some (.lst vs):=az;generalize upd H5 hd (.lst vs)=H6 at oo Pc zI Pd ⊢;refine ⟨.ref z,hd,vs,rfl,Pd,by lia,fun hb=>absurd hb (by unfold qH;lia),fun _=>⟨q,ps,cp h,zI,fun tb H7 s7 ntb hT=>?_⟩⟩
   rw [show (ps.length+1) / 2=h+1 by lia] at hT
   have hT:lI (cp h) H7 q tb ((List.range (h+1)).map (gu ps (h+1))):=by
    obtain ⟨ts,e1,e2,e3⟩:=hT;refine ⟨ts,e1,by rw [aG,cK,e2],fun i v rs hv nY=>?_⟩
    obtain ⟨x,g1,_,_,g2⟩:=e3 i v hv;rw [cB] at nY;have hi:i<h+1:=by rw [←e2];exact (b6.mp hv).1
    simp [hi] at nY;exact ⟨x,g1,nY▸g2⟩
   have G8:=oo.trans s7;refine ⟨_,rfl,((h+1:Nat):Int),rfl,fun rp nrp=>?_⟩;have Pe:ag H7 (upd H7 rp (.k_ 0 ((h+1:Nat):Int))):=aO nrp;have Pf:upd H7 rp (.k_ 0 ((h+1:Nat):Int)) rp=some (.k_ 0 ((h+1:Nat):Int)):=az;generalize upd H7 rp (.k_ 0 ((h+1:Nat):Int))=H8 at Pe Pf ⊢;refine ⟨rp,h+1,rfl,Pf,by lia,fun od nod=>?_⟩
   have Pg:ag H8 (upd H8 od (.lst (mh (h+1)))):=aO nod;have Ph:upd H8 od (.lst (mh (h+1))) od=some (.lst (mh (h+1))):=az;generalize upd H8 od (.lst (mh (h+1)))=H9 at Pg Ph ⊢;have C_:=Pe.trans Pg;have Pj:=C9.trans (G8.trans C_);refine ⟨_,rfl,am,us,rfl,.inl (.of (Pj _ _ Pa)),fun ha G7=>?_⟩;have lS:ag H9 (upd H9 ha (.lst us)):=aO G7;have G9:=Pj.trans lS;have Pk:upd H9 ha (.lst us) ha=some (.lst us):=az;have zJ:bK 100 (upd H9 ha (.lst us)) q ha as:=⟨us,az,lu,fun i v p h1 h2=>(fu i v p h1 h2).mono G9⟩;generalize upd H9 ha (.lst us)=Ha at lS G9 Pk zJ ⊢;refine ⟨z,tb,od,ha,q,cp h,eK (h+1) Bs,h+1,(List.range (h+1)).map (gu ps (h+1)),List.range (h+1),M,Ds,_,rfl,xf.mono G9,hq,hT.mono (C_.trans lS),aj (uH h).2 (by decide +kernel),by rw [aG,cK],by lia,by lia,fun qs hqs=>?_,lS _ _ Ph,cy,W7 C8 B1 hM out hD cy (fun p hp z0=>yP p hp (by rw [z0];exact gB q)) lp,W8 C8 B1 hM out hD cy Pk (by lia) uP zJ,fun k hk gd dv tp r' Pl Hx sx Gs gz d6 i5 ew=>zH _ _ ⟨tp,rfl,(G8.trans C_).trans (lS.trans sx),.W_ hk gd dv d6 i5 ew⟩,fun gd tp r' Pl g Hx sx Gs gz gO d6 i5 ew=>zH _ _ ⟨tp,rfl,(G8.trans C_).trans (lS.trans sx),.one gd r' Pl _ d6 i5 ew⟩⟩
   obtain ⟨i,_,rfl⟩:=gc.mp hqs;exact Bm ..
  rintro x H6 ⟨du,rfl,mM,DU⟩;refine hQ _ _ ?_;simp only [kg,ki];have tJ:=C9.trans mM;have B:=Xb hq lp uP C8 yP Fy cps (FD.mono mM) DU;have G0:=GZ.mono tJ;have fin:∀{Hx:Hp},ag H6 Hx→aQ P0 H0 Hx∧cJ Hx P0 a:=fun{Hx} s=>⟨sT4.trans ((aQ.of tJ).trans (aQ.of s)),p4.mono (tJ.trans s)⟩;clear FD DU xl zG C8 hM out hD TI AI fu G5;cases B with
  | lN k mv rr ys e e' l h1 h2=>
   refine ⟨_,rfl,_,_,_,true,rfl,rfl,.of (.tup e),nC,true,rfl,cE ⟨_,rfl,_,_,_,true,rfl,rfl,.of (.tup e'),nC,true,rfl,cE ⟨_,rfl,fd,_,rfl,.inr (.of e),_,_,rfl,rfl,false,rfl,cE ⟨_,rfl,du,_,rfl,.inr (.of e'),rfl,false,by rw [iW];rfl,cE ?_⟩⟩⟩⟩
   dsimp only [ja];obtain ⟨zs,ez,lz,_⟩:=id h1;refine ⟨_,rfl,_,rfl,_,rfl,fd,_,_,_,rfl,rfl,.of e,rfl,td,mv,q,ys,10 ^ 260,rfl,G0,hq,h1,by lia,by decide +kernel,fun H7 s7=>⟨true,rfl,cE ?_⟩⟩
   refine ⟨_,rfl,_,rfl,fd,_,_,_,rfl,rfl,.of (s7 _ _ e),rfl,mv,zs,rfl,.inl (.of (s7 _ _ ez)),_,rfl,rfl,false,?_,cE ?_⟩
   ·rw [show (zs.length:Int)=((h+1:Nat):Int) by lia]
    simp
   dsimp only [ja];refine ⟨_,rfl,du,_,_,_,rfl,rfl,.of (s7 _ _ e'),rfl,rfl,false,by decide +kernel,cE ?_⟩
   dsimp only [ja];refine ⟨_,rfl,fd,_,rfl,.inr (.of (s7 _ _ e)),rfl,true,by rw [iW];rfl,eF ?_⟩
   refine ⟨_,rfl,fd,_,_,_,rfl,rfl,.of (s7 _ _ e),rfl,_,_,_,true,rfl,rfl,.of (.int _),rfl,true,rfl,cE ?_⟩;refine ⟨_,rfl,fd,_,_,_,rfl,rfl,.of (s7 _ _ e),rfl,_,_,_,false,rfl,rfl,.of (.int _),rfl,false,rfl,cE ?_⟩;dsimp only [ja];refine ⟨_,rfl,_,rfl,fd,du,_,_,rfl,rfl,.of (s7 _ _ e),.of (s7 _ _ e'),rfl,fun j x y hx hy=>?_,false,rfl,cE ?_⟩
   ·match j,hx,hy with
    | 0,hx,hy=>cases hx;cases hy;exact .inl ⟨rfl,rfl⟩
    | 1,hx,hy=>cases hx;cases hy;exact .inl ⟨rfl,rfl⟩
    | 2,hx,hy=>cases hx;cases hy;exact L_ hq (h1.mono s7) (h2.mono s7)
    | j+3,hx,hy=>simp at hx
   obtain ⟨f1,f2⟩:=fin s7;exact ⟨_,_,_,_,_,_,_,_,rfl,f1,f2⟩
  | one dd mv rr ys e e' l h1 h2=>
   refine ⟨_,rfl,_,_,_,true,rfl,rfl,.of (.tup e),nC,true,rfl,cE ⟨_,rfl,_,_,_,true,rfl,rfl,.of (.tup e'),nC,true,rfl,cE ⟨_,rfl,fd,_,rfl,.inr (.of e),_,_,rfl,rfl,false,rfl,cE ⟨_,rfl,du,_,rfl,.inr (.of e'),rfl,false,by rw [iW];rfl,cE ?_⟩⟩⟩⟩
   dsimp only [ja];obtain ⟨zs,ez,lz,_⟩:=id h1;refine ⟨_,rfl,_,rfl,_,rfl,fd,_,_,_,rfl,rfl,.of e,rfl,td,mv,q,ys,10 ^ 260,rfl,G0,hq,h1,by lia,by decide +kernel,fun H7 s7=>⟨true,rfl,cE ?_⟩⟩
   refine ⟨_,rfl,_,rfl,fd,_,_,_,rfl,rfl,.of (s7 _ _ e),rfl,mv,zs,rfl,.inl (.of (s7 _ _ ez)),_,rfl,rfl,false,?_,cE ?_⟩
   ·rw [show (zs.length:Int)=((h+1:Nat):Int) by lia]
    simp
   dsimp only [ja];refine ⟨_,rfl,du,_,_,_,rfl,rfl,.of (s7 _ _ e'),rfl,rfl,true,by decide +kernel,eF ?_⟩
   refine ⟨_,rfl,2,rfl,du,_,rfl,.of (s7 _ _ e'),fun p H8 hp=>?_⟩;have ec:jL [V.str (Str.ofString "one"),V.ref rr,V.int dd] none (some 2)=[V.str (Str.ofString "one"),V.ref rr]:=rfl;rw [ec] at hp;rcases hp with ⟨_,_,z⟩ | ⟨np,rfl⟩;·simp at z
   have s8:ag H7 (upd H7 p (.tup [V.str (Str.ofString "one"),V.ref rr])):=aO np;have ep:upd H7 p (.tup [V.str (Str.ofString "one"),V.ref rr]) p=some (.tup [V.str (Str.ofString "one"),V.ref rr]):=az;generalize upd H7 p (.tup [V.str (Str.ofString "one"),V.ref rr])=H8 at s8 ep ⊢;have tI:=s7.trans s8;dsimp only [bH];simp only [kg,ki];refine ⟨_,rfl,fd,_,rfl,.inr (.of (tI _ _ e)),rfl,false,by rw [iW];rfl,cE ?_⟩
   dsimp only [ja];refine ⟨_,rfl,_,rfl,fd,p,_,_,rfl,rfl,.of (tI _ _ e),.of ep,rfl,fun j x y hx hy=>?_,false,rfl,cE ?_⟩
   ·match j,hx,hy with
    | 0,hx,hy=>cases hx;cases hy;exact .inl ⟨rfl,rfl⟩
    | 1,hx,hy=>cases hx;cases hy;exact L_ hq (h1.mono tI) (h2.mono tI)
    | j+2,hx,hy=>simp at hx
   obtain ⟨f1,f2⟩:=fin tI;exact ⟨_,_,_,_,_,_,_,_,rfl,f1,f2⟩
 ·rintro σ Hc ⟨v2,v3,v4,v5,v6,v7,v8,v9,rfl,sT,pc⟩
  exact kQ _
theorem aau{l:PySem.W.OpenLaw}(T:Txt K mg t):∃fd:FuncData,(∀(s:Shared) (v:Value),BindsTo s fd ⟨[v],[]⟩ [("script",v)])∧∀base:Heap,K.In base→base.Ns mainGlobals mg→a_ l.prog w K mg base b8 12 t.pf fd ["script"] (AN K):=by obtain ⟨oc,od,kV,doc,pm,an,bq,ct,gj,e,lk,gg⟩:=T.wZ.ex;refine ⟨t.su,fun s v=>?_,fun base _ _=>aal T⟩;rw [e];exact .of_eq rfl
end
theorem walk{l:PySem.W.OpenLaw}{q:Program}{loose:List Str}{XP:(Str→Option Value)→Heap→Prop}{YP:World→Heap→Prop}{d:DefRec}{K:Params→PySem.W.Frag}(hn:l.most=some 63)(x_:d.params.defaults=[])
  (hY:∀(w:World) (h:Heap),YP w h→(K w.params).In h)
  (F:∀(w:World) (mg:dG) (fa:Addr) (h:Heap),(K w.params).In h→h.Ns mainGlobals mg→mg d.name=some (.ref fa)→
   ∃fd:FuncData,(∀(s:Shared) (u:Value),BindsTo s fd ⟨[u],[]⟩ [("script",u)])∧∀base:Heap,(K w.params).In base→base.Ns mainGlobals mg→a_ l.prog w (K w.params) mg base b8 12 fa fd ["script"] (AN (K w.params))) :
  PySem.W.WalkO q loose XP YP l.row.toRowW d [] (fun f vs=>PySem.call f vs):=
 L2.R4 (n:=63) (k:=12) (x:="script") (CX:=fun _=>b8) (sp:=fun w=>AN (K w.params)) hn (by decide) x_ ⟨rfl,by decide,by decide⟩ hY F (fun _ _ a ns hl _ hS=>⟨a,ns,rfl,hS,hl,fun _=>rfl⟩) fun _ _ _ _ _ z=>z
theorem aav{K:aB}{h:Heap}{mg:dG}(X:K.In h)(G:h.Ns mainGlobals mg)
  {aW:Addr}
  {sI:Addr}
  {jw:Addr}
  {kT:Addr}
  {oa:Addr}
  {n_:Addr} {aaw Pm:Option Addr} {aax:Array (Option Value)} {aay Pn Po Pp G_ Pq:Value}
  {He:Addr} {aaz:Tok} {aaA:Value} {aaB:Option Addr} {aaC:Nat} {aaD:Array (Option Value)}
  {aaE:Tok}
  {aaF:Tok}
  {aaG:Tok}
  {qM qN qO qP qQ qR pe qT qU qV qW qX qY qZ u6 q5 q8 q_ rd rh rj rn rq rz rA rB rC rD rE rF rH rJ rK rN rO rP rQ rR rT rV rW rY rZ r6 r9 r_ se si sj sk sq pf sv sC sD sE sF vS sG:Addr} {uQ uR uS uT uU uV qS uW uX uY uZ u3 u4 u5 yS u7 u9 u_ va vb vc vd ve vg vi vj vk vm vn vo vp vq vt vv vw vx vy vz vA vB vC vD vE vF vG vH vI vJ vK vL vM su vN vO vP vQ vR yU vT:FuncData}
  (Hi:PySem.W.nsIn K mainGlobals "World"=some (some (.ref aW)))
  (Hj:PySem.W.nsIn K mainGlobals "NoWorld"=some (some (.ref sI)))
  (Hl:PySem.W.nsIn K mainGlobals "NoOver"=some (some (.ref jw)))
  (Ho:PySem.W.nsIn K mainGlobals "NoFit"=some (some (.ref kT)))
  (Hq:PySem.W.nsIn K mainGlobals "NoOrder"=some (some (.ref oa)))
  (aaH:mg "padded"=some (.ref qM))
  (vU:aD K "padded" Bw qM uQ)
  (aaI:mg "numbers_of"=some (.ref qN))
  (sJ:aD K "numbers_of" Bx qN uR)
  (aaJ:mg "width"=some (.ref qO))
  (vV:aD K "width" By qO uS)
  (aaK:mg "square_size"=some (.ref qP))
  (vW:aD K "square_size" Bz qP uT)
  (aaL:mg "check_aim"=some (.ref qQ))
  (sM:aD K "check_aim" BA qQ uU)
  (aaM:mg "shifted_size"=some (.ref qR))
  (sN:aD K "shifted_size" BB qR uV)
  (aaN:mg "shifted_row"=some (.ref pe))
  (mK:aD K "shifted_row" yR pe qS)
  (aaO:mg "shifted_table"=some (.ref qT))
  (vX:aD K "shifted_table" BC qT uW)
  (aaP:mg "whole_sum"=some (.ref qU))
  (ph:aD K "whole_sum" BD qU uX)
  (aaQ:mg "next_pair"=some (.ref qV))
  (vY:aD K "next_pair" BE qV uY)
  (aaR:mg "whole_pairs"=some (.ref qW))
  (vZ:aD K "whole_pairs" BF qW uZ)
  (aaS:mg "whole_answer"=some (.ref qX))
  (v_:aD K "whole_answer" BG qX u3)
  (aaT:mg "shifted_undone"=some (.ref qY))
  (wa:aD K "shifted_undone" BH qY u4)
  (aaU:mg "is_whole"=some (.ref qZ))
  (sO:aD K "is_whole" BI qZ u5)
  (aaV:mg "shortened"=some (.ref u6))
  (Cy:aD K "shortened" Fz u6 yS)
  (aaW:mg "common_divisor"=some (.ref q5))
  (lP:aD K "common_divisor" BJ q5 u7)
  (aaX:mg "is_prime"=some (.ref q8))
  (wb:aD K "is_prime" BK q8 u9)
  (aaY:mg "ratio"=some (.ref q_))
  (wc:aD K "ratio" BL q_ u_)
  (aaZ:mg "ratio_plus"=some (.ref rd))
  (we:aD K "ratio_plus" BM rd va)
  (aa0:mg "ratio_minus"=some (.ref rh))
  (wg:aD K "ratio_minus" BN rh vb)
  (aa1:mg "ratio_times"=some (.ref rj))
  (pj:aD K "ratio_times" BO rj vc)
  (aa2:mg "ratio_over"=some (.ref rn))
  (wm:aD K "ratio_over" BP rn vd)
  (aa3:mg "one_bottom"=some (.ref rq))
  (wo:aD K "one_bottom" BQ rq ve)
  (aa4:mg "remainder_back"=some (.ref rz))
  (wq:aD K "remainder_back" BR rz vg)
  (aa5:mg "remainder_over"=some (.ref rA))
  (sR:aD K "remainder_over" BS rA vi)
  (aa6:mg "is_fractions"=some (.ref rB))
  (wu:aD K "is_fractions" BU rB vj)
  (aa7:mg "is_wheel"=some (.ref rC))
  (wz:aD K "is_wheel" BV rC vk)
  (aa8:mg "links_of_place"=some (.ref rD))
  (wA:aD K "links_of_place" BW rD vm)
  (aa9:mg "shape_of"=some (.ref rE))
  (wB:aD K "shape_of" BX rE vn)
  (aa_:mg "neighbours"=some (.ref rF))
  (wC:aD K "neighbours" BY rF vo)
  (aba:mg "is_order"=some (.ref rH))
  (wD:aD K "is_order" BZ rH vp)
  (abb:mg "check_order"=some (.ref rJ))
  (wF:aD K "check_order" B0 rJ vq)
  (abc:mg "turns_of"=some (.ref rK))
  (wG:aD K "turns_of" B2 rK vt)
  (abd:mg "link_all"=some (.ref rN))
  (wH:aD K "link_all" B3 rN vv)
  (abe:mg "later"=some (.ref rO))
  (wI:aD K "later" B4 rO vw)
  (abf:mg "place_deeds"=some (.ref rP))
  (wJ:aD K "place_deeds" B5 rP vx)
  (abg:mg "undo_place"=some (.ref rQ))
  (wK:aD K "undo_place" B6 rQ vy)
  (abh:mg "packed"=some (.ref rR))
  (wL:aD K "packed" B7 rR vz)
  (abi:mg "lowered"=some (.ref rT))
  (wM:aD K "lowered" B8 rT vA)
  (abj:mg "raised"=some (.ref rV))
  (sS:aD K "raised" B9 rV vB)
  (abk:mg "tied_move"=some (.ref rW))
  (wN:aD K "tied_move" B_ rW vC)
  (abl:mg "along"=some (.ref rY))
  (wO:aD K "along" Ca rY vD)
  (abm:mg "_law_e_fill"=some (.ref rZ))
  (wQ:aD K "_law_e_fill" Cb rZ vE)
  (abn:mg "_law_e_next"=some (.ref r6))
  (eU:aD K "_law_e_next" Cc r6 vF)
  (abo:mg "_law_e_low"=some (.ref r9))
  (pz:aD K "_law_e_low" Cd r9 vG)
  (abp:mg "_law_e_of"=some (.ref r_))
  (mL:aD K "_law_e_of" Ce r_ vH)
  (abq:mg "_law_e_is_number"=some (.ref se))
  (wV:aD K "_law_e_is_number" Cf se vI)
  (abr:mg "_law_e_is_row"=some (.ref si))
  (wW:aD K "_law_e_is_row" Ci si vJ)
  (abt:mg "_law_e_world"=some (.ref sj))
  (wX:aD K "_law_e_world" Cj sj vK)
  (abu:mg "_law_e_number"=some (.ref sk))
  (sV:aD K "_law_e_number" Ck sk vL)
  (abv:mg "_law_e_told_row"=some (.ref sq))
  (wY:aD K "_law_e_told_row" Cm sq vM)
  (abw:mg "law"=some (.ref pf))
  (wZ:aD K "law" Cn pf su)
  (CF:Mk K aW sv)
  (yX:dW K "__init__" "World.__init__" Co sv vN)
  (yZ:Meth K aW "as_wholes" sC)
  (yY:dW K "as_wholes" "World.as_wholes" Cp sC vO)
  (sX:Meth K aW "evenly" sD)
  (y1:dW K "evenly" "World.evenly" Cq sD vP)
  (w5:Meth K aW "minus" sE)
  (y3:dW K "minus" "World.minus" Cr sE vQ)
  (Hr:PySem.W.findIn K (.ref aW) "of"=some (some (.ref n_)))
  (Hs:PySem.W.isFn K (.ref n_)=true)
  (xo:K.lookup n_=some ⟨aay,aaw,.func (PySem.W.fnOf "of" "World.of" (jM kR) (gF kR) (aN kR) (.ref He) Pn Po Pp Pm G_ Pq),aax⟩)
  (xq:PySem.W.codeIn K G_ "World.of"=true)
  (tK:PySem.W.keepIn K (.ref n_)=true)
  (xr:K.lookup He=some ⟨aaA,aaB,.seq #[.int 1 aaz] aaC,aaD⟩)
  (y7:Meth K aW "over" sF)
  (y6:dW K "over" "World.over" Cs sF vR)
  (FX:Meth K aW "plus" vS)
  (CH:dW K "plus" "World.plus" FA vS yU)
  (w6:Meth K aW "times" sG)
  (y8:dW K "times" "World.times" Ct sG vT)
  (Ht:PySem.W.plainGet K aW Str.empty=true)
  (Hu:PySem.W.hasDictIn K aW=true)
  (Hv:PySem.W.plainOver K aW=true)
  (Hw:PySem.W.findIn K (.ref aW) "__setattr__"=some (some (.builtin "object.__setattr__")))
  (Hz:PySem.W.findIn K (.ref aW) "prime"=some none)
  (HA:PySem.W.nsIn K mainGlobals "ValueError"=some none)
  (HB:PySem.W.nsIn K mainGlobals "abs"=some none)
  (HC:PySem.W.nsIn K mainGlobals "all"=some none)
  (HD:PySem.W.nsIn K mainGlobals "any"=some none)
  (HE:PySem.W.nsIn K mainGlobals "bool"=some none)
  (HF:PySem.W.nsIn K mainGlobals "enumerate"=some none)
  (HG:PySem.W.nsIn K mainGlobals "int"=some none)
  (HH:PySem.W.nsIn K mainGlobals "isinstance"=some none)
  (HJ:PySem.W.nsIn K mainGlobals "len"=some none)
  (HK:PySem.W.nsIn K mainGlobals "list"=some none)
  (HL:PySem.W.nsIn K mainGlobals "max"=some none)
  (HM:PySem.W.nsIn K mainGlobals "min"=some none)
  (HN:PySem.W.nsIn K mainGlobals "range"=some none)
  (HP:PySem.W.nsIn K mainGlobals "reversed"=some none)
  (HQ:PySem.W.nsIn K mainGlobals "sorted"=some none)
  (HR:PySem.W.nsIn K mainGlobals "sum"=some none)
  (HS:PySem.W.nsIn K mainGlobals "tuple"=some none)
  (HU:PySem.W.nsIn K mainGlobals "zip"=some none)
  (HV:PySem.W.nsIn K mainGlobals "GREATEST_PRIME"=some (some (.int 997 aaE)))
  (HW:PySem.W.nsIn K mainGlobals "LONG"=some (some (.int 2048 aaF)))
  (HX:PySem.W.nsIn K mainGlobals "MOST"=some (some (.int 40 aaG)))
  (HY:PySem.W.excIn K sI [.type "ValueError",.type "Exception",.type "BaseException",.type "object"] "ValueError.__new__"=true)
  (HZ:PySem.W.excIn K jw [.type "ValueError",.type "Exception",.type "BaseException",.type "object"] "ValueError.__new__"=true)
  (H_:PySem.W.excIn K kT [.type "ValueError",.type "Exception",.type "BaseException",.type "object"] "ValueError.__new__"=true)
  (Ia:PySem.W.excIn K oa [.type "ValueError",.type "Exception",.type "BaseException",.type "object"] "ValueError.__new__"=true)
  : ∃t:FC,Txt K mg t:=by
 refine ⟨⟨qM,uQ,qN,uR,qO,uS,qP,uT,qQ,uU,qR,uV,pe,qS,qT,uW,qU,uX,qV,uY,qW,uZ,qX,u3,qY,u4,qZ,u5,u6,yS,q5,u7,q8,u9,q_,u_,rd,va,rh,vb,rj,vc,rn,vd,rq,ve,rz,vg,rA,vi,rB,vj,rC,vk,rD,vm,rE,vn,rF,vo,rH,vp,rJ,vq,rK,vt,rN,vv,rO,vw,rP,vx,rQ,vy,rR,vz,rT,vA,rV,vB,rW,vC,rY,vD,rZ,vE,r6,vF,r9,vG,r_,vH,se,vI,si,vJ,sj,vK,sk,vL,sq,vM,pf,su,sv,vN,sC,vO,sD,vP,sE,vQ,n_,PySem.W.fnOf "of" "World.of" (jM kR) (gF kR) (aN kR) (.ref He) Pn Po Pp Pm G_ Pq,sF,vR,vS,yU,sG,vT,aW,sI,jw,kT,oa⟩,?_⟩
 exact {
  vU:=vU
  Mc:=vU.bS
  Md:=aaH
  sJ:=sJ
  FE:=sJ.bS
  FF:=aaI
  vV:=vV
  Me:=vV.bS
  Mf:=aaJ
  vW:=vW
  Mg:=vW.bS
  Mh:=aaK
  sM:=sM
  FG:=sM.bS
  FH:=aaL
  sN:=sN
  FI:=sN.bS
  FJ:=aaM
  mK:=mK
  yV:=mK.bS
  yW:=aaN
  vX:=vX
  Mi:=vX.bS
  Mj:=aaO
  ph:=ph
  Cv:=ph.bS
  Cw:=aaP
  vY:=vY
  Ml:=vY.bS
  Mm:=aaQ
  vZ:=vZ
  Mn:=vZ.bS
  Mo:=aaR
  v_:=v_
  Mp:=v_.bS
  Mq:=aaS
  wa:=wa
  Mr:=wa.bS
  Ms:=aaT
  sO:=sO
  FK:=sO.bS
  FL:=aaU
  Cy:=Cy
  Xc:=Cy.bS
  Xd:=aaV
  lP:=lP
  sP:=lP.bS
  sQ:=aaW
  wb:=wb
  Mt:=wb.bS
  Mu:=aaX
  wc:=wc
  Mv:=wc.bS
  Mw:=aaY
  we:=we
  Mz:=we.bS
  MA:=aaZ
  wg:=wg
  MB:=wg.bS
  MC:=aa0
  pj:=pj
  Cz:=pj.bS
  CA:=aa1
  wm:=wm
  MD:=wm.bS
  ME:=aa2
  wo:=wo
  MF:=wo.bS
  MG:=aa3
  wq:=wq
  MH:=wq.bS
  MI:=aa4
  sR:=sR
  FN:=sR.bS
  FO:=aa5
  wu:=wu
  MJ:=wu.bS
  MK:=aa6
  wz:=wz
  ML:=wz.bS
  MM:=aa7
  wA:=wA
  MN:=wA.bS
  MO:=aa8
  wB:=wB
  MP:=wB.bS
  MQ:=aa9
  wC:=wC
  MR:=wC.bS
  MS:=aa_
  wD:=wD
  MT:=wD.bS
  MU:=aba
  wF:=wF
  MV:=wF.bS
  MW:=abb
  wG:=wG
  MX:=wG.bS
  MY:=abc
  wH:=wH
  MZ:=wH.bS
  M0:=abd
  wI:=wI
  M3:=wI.bS
  M4:=abe
  wJ:=wJ
  M5:=wJ.bS
  M6:=abf
  wK:=wK
  M7:=wK.bS
  M8:=abg
  wL:=wL
  M9:=wL.bS
  M_:=abh
  wM:=wM
  Na:=wM.bS
  Nb:=abi
  sS:=sS
  FP:=sS.bS
  FQ:=abj
  wN:=wN
  Nc:=wN.bS
  Nd:=abk
  wO:=wO
  Nf:=wO.bS
  Ng:=abl
  wQ:=wQ
  Nh:=wQ.bS
  Ni:=abm
  eU:=eU
  fV:=eU.bS
  fW:=abn
  pz:=pz
  CB:=pz.bS
  CD:=abo
  mL:=mL
  wR:=mL.bS
  wU:=abp
  wV:=wV
  Nj:=wV.bS
  Nk:=abq
  wW:=wW
  Nl:=wW.bS
  Nm:=abr
  wX:=wX
  Nn:=wX.bS
  Np:=abt
  sV:=sV
  FR:=sV.bS
  FT:=abu
  wY:=wY
  Nq:=wY.bS
  Nr:=abv
  wZ:=wZ
  Xe:=wZ.bS
  Nt:=abw
  yX:=yX
  Nu:=yX.bS
  CF:=CF
  yY:=yY
  FU:=yY.bS
  yZ:=yZ
  y1:=y1
  y2:=y1.bS
  sX:=sX
  y3:=y3
  CG:=y3.bS
  w5:=w5
  Nv:=(AR (st:=kR) (i:=1) xo xq tK xr)
  FV:=jQ.binds (ps:=["self","top","bottom"]) (AR (st:=kR) (i:=1) xo xq tK xr) fun s dT kV doc pm an bq ct tk o n us ho hd hl=>match us,hl with | [_,_,_],_=>.of_defaults rfl ho hd rfl rfl
  y4:=jQ.S4 (ps:=["self","top","bottom"]) (AR (st:=kR) (i:=1) xo xq tK xr) fun s dT kV doc pm an bq ct tk o n us ho hd hl=>match us,hl with | [_,_],_=>.of_defaults rfl ho hd rfl rfl
  Xf:=jQ.S6 (ps:=["self","top","bottom"]) (y:="bottom") (AR (st:=kR) (i:=1) xo xq tK xr) fun s dT kV doc pm an bq ct tk o n us ws ho hd hw hl=>match ws,us,hw,hl with | [_],[_,_],_,_=>.of_defaults rfl ho hd rfl rfl
  pA:=⟨Hr,Hs,tK⟩
  y6:=y6
  FW:=y6.bS
  y7:=y7
  CH:=CH
  Xg:=CH.bS
  FX:=FX
  y8:=y8
  CI:=y8.bS
  w6:=w6
  cS:=⟨Ht,Hu,Hv,Hw⟩
  Nw:=bO X G Hi
  iC:=Hz
  Nx:=bO X G Hj
  CJ:=bO X G Hl
  y9:=bO X G Ho
  Ny:=bO X G Hq
  Xh:=gD X G HA
  y_:=gD X G HB
  FY:=gD X G HC
  Nz:=gD X G HD
  za:=gD X G HE
  CK:=gD X G HF
  zb:=gD X G HG
  iD:=gD X G HH
  cZ:=gD X G HJ
  jZ:=gD X G HK
  Xi:=gD X G HL
  NA:=gD X G HM
  iZ:=gD X G HN
  NB:=gD X G HP
  FZ:=gD X G HQ
  F0:=gD X G HR
  sY:=gD X G HS
  zc:=gD X G HU
  NC:=⟨_,bO X G HV,_,rfl⟩
  ND:=⟨_,bO X G HW,_,rfl⟩
  NF:=⟨_,bO X G HX,_,rfl⟩
  NG:=HY
  CL:=HZ
  zd:=H_
  NH:=Ia
 }
end My
namespace PySem.W.Fast
def tw6934183374071845310:Unit:=()
def tw14287082520763116198:Unit:=()
def tw14161158730559519667:Unit:=()
def tw17465769524246457807:Unit:=()
def tw15926507021829939882:Unit:=()
def tw1505193421163789984:Unit:=()
def tw12422019133246332899:Unit:=()
def tw14641606411351033916:Unit:=()
def tw17316876440318201192:Unit:=()
def tw4240146282151488966:Unit:=()
def tw14822959105521979566:Unit:=()
def tw5609187707956787252:Unit:=()
def tw14100517428580821371:Unit:=()
def tw15144866355265391434:Unit:=()
def tw10429475778739149000:Unit:=()
def tw10430568722119082733:Unit:=()
def tw15564941724508421204:Unit:=()
def tw9972298955860242734:Unit:=()
def tw15834963354639792069:Unit:=()
def tw8147549562313691751:Unit:=()
def tw12486740305848845443:Unit:=()
def tw10108467453118389486:Unit:=()
def tw7528139549969825206:Unit:=()
def tw13618031618997436152:Unit:=()
def tw13100681396737814458:Unit:=()
def tw3798685171631523866:Unit:=()
def tw9414003046520788915:Unit:=()
def tw2001301949894237989:Unit:=()
def tw11976338503441741904:Unit:=()
def tw16950320325123171888:Unit:=()
def tw8634604774889082300:Unit:=()
def tw12968504080497592607:Unit:=()
def tw11614904109357119159:Unit:=()
def tw9447738923839575165:Unit:=()
def tw14659882258827513820:Unit:=()
def tw5285173887176810346:Unit:=()
def tw8416421406072001916:Unit:=()
def tw5635822719631455590:Unit:=()
def tw15649930688259090953:Unit:=()
def tw9282547964019656036:Unit:=()
def tw1017528147829427337:Unit:=()
def tw12796742522960166478:Unit:=()
def tw92642666183063444:Unit:=()
def tw3010176583347570486:Unit:=()
def tw1741785758813188943:Unit:=()
def tw6743258295942860298:Unit:=()
def tw7608629563307179968:Unit:=()
def tw6232454517374931351:Unit:=()
def tw9631663620230169158:Unit:=()
def tw15609813860545632056:Unit:=()
def tw12373898089279825433:Unit:=()
def tw8927050909116981411:Unit:=()
def tw2548902200072059557:Unit:=()
def tw14536205115010598835:Unit:=()
def tw17035055036719896511:Unit:=()
def tw18088902896316228331:Unit:=()
def tw16930527680960032994:Unit:=()
def tw1815975713861910509:Unit:=()
def tw16437484506489965990:Unit:=()
def tw428524296454883672:Unit:=()
def tw10873351144480856939:Unit:=()
def tw9313895865169857237:Unit:=()
def tw6419395868589557788:Unit:=()
def tw8731204782344004263:Unit:=()
def tw2173196333681600603:Unit:=()
def tw3057527163380429214:Unit:=()
def tw11973473010390131822:Unit:=()
def tw8358067985696502679:Unit:=()
def tw17326367085654435790:Unit:=()
def tw8680150084892245635:Unit:=()
def tw15877044001170353136:Unit:=()
def tw5693780467703039200:Unit:=()
def tw5431439053748766359:Unit:=()
def tw15309008772024683495:Unit:=()
def tw14073654916654949652:Unit:=()
def tw904491850662998519:Unit:=()
def tw13494782727786490434:Unit:=()
def tw4696741464903484941:Unit:=()
def tw11084237216044630169:Unit:=()
def tw1290587558180581304:Unit:=()
def tw18186765329298208713:Unit:=()
def tw6166252881027320046:Unit:=()
def tw18431415208059283286:Unit:=()
def tw17619396012290129243:Unit:=()
def tw969851448338629207:Unit:=()
def tw13811689134926994606:Unit:=()
def tw8430410931406928850:Unit:=()
def tw9266987947542156597:Unit:=()
def tw15657552883002309707:Unit:=()
def tw6650820689869526737:Unit:=()
def tw1526346690792530439:Unit:=()
def tw11646011737065204622:Unit:=()
def tw9216279939261499308:Unit:=()
def tw16621366321549417542:Unit:=()
def tw6037018281278092758:Unit:=()
def tw11078101139242809115:Unit:=()
def tw7322903124961301356:Unit:=()
def tw16763919533852667507:Unit:=()
def tw17871900513476663557:Unit:=()
def tw11485990670687700359:Unit:=()
def tw9249339005548617225:Unit:=()
def tw12545404381717486950:Unit:=()
def tw14845701669932933800:Unit:=()
def tw2333174059247136442:Unit:=()
def tw16466337353749904752:Unit:=()
def tw14581584893845921678:Unit:=()
def tw7655950679756158018:Unit:=()
def tw1449107740439780350:Unit:=()
def tw10622917605667599578:Unit:=()
def tw7155524837202318917:Unit:=()
def tw4788675283166861520:Unit:=()
def tw13608894648367228210:Unit:=()
def tw10424076148851940271:Unit:=()
def tw4479447097193616111:Unit:=()
def tw13108449557261770939:Unit:=()
def tw7134342935306245600:Unit:=()
def tw8344989246992844651:Unit:=()
def tw5778390601404156675:Unit:=()
def tw2646905038751764960:Unit:=()
def tw4226880472487988760:Unit:=()
def tw5416166596261427232:Unit:=()
def tw17594783317640443588:Unit:=()
def tw9534538566589109117:Unit:=()
def tw16070351384872069984:Unit:=()
def tw3614440621741950480:Unit:=()
def tw14077246844256416720:Unit:=()
def tw15618482002976610575:Unit:=()
def tw1129729448106404572:Unit:=()
def tw6099597509490803687:Unit:=()
def tw7179602922014212582:Unit:=()
def tw7668133902237206906:Unit:=()
def tw10326802449844741711:Unit:=()
def tw13120679758528094273:Unit:=()
def tw5571654598032424444:Unit:=()
def tw16987227295054806850:Unit:=()
def tw11796980294066268534:Unit:=()
def tw11815174226128759935:Unit:=()
def tw8700406391416836520:Unit:=()
def tw3056599273489486379:Unit:=()
def tw18010494764201821761:Unit:=()
def tw12081008268016402375:Unit:=()
def tw10104848459566186968:Unit:=()
def tw12166359066920957272:Unit:=()
def tw4243186570221170677:Unit:=()
def tw12232732375476527236:Unit:=()
def tw658582688670779961:Unit:=()
def tw8437983170407682321:Unit:=()
def tw14376967995827983826:Unit:=()
def tw1106424032300933341:Unit:=()
def tw18046750737542132384:Unit:=()
def tw15538081462456253927:Unit:=()
def tw5592990315980450833:Unit:=()
def tw12294673191218584077:Unit:=()
def tw3995622494061942504:Unit:=()
def tw14000681298904468340:Unit:=()
def tw16772948455180467186:Unit:=()
def tw16647024305699409797:Unit:=()
def tw4930969943920603398:Unit:=()
def tw13746954668978317860:Unit:=()
def tw16809633515671935728:Unit:=()
def tw16005923906644851162:Unit:=()
def tw7687346765436573673:Unit:=()
def tw5426904571618121504:Unit:=()
def tw763212146515765657:Unit:=()
def tw6000305460003676405:Unit:=()
def tw11774270028650894487:Unit:=()
def tw2071484916252818060:Unit:=()
def tw14404629729321052847:Unit:=()
def tw12350655632598424887:Unit:=()
def tw10193390434319847130:Unit:=()
def tw4002417431821023062:Unit:=()
def tw2760262479509135730:Unit:=()
def tw14205389692174342728:Unit:=()
def tw145784413126744454:Unit:=()
def tw876762534594738286:Unit:=()
def tw8518994950990473462:Unit:=()
def tw5512939169264617650:Unit:=()
def tw9763615900275549789:Unit:=()
def tw12449718177867125379:Unit:=()
def tw8734477221394841910:Unit:=()
def tw8426991005219408135:Unit:=()
def tw13516160810519345419:Unit:=()
def tw6512761289025875727:Unit:=()
def tw12726078188026003162:Unit:=()
def tw16162460135250702377:Unit:=()
def tw13704118787538429841:Unit:=()
def tw37253415056300106:Unit:=()
def tw10745909171747051301:Unit:=()
def tw10780112803893805666:Unit:=()
def tw8480640579723768775:Unit:=()
def tw7612625513366047030:Unit:=()
def tw7338841053828809005:Unit:=()
def tw15902075730193467758:Unit:=()
def tw3217931561814785659:Unit:=()
def tw6965252522474474455:Unit:=()
def tw13923586890971079895:Unit:=()
def tw18171995988938154504:Unit:=()
def tw736931068906401504:Unit:=()
def tw16392395138470071254:Unit:=()
def tw4705368217010984177:Unit:=()
def tw16661651014140823866:Unit:=()
def tw12445158028600394811:Unit:=()
def tw8178602920220373907:Unit:=()
def tw12510603805466308188:Unit:=()
def tw11693919850315229359:Unit:=()
def tw3281062975558897846:Unit:=()
def tw9680754789282662007:Unit:=()
def tw15748828360679475862:Unit:=()
def tw11222625704399770337:Unit:=()
def tw6584582621574403229:Unit:=()
def tw7601509673025665443:Unit:=()
def tw7952727171321752481:Unit:=()
def tw9123716916252965000:Unit:=()
def tw1040203373846317709:Unit:=()
def tw14785309353091288086:Unit:=()
def tw6533088458526465865:Unit:=()
def tw12816643859546062801:Unit:=()
def tw18105851353852872745:Unit:=()
def tw74019953999340815:Unit:=()
def tw2657503676676964867:Unit:=()
def tw12731055407014130140:Unit:=()
def tw3968228112207601330:Unit:=()
def tw15362146847985552198:Unit:=()
def tw9303652490340366074:Unit:=()
def tw16137423057331696351:Unit:=()
def tw10834628536321070739:Unit:=()
def tw11633805647485373074:Unit:=()
def tw1404236639935732576:Unit:=()
def tw5683424343269580833:Unit:=()
def tw17878986439486792905:Unit:=()
def tw10892779356791013568:Unit:=()
def tw335986494537847920:Unit:=()
def tw14867008356869702952:Unit:=()
def tw13671974626730443590:Unit:=()
def tw3176322183845527886:Unit:=()
def tw5663307530984970025:Unit:=()
def tw8660464154378966547:Unit:=()
def tw3849230872644603053:Unit:=()
def tw17178188664764698608:Unit:=()
def tw9044659648836798300:Unit:=()
def tw198645616024651879:Unit:=()
def tw12400702194184842862:Unit:=()
def tw16537059334133696489:Unit:=()
def tw18091606246649043572:Unit:=()
def tw6902860226456567903:Unit:=()
def tw10954000497445796069:Unit:=()
def tw7928260734819106824:Unit:=()
def tw727029262939440197:Unit:=()
def tw6873312586717075165:Unit:=()
def tw11538030080963314006:Unit:=()
def tw2987994572918164575:Unit:=()
def tw13773158495465279701:Unit:=()
def tw13481321567644542881:Unit:=()
def tw10155435208753608498:Unit:=()
def tw7293147336333250421:Unit:=()
def tw680434320810918239:Unit:=()
def tw1829651658682824176:Unit:=()
def tw653527092245902370:Unit:=()
def tw6959808568673659750:Unit:=()
def tw9187520654941457697:Unit:=()
def tw15693316230691459200:Unit:=()
def tw10968360284601148218:Unit:=()
def tw9762167651931146420:Unit:=()
def tw3881770505969603802:Unit:=()
def tw8628390743048614455:Unit:=()
def tw4592866662335468348:Unit:=()
def tw8863834731065365148:Unit:=()
def tw16763954643333928026:Unit:=()
def tw12541565235797899518:Unit:=()
def tw13775917882434268391:Unit:=()
def tw735831994370732976:Unit:=()
def tw16174585260254445467:Unit:=()
def tw819664922968157850:Unit:=()
def tw7009097724844741277:Unit:=()
def tw18307389068704527095:Unit:=()
def tw13081160710169299599:Unit:=()
def tw13535484838197103168:Unit:=()
def tw1076754047279081763:Unit:=()
def tw1986720774215267424:Unit:=()
def tw11299766307245582388:Unit:=()
def tw1659180221268085348:Unit:=()
def tw12074996217151859265:Unit:=()
def tw10129610412518854655:Unit:=()
def tw8305058858355678933:Unit:=()
def tw9352005751495372740:Unit:=()
def tw11843439947232874263:Unit:=()
def tw4502008771340939758:Unit:=()
def tw11980351917267338672:Unit:=()
def tw571320173458270528:Unit:=()
def tw14175832384421168651:Unit:=()
def tw10372456169936639952:Unit:=()
def tw12995587826526355964:Unit:=()
def tw8121607684223290354:Unit:=()
def tw15322455784026303818:Unit:=()
def tw16537669128015000369:Unit:=()
def tw209905283500118982:Unit:=()
def tw10381376209671706987:Unit:=()
def tw12721979953816586867:Unit:=()
def tw8988462519316089191:Unit:=()
def tw16553241688909377095:Unit:=()
def tw17263152169520019257:Unit:=()
def tw15834324747998068986:Unit:=()
def tw10505746854071768096:Unit:=()
def tw16411953370480343087:Unit:=()
def tw10360527455269519695:Unit:=()
def tw9273122069859651666:Unit:=()
def tw11294289947107840360:Unit:=()
def tw1161966635394258574:Unit:=()
def tw11851743990579718675:Unit:=()
def tw16714738612514249416:Unit:=()
def tw2638423271286509340:Unit:=()
def tw9478537158725768569:Unit:=()
def tw13829930055823037695:Unit:=()
def tw17727868965943095460:Unit:=()
def tw11646647516945338108:Unit:=()
def tw358429209911475647:Unit:=()
def tw12552836727005922582:Unit:=()
def tw2380812998109740151:Unit:=()
def tw17807701157038319035:Unit:=()
def tw15610299484406762272:Unit:=()
def tw10340687086387993343:Unit:=()
def tw12429218574460707738:Unit:=()
def tw11452987455812264381:Unit:=()
def tw7820968308627079819:Unit:=()
def tw9362216150273468402:Unit:=()
def tw14240913670392438655:Unit:=()
def tw14346909997415670917:Unit:=()
def tw13482389291492924275:Unit:=()
def tw2432605620009948073:Unit:=()
end PySem.W.Fast
open PySem PySem.W PyProof.Rows
set_option maxRecDepth 100000 in
set_option maxHeartbeats 0 in
theorem PySem.Challenge.cw_bandwright_k61_whole_shifted_rows_as_alo_holds : PySem.Challenge.rw_bandwright_k61_whole_shifted_rows_as_alo.Holds := by
 w_on;o_law;k_head;(case hw=>w_witness2)
 k_fill
 refine My.walk (l:=PySem.Challenge.rw_bandwright_k61_whole_shifted_rows_as_alo) rfl rfl (fun w h Y=>PySem.W.kIn_of Y) ?F
 case F=>
  intro w mg fa h KX G ya
  have T:∃t,My.Txt (L2.JH KX) mg t:=by
   dsimp only [L2.JH]
   refine' My.aav KX G ?Hi ?Hj ?Hl ?Ho ?Hq (bO KX G ?abx) (L2.bT (st:=My.Bw) ?aby ?abz ?abA) (bO KX G ?abB) (L2.bT (st:=My.Bx) ?abC ?abD ?abE) (bO KX G ?abF) (L2.bT (st:=My.By) ?abG ?abH ?abI) (bO KX G ?abJ) (L2.bT (st:=My.Bz) ?abK ?abL ?abM) (bO KX G ?abN) (L2.bT (st:=My.BA) ?abO ?abP ?abQ) (bO KX G ?abR) (L2.bT (st:=My.BB) ?abS ?abT ?abU) (bO KX G ?abV) (L2.bT (st:=My.yR) ?abW ?abX ?abY) (bO KX G ?abZ) (L2.bT (st:=My.BC) ?ab0 ?ab1 ?ab2) (bO KX G ?ab3) (L2.bT (st:=My.BD) ?ab4 ?ab5 ?ab6) (bO KX G ?ab7) (L2.bT (st:=My.BE) ?ab8 ?ab9 ?ab_) (bO KX G ?acd) (L2.bT (st:=My.BF) ?ace ?acf ?acg) (bO KX G ?ach) (L2.bT (st:=My.BG) ?aci ?acj ?ack) (bO KX G ?acm) (L2.bT (st:=My.BH) ?acn ?aco ?acp) (bO KX G ?acq) (L2.bT (st:=My.BI) ?acr ?acs ?acu) (bO KX G ?acv) (L2.bT (st:=My.Fz) ?acw ?acy ?acz) (bO KX G ?acA) (L2.bT (st:=My.BJ) ?acB ?acC ?acD) (bO KX G ?acE) (L2.bT (st:=My.BK) ?acF ?acG ?acH) (bO KX G ?acI) (L2.bT (st:=My.BL) ?acJ ?acK ?acL) (bO KX G ?acM) (L2.bT (st:=My.BM) ?acN ?acO ?acP) (bO KX G ?acQ) (L2.bT (st:=My.BN) ?acR ?acS ?acT) (bO KX G ?acU) (L2.bT (st:=My.BO) ?acV ?acW ?acX) (bO KX G ?acY) (L2.bT (st:=My.BP) ?acZ ?ac0 ?ac1) (bO KX G ?ac2) (L2.bT (st:=My.BQ) ?ac3 ?ac4 ?ac5) (bO KX G ?ac6) (L2.bT (st:=My.BR) ?ac7 ?ac8 ?ac9) (bO KX G ?ac_) (L2.bT (st:=My.BS) ?ada ?adb ?ade) (bO KX G ?adf) (L2.bT (st:=My.BU) ?adg ?adh ?adi) (bO KX G ?adk) (L2.bT (st:=My.BV) ?adl ?adm ?adn) (bO KX G ?ado) (L2.bT (st:=My.BW) ?adp ?adq ?ads) (bO KX G ?adt) (L2.bT (st:=My.BX) ?adu ?adv ?adw) (bO KX G ?adx) (L2.bT (st:=My.BY) ?ady ?adz ?adA) (bO KX G ?adB) (L2.bT (st:=My.BZ) ?adC ?adD ?adE) (bO KX G ?adF) (L2.bT (st:=My.B0) ?adG ?adH ?adI) (bO KX G ?adJ) (L2.bT (st:=My.B2) ?adK ?adL ?adM) (bO KX G ?adN) (L2.bT (st:=My.B3) ?adO ?adP ?adQ) (bO KX G ?adR) (L2.bT (st:=My.B4) ?adS ?adT ?adU) (bO KX G ?adV) (L2.bT (st:=My.B5) ?adW ?adX ?adY) (bO KX G ?adZ) (L2.bT (st:=My.B6) ?ad0 ?ad1 ?ad2) (bO KX G ?ad3) (L2.bT (st:=My.B7) ?ad4 ?ad5 ?ad6) (bO KX G ?ad7) (L2.bT (st:=My.B8) ?ad8 ?ad9 ?ad_) (bO KX G ?aea) (L2.bT (st:=My.B9) ?aeb ?aec ?aed) (bO KX G ?aee) (L2.bT (st:=My.B_) ?aef ?aeg ?aeh) (bO KX G ?aei) (L2.bT (st:=My.Ca) ?aej ?aek ?ael) (bO KX G ?aem) (L2.bT (st:=My.Cb) ?aen ?aeo ?aep) (bO KX G ?aeq) (L2.bT (st:=My.Cc) ?aer ?aes ?aet) (bO KX G ?aeu) (L2.bT (st:=My.Cd) ?aev ?aew ?aex) (bO KX G ?aey) (L2.bT (st:=My.Ce) ?aez ?aeA ?aeB) (bO KX G ?aeC) (L2.bT (st:=My.Cf) ?aeD ?aeE ?aeF) (bO KX G ?aeG) (L2.bT (st:=My.Ci) ?aeH ?aeI ?aeJ) (bO KX G ?aeK) (L2.bT (st:=My.Cj) ?aeL ?aeM ?aeN) (bO KX G ?aeO) (L2.bT (st:=My.Ck) ?aeP ?aeQ ?aeR) (bO KX G ?aeS) (L2.bT (st:=My.Cm) ?aeT ?aeU ?aeV) (bO KX G ?aeW) (L2.bT (st:=My.Cn) ?aeX ?aeY ?aeZ) ⟨?ae0,?ae1,?ae2,?ae3⟩ (L2.bT (st:=My.Co) ?ae4 ?ae5 ?ae6) ⟨?ae7,?ae8,?ae9⟩ (L2.bT (st:=My.Cp) ?ae_ ?afa ?afb) ⟨?afc,?afd,?afe⟩ (L2.bT (st:=My.Cq) ?afg ?afh ?afi) ⟨?afj,?afk,?afl⟩ (L2.bT (st:=My.Cr) ?afm ?afn ?afo) ?Hr ?Hs ?xo ?xq ?tK ?xr ⟨?afp,?afq,?afr⟩ (L2.bT (st:=My.Cs) ?afs ?aft ?afu) ⟨?afv,?afw,?afx⟩ (L2.bT (st:=My.FA) ?afy ?afz ?afA) ⟨?afB,?afC,?afD⟩ (L2.bT (st:=My.Ct) ?afE ?afF ?afG) ?Ht ?Hu ?Hv ?Hw ?Hz ?HA ?HB ?HC ?HD ?HE ?HF ?HG ?HH ?HJ ?HK ?HL ?HM ?HN ?HP ?HQ ?HR ?HS ?HU ?HV ?HW ?HX ?HY ?HZ ?H_ ?Ia
   (case Hi|Hj|Hl|Ho|Hq|abx|aby|abz|abA|abB|abC|abD|abE|abF|abG|abH|abI|abJ|abK|abL|abM|abN|abO|abP|abQ|abR|abS|abT|abU|abV|abW|abX|abY|abZ|ab0|ab1|ab2|ab3|ab4|ab5|ab6|ab7|ab8|ab9|ab_|acd|ace|acf|acg|ach|aci|acj|ack|acm|acn|aco|acp|acq|acr|acs|acu|acv|acw|acy|acz|acA|acB|acC|acD|acE|acF|acG|acH|acI|acJ|acK|acL|acM|acN|acO|acP|acQ|acR|acS|acT|acU|acV|acW|acX|acY|acZ|ac0|ac1|ac2|ac3|ac4|ac5|ac6|ac7|ac8|ac9|ac_|ada|adb|ade|adf|adg|adh|adi|adk|adl|adm|adn|ado|adp|adq|ads|adt|adu|adv|adw|adx|ady|adz|adA|adB|adC|adD|adE|adF|adG|adH|adI|adJ|adK|adL|adM|adN|adO|adP|adQ|adR|adS|adT|adU|adV|adW|adX|adY|adZ|ad0|ad1|ad2|ad3|ad4|ad5|ad6|ad7|ad8|ad9|ad_|aea|aeb|aec|aed|aee|aef|aeg|aeh|aei|aej|aek|ael|aem|aen|aeo|aep|aeq|aer|aes|aet|aeu|aev|aew|aex|aey|aez|aeA|aeB|aeC|aeD|aeE|aeF|aeG|aeH|aeI|aeJ|aeK|aeL|aeM|aeN|aeO|aeP|aeQ|aeR|aeS|aeT|aeU|aeV|aeW|aeX|aeY|aeZ|ae0|ae1|ae2|ae3|ae4|ae5|ae6|ae7|ae8|ae9|ae_|afa|afb|afc|afd|afe|afg|afh|afi|afj|afk|afl|afm|afn|afo|Hr|Hs|xo|xq|tK|xr|afp|afq|afr|afs|aft|afu|afv|afw|afx|afy|afz|afA|afB|afC|afD|afE|afF|afG|Ht|Hu|Hv|Hw|Hz|HA|HB|HC|HD|HE|HF|HG|HH|HJ|HK|HL|HM|HN|HP|HQ|HR|HS|HU|HV|HW|HX=>k_is)
   (case HY|HZ|H_|Ia=>k_exc)
  obtain ⟨t,T⟩:=T
  have e0:=ya.symm.trans T.Nt
  cases e0
  exact My.aau T
#print axioms PySem.Challenge.cw_bandwright_k61_whole_shifted_rows_as_alo_holds
