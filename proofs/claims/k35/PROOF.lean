import PyProof.Rows.All
import Wide.All
import OpenK.AllK
import Wide.FinOn
import Lean
import PyProof.EqAt
import PyProof.EqKinds
import PyProof.TupleCall
import PySem.Challenge.RW_bandwright_k35_along_one_or_stops
set_option Elab.async false
set_option linter.all false
set_option maxRecDepth 100000
abbrev c_:=@decide_eq_false
abbrev mh:=@beq_eq_false_iff_ne
abbrev Dv:=@List.getElem?_eq_none_iff
abbrev ar:=@if_pos
abbrev ao:=@if_neg
abbrev bZ:=@PySem.Heap.lt_size
abbrev eV:=@Nat.lt_of_lt_of_le
abbrev iM:=@Nat.lt_irrefl
abbrev dE:=@Nat.ne_of_lt
abbrev zS:=@PySem.W.hideAll_get
abbrev pz:=@List.mem_filter
abbrev eW:=@List.mem_range
abbrev aH:=@Nat.le_trans
abbrev zT:=@List.filterMap_cons
abbrev fQ:=@List.mem_cons_self
abbrev fj:=@List.mem_cons_of_mem
abbrev cx:=@List.mem_cons
abbrev fk:=@List.mem_append
abbrev mi:=@List.mem_append_left
abbrev bQ:=@List.getElem?_eq_some_iff
abbrev dJ:=@PySem.wpAny_mono
abbrev nH:=@PySem.wpAny_truthy_bool
abbrev hJ:=@congrArg
abbrev zU:=@PySem.wpAny_execs_nil
abbrev cS:=@PySem.wpAny_bind
abbrev fR:=@PySem.wpAny_pure
abbrev zV:=@PySem.wpAny_newObj_type
abbrev cL:=@PySem.Heap.get?_push_of_some
abbrev pA:=@PySem.wpAny_passesOwn
abbrev dA:=@Bool.false_ne_true
abbrev fS:=@Int.mul_one
abbrev zW:=@PySem.wpAny_pyIter_list
abbrev fm:=@PySem.Heap.get?_push_size
abbrev aK:=@Nat.le_refl
abbrev tS:=@PyProof.Rows.callWith_type1
abbrev eB:=@List.mem_append_right
abbrev ck:=@Nat.zero_le
abbrev nJ:=@Bool.eq_iff_iff
abbrev ko:=@beq_iff_eq
abbrev gD:=@List.length_cons
abbrev zX:=@PySem.W.looks_findIn
abbrev cy:=@List.map_cons
abbrev aR:=@List.length_map
abbrev xC:=@PySem.Heap.size_push
abbrev zY:=@Nat.lt_succ_self
abbrev ja:=@PySem.W.kia_one
abbrev tT:=@List.append_nil
abbrev zZ:=@PySem.wpAny_Call_Name_kw
abbrev mj:=@Nat.le_succ
abbrev iO:=@List.nodup_cons
abbrev Dw:=@Option.isSome_iff_exists
abbrev mq:=@List.length_take
abbrev k6:=@PySem.mem_of_lookup
abbrev pB:=@List.getElem?_append_right
abbrev pD:=@List.getElem?_append_left
abbrev cz:=@List.getElem?_map
abbrev pE:=@List.take_sublist
abbrev hU:=@List.mem_of_getElem?
abbrev fo:=@List.length_append
abbrev dM:=@Int.toNat_natCast
abbrev xD:=@List.length_drop
abbrev cY:=@List.size_toArray
abbrev tU:=@List.all_cons
abbrev xE:=@Bool.and_eq_true
abbrev pF:=@List.any_cons
abbrev tV:=@List.replicate_succ
abbrev xF:=@List.flatten_cons
abbrev xG:=@List.append_assoc
abbrev pG:=@PySem.call_meets
abbrev nK:=@List.length_singleton
abbrev cA:=@decide_eq_true
abbrev bw:=@PySem.W.mg_of
abbrev jQ:=@Nat.lt_of_le_of_lt
abbrev Dx:=@PySem.F.typeOf_object_class
abbrev xH:=@PySem.wpAny_loadPart_at
abbrev mr:=@Nat.not_lt_zero
abbrev Dy:=@List.range_succ_eq_map
abbrev pH:=@List.all_eq_true
abbrev xI:=@Bool.false_or
abbrev Dz:=@PySem.wpAny_comprehension_free
abbrev DA:=@PySem.codeAny_compLoop_tests
abbrev z5:=@PySem.lookup_relabel_local
abbrev DB:=@PySem.codeAny_compStart_list
abbrev xJ:=@Int.ne_of_gt
abbrev jb:=@List.getD_eq_getElem?_getD
abbrev dj:=@List.mem_singleton
abbrev cC:=@List.length_range
abbrev hV:=@List.getElem?_range
abbrev pI:=@Nat.gcd_pos_of_pos_right
abbrev mw:=@Int.natAbs_pos
abbrev xK:=@Int.natAbs_natCast
abbrev tW:=@Int.mul_le_mul_of_nonneg_left
abbrev gE:=@Int.mul_zero
abbrev kq:=@Int.gcd_dvd_left
abbrev jR:=@Int.gcd_dvd_right
abbrev fH:=@Int.natAbs_mul
abbrev kr:=@Int.dvd_trans
abbrev jc:=@Int.mul_ediv_cancel_left
abbrev dX:=@Int.mul_comm
abbrev nM:=@Int.mul_pos
abbrev k7:=@Int.mul_assoc
abbrev z6:=@Int.mul_left_comm
abbrev z7:=@Int.dvd_mul_left
abbrev DC:=@Int.natAbs_ediv_le_natAbs
abbrev mB:=@Int.natAbs_neg
abbrev jd:=@Int.dvd_refl
abbrev z8:=@Nat.mul_le_mul_left
abbrev DD:=@Int.emod_add_mul_ediv
abbrev fT:=@Int.emod_lt_of_pos
abbrev fI:=@Int.emod_nonneg
abbrev tX:=@Int.dvd_add
abbrev tY:=@Int.neg_mul
abbrev xM:=@Int.mul_emod
abbrev pJ:=@Int.emod_eq_of_lt
abbrev pK:=@Int.zero_sub
abbrev z9:=@Int.fdiv_eq_ediv_of_dvd
abbrev k8:=@Int.mul_neg
abbrev DE:=@Int.eq_of_mul_eq_mul_right
abbrev z_:=@List.sum_append
abbrev je:=@List.take_length
abbrev nN:=@List.not_mem_nil
abbrev Aa:=@PySem.Around.in1_units
abbrev Ab:=@List.lookup_cons
abbrev eX:=@Int.zero_dvd
abbrev nO:=@Int.mul_eq_zero
abbrev DF:=@Int.dvd_of_emod_eq_zero
abbrev xN:=@Nat.le_add_right
abbrev Ac:=@Int.mul_ediv_add_emod
abbrev nQ:=@Int.one_mul
abbrev gh:=@Int.zero_mul
abbrev hZ:=@Int.zero_add
abbrev fU:=@Nat.mul_le_mul
abbrev ku:=@Int.sub_zero
abbrev pL:=@Classical.byContradiction
abbrev gQ:=@List.ext_getElem
abbrev nR:=@List.range_succ
abbrev jf:=@List.map_append
abbrev h_:=@List.map_congr_left
abbrev DG:=@List.length_filter_le
abbrev jg:=@List.mem_map
abbrev Ad:=@List.find?_cons
abbrev nS:=@decide_eq_true_iff
abbrev eY:=@of_decide_eq_true
abbrev iP:=@List.map_map
abbrev tZ:=@List.nodup_append
abbrev pM:=@List.nodup_range
abbrev gF:=@List.getElem_map
abbrev jh:=@List.getElem_range
abbrev nV:=@List.take_of_length_le
abbrev dN:=@List.getElem_mem
abbrev dF:=@List.getElem?_eq_getElem
abbrev Ae:=@Nat.min_eq_left
abbrev k9:=@Int.dvd_zero
abbrev nW:=@Int.sub_self
abbrev cM:=@List.sum_cons
abbrev DH:=@Int.dvd_mul_of_dvd_left
abbrev xO:=@List.getElem_of_mem
abbrev k_:=@dif_pos
abbrev xP:=@List.reverse_perm
abbrev Af:=@List.map_singleton
abbrev xQ:=@List.mem_of_mem_take
abbrev ji:=@Nat.le_mul_of_pos_left
abbrev DI:=@Int.dvd_mul_of_dvd_right
abbrev Ag:=@Int.ediv_nonneg
abbrev cq:=@PySem.PassesOwn.never
abbrev dO:=@PySem.boot_len
abbrev nX:=@PySem.F.excBase_ValueError
abbrev jj:=@PySem.F.plainAttrs_list
abbrev pN:=@Int.eq_ofNat_of_zero_le
abbrev DJ:=@PyProof.Rows.boot_sorted
abbrev nY:=@PySem.F.slot_list_append
abbrev nZ:=@PySem.F.type_list_append
abbrev Ah:=@Nat.le_add_left
abbrev gi:=@PySem.W.mg_none_of
abbrev dP:=List (List (Int×Int))
abbrev cb:=List (Int×Int)
abbrev aO:=Nat→Nat→Int
abbrev dc:=PySem.Str→Option PySem.Value
abbrev aX:=PySem.Value→PySem.Shared→Prop
abbrev aD:=PySem.W.Frag
abbrev a7:=List (PySem.Addr×PySem.Obj)
namespace L2
open PySem PySem.Spec PyProof.Rows
abbrev Key:=Sum Int Str
def pO:Key→Value→Bool
 | .inl k,v=>Value.isInt k v
 | .inr x,v=>Value.isStrOf x v
def OX(w:World):Key→Int
 | .inl k=>hashInt k
 | .inr x=>hashStr w x
theorem lh:∀{k:Key} {v:Value},pO k v=true→(∃i t,k=Sum.inl i∧v=Value.int i t)∨(∃x t,k=Sum.inr x∧v=Value.str x t)
 | .inl i,v,h=>by obtain ⟨t,e⟩:=Value.isInt_shape (k:=i) (v:=v) h;exact .inl ⟨i,t,rfl,e⟩
 | .inr x,v,h=>by obtain ⟨t,e⟩:=Value.isStrOf_shape (x:=x) (v:=v) h;exact .inr ⟨x,t,rfl,e⟩
theorem OY(i:Int)(t:Tok):pO (.inl i) (.int i t)=true:=by simp [pO,Value.isInt]
theorem OZ(x:Str)(t:Tok):pO (.inr x) (.str x t)=true:=by simp [pO,Value.isStrOf]
theorem O0(a b:Int):decide ((Sum.inl a:Key)=Sum.inl b)=(a == b):=by
 by_cases e:a=b;·subst e;simp
 ·have h:¬(Sum.inl a:Key)=Sum.inl b:=fun q=>e (Sum.inl.inj q)
  rw [c_ h];exact (mh.mpr e).symm
theorem O1(a b:Str):decide ((Sum.inr a:Key)=Sum.inr b)=decide (a=b):=by
 by_cases e:a=b;·subst e;simp
 ·have h:¬(Sum.inr a:Key)=Sum.inr b:=fun q=>e (Sum.inr.inj q)
  rw [c_ h,c_ e]
theorem O2(a:Int)(b:Str):decide ((Sum.inl a:Key)=Sum.inr b)=false:=c_ (fun q=>nomatch q)
theorem O3(a:Str)(b:Int):decide ((Sum.inr a:Key)=Sum.inl b)=false:=c_ (fun q=>nomatch q)
def iQ(prog:Program)(w:World):PySem.KeyKind prog w Key where
 is:=pO
 hash:=OX w
 inj:=fun v a b ha hb=>by
  rcases lh ha with ⟨i,t,rfl,rfl⟩ | ⟨x,t,rfl,rfl⟩
  ·rcases lh hb with ⟨j,u,rfl,e⟩ | ⟨y,u,rfl,e⟩
   ·injection e with e1 _;rw [e1]
   ·exact nomatch e
  ·rcases lh hb with ⟨j,u,rfl,e⟩ | ⟨y,u,rfl,e⟩
   ·exact nomatch e
   ·injection e with e1 _;rw [e1]
 byValue:=fun k v h=>by
  rcases lh h with ⟨i,t,rfl,rfl⟩ | ⟨x,t,rfl,rfl⟩ <;> rfl
 pyHash:=fun hv h=>by
  rcases lh hv with ⟨i,t,rfl,rfl⟩ | ⟨x,t,rfl,rfl⟩
  ·exact wpAny_pyHash_int h
  ·exact wpAny_pyHash_str h
 eqBool:=fun hu hv h=>by
  rcases lh hu with ⟨i,t,rfl,rfl⟩ | ⟨x,t,rfl,rfl⟩
  ·rcases lh hv with ⟨j,u,rfl,rfl⟩ | ⟨y,u,rfl,rfl⟩
   ·rw [O0] at h;exact wpAny_eqBool_int h
   ·rw [O2] at h;exact SeqAt.EqAt.int_str i t y u _ _ _ _ h
  ·rcases lh hv with ⟨j,u,rfl,rfl⟩ | ⟨y,u,rfl,rfl⟩
   ·rw [O3] at h;exact SeqAt.EqAt.str_int x t j u _ _ _ _ h
   ·rw [O1] at h;exact wpAny_eqBool_str h
 «strs»:=fun k x t v h=>by
  rcases lh h with ⟨i,u,rfl,e⟩ | ⟨y,u,rfl,e⟩
  ·exact nomatch e
  ·injection e with e1 _
   subst e1
   cases v <;> rfl
theorem O4(prog:Program)(w:World)(i:Int)(t:Tok):(iQ prog w).is (.inl i) (.int i t)=true:=OY i t
theorem O5(prog:Program)(w:World)(x:Str)(t:Tok):(iQ prog w).is (.inr x) (.str x t)=true:=OZ x t
inductive V where
 | aU | bl (b:Bool) | int (i:Int) | str (x:Str) | jS (b:Array UInt8) | pP (b:UInt64) | ref (a:Addr) | ty (n:String)
 deriving DecidableEq
def RelV:V→Value→Prop
 | .aU,u=>u=Value.none
 | .bl b,u=>u=Value.bool b
 | .int i,u=>∃t,u=Value.int i t
 | .str x,u=>∃t,u=Value.str x t
 | .jS b,u=>∃t,u=Value.bytes b t
 | .pP b,u=>∃t,u=Value.float b t
 | .ref a,u=>u=Value.ref a
 | .ty n,u=>u=Value.type n
abbrev Vals:List V→List Value→Prop:=Paired RelV
variable {xs:List V} {us:List Value}
theorem Vals.length(r:Vals xs us):xs.length=us.length:=Paired.length r
theorem Vals.get:∀{xs:List V} {us:List Value} {i:Nat} {x:V},Vals xs us→xs[i]?=some x→∃u,us[i]?=some u∧RelV x u
 | _,_,_,_,.nil,e=>by simp at e
 | _,_,0,_,.cons r _,e=>by simp at e;subst e;exact ⟨_,rfl,r⟩
 | _,_,i+1,x,.cons _ t,e=>by
  obtain ⟨u,h1,h2⟩:=Vals.get (i:=i) (x:=x) t (by simpa using e)
  exact ⟨u,by simpa using h1,h2⟩
theorem Vals.set{x:V}{u:Value}(r:RelV x u):∀{xs:List V} {us:List Value} (i:Nat),Vals xs us→Vals (xs.set i x) (us.set i u)
 | _,_,_,.nil=>.nil
 | _,_,0,.cons _ t=>.cons r t
 | _,_,i+1,.cons q t=>.cons q (Vals.set r i t)
theorem Vals.append:∀{xs ys:List V} {us ws:List Value},Vals xs us→Vals ys ws→Vals (xs++ys) (us++ws)
 | _,_,_,_,.nil,s=>s
 | _,_,_,_,.cons r t,s=>.cons r (Vals.append t s)
theorem Vals.take:∀{xs:List V} {us:List Value} (n:Nat),Vals xs us→Vals (xs.take n) (us.take n)
 | _,_,0,_=>.nil
 | _,_,_+1,.nil=>.nil
 | _,_,n+1,.cons r t=>.cons r (Vals.take n t)
theorem Vals.drop:∀{xs:List V} {us:List Value} (n:Nat),Vals xs us→Vals (xs.drop n) (us.drop n)
 | _,_,0,r=>r
 | _,_,_+1,.nil=>.nil
 | _,_,n+1,.cons _ t=>Vals.drop n t
theorem Vals.none_of:∀{xs:List V} {us:List Value} {i:Nat},Vals xs us→xs[i]?=none→us[i]?=none:=fun{xs us i} r e=>by have h1:=r.length;have h2:xs.length≤i:=Dv.mp e;exact Dv.mpr (by lia)
def jn:Option V→Option Value→Prop
 | some v,some u=>RelV v u
 | none,none=>True
 | _,_=>False
def KV{κ:Type}:List (κ×V)→List (κ×Value)→Prop:=Paired fun(p:κ×V) (q:κ×Value)=>p.1=q.1∧RelV p.2 q.2
def kV:Key→V
 | .inl i=>.int i
 | .inr x=>.str x
inductive HO where
 | lst (xs:List V)
 | tup (xs:List V)
 | dK (au:List (Key×V)) | dT (au:List (List Key×V))
 | set (S:Int→Bool) (n:Nat)
 | ins (C dx:Addr) (fs:List (Str×V))
 | own (x:Addr)
 | xd (fs:List (Str×V))
 | met (f x:Addr)
 | pQ (lo hi:Int)
 | cI (o:Obj) (u:HO)
 | mC (ps:Array Value)
 | ext (φ:Heap→Prop)
abbrev Hp:=Addr→Option HO
def upd(H:Hp)(a:Addr)(o:HO):Hp:=fun b=>if b=a then some o else H b
variable {H:Hp} {a:Addr} {o:HO}
theorem az:upd H a o a=some o:=by unfold upd;rw [ar rfl]
variable {b:Addr}
theorem aP(h:b≠a):upd H a o b=H b:=by unfold upd;rw [ao h]
theorem O6{u:HO}:upd (upd H a o) a u=upd H a u:=by funext b;unfold upd;split <;> rfl
theorem O7{u:HO}(h:H a=some o)(h':H b=some u)(d:o≠u):a≠b:=by intro e;subst e;rw [h] at h';exact d (Option.some.inj h')
theorem jo(h:H a=some o)(h':H b=none):a≠b:=by intro e;subst e;rw [h] at h';cases h'
section
variable (P:Program) (w:World)
def cT(H:Hp)(h:Heap)(a:Addr):HO→Prop
 | .lst xs=>xs.length≤sizeLine∧∃(aj:List Value) (n:Nat),Vals xs aj∧h.get? a=some {cls:=.type "list",data:=.seq aj.toArray n}
 | .tup xs=>xs.length≤sizeLine∧∃aj:List Value,Vals xs aj∧IsTup h a aj.toArray
 | .dK au=>au.length≤sizeLine∧(a == sysModules)=false∧∃vs,KV au vs∧h.DictOf (iQ P w) a vs
 | .dT au=>au.length≤sizeLine∧(a == sysModules)=false∧∃xs:List (List Key×Addr×Value),
   Paired (fun(p:List Key×V) (q:List Key×Addr×Value)=>p.1=q.1∧H q.2.1=some (.tup (p.1.map kV))∧RelV p.2 q.2.2) au xs ∧
   ∃o es ep,h.get? a=some o∧o.ExactDict∧o.data=.dict es ep∧es.toList=xs.map (entryOfKey (tupleKind (iQ P w)))∧(xs.map (·.1)).Nodup
 | .set S n=>h.SetOf (intKind P w) a S n
 | .ins C dx fs=>H dx=some (.own a)∧fs.length≤1000∧dx≠a∧h.get? a=some (PySem.W.instObj C dx) ∧
   ∃mA,h.Ns1 dx mA∧(∀f,jn (fs.lookup f) (mA f))∧PySem.Within mA (fs.map (·.1))
 | .own _=>∃o,h.get? a=some o
 | .xd fs=>∃mA,h.Ns1 a mA∧∀f,jn (fs.lookup f) (mA f)
 | .pQ lo hi=>∃t u v,h.get? a=some {cls:=.type "range",data:=.fields #[.int lo t,.int hi u,.int 1 v]}
 | .cI o u=>h.get? a=some o∧cT H h a u
 | .mC ps=>h.get? a=some {cls:=.none,data:=.fields ps}
 | .met f x=>h.get? a=some (PySem.W.methodObj (.ref f) (.ref x))
 | .ext φ=>φ h∧(∃o,h.get? a=some o)∧∀h1 h2:Heap,φ h1→(∀o,h1.get? a=some o→h2.get? a=some o)→φ h2
def cH(H:Hp)(h:Heap):Prop:=∀a o,H a=some o→cT P w H h a o
end
section
variable {P:Program} {w:World} {H H':Hp} {h h':Heap} {a:Addr} {o:HO}
theorem cT.lt(x:cT P w H h a o):a<h.objs.size:=by
 cases o with
 | lst xs=>obtain ⟨_,_,_,_,e⟩:=x;exact bZ e
 | tup xs=>obtain ⟨_,_,_,p⟩:=x;exact p.lt
 | dK au=>obtain ⟨_,_,_,_,o,_,_,e,_⟩:=x;exact bZ e
 | dT au=>obtain ⟨_,_,_,_,o,_,_,e,_⟩:=x;exact bZ e
 | set S n=>obtain ⟨o,_,_,_,e,_⟩:=x;exact bZ e
 | ins C dx fs=>obtain ⟨_,_,_,e,_⟩:=x;exact bZ e
 | own y=>obtain ⟨_,e⟩:=x;exact bZ e
 | xd fs=>obtain ⟨_,⟨_,_,_,e,_⟩,_⟩:=x;exact bZ e
 | pQ lo hi=>obtain ⟨_,_,_,e⟩:=x;exact bZ e
 | cI ob u=>obtain ⟨e,_⟩:=x;exact bZ e
 | mC ps=>exact bZ (show h.get? a=some _ from x)
 | met f y=>exact bZ (show h.get? a=some _ from x)
 | ext φ=>obtain ⟨_,⟨_,e⟩,_⟩:=x;exact bZ e
theorem Paired.DK{α β:Type}{F G:α→β→Prop}:∀{l₁:List α} {l₂:List β},Paired F l₁ l₂→(∀a b,F a b→G a b)→Paired G l₁ l₂
 | _,_,.nil,_=>.nil
 | _,_,.cons r t,f=>.cons (f _ _ r) (Paired.DK t f)
theorem cT.kx(x:cT P w H h a o)(k:∀b u,(b=a∨H b=some (.own a))→h.get? b=some u→h'.get? b=some u)
  (ho:∀b,H b=some (.own a)→H' b=some (.own a)) (ht:∀b xs,H b=some (.tup xs)→H' b=some (.tup xs)):cT P w H' h' a o:=by
 induction o with
 | lst xs=>obtain ⟨z,aj,n,r,e⟩:=x;exact ⟨z,aj,n,r,k _ _ (.inl rfl) e⟩
 | tup xs=>obtain ⟨z,aj,r,ob,e,c⟩:=x;exact ⟨z,aj,r,ob,k _ _ (.inl rfl) e,c⟩
 | dK au=>obtain ⟨z,y,vs,r,ob,es,ep,e,c⟩:=x;exact ⟨z,y,vs,r,ob,es,ep,k _ _ (.inl rfl) e,c⟩
 | dT au=>obtain ⟨z,y,xs,r,ob,es,ep,e,c⟩:=x;exact ⟨z,y,xs,Paired.DK r fun p q z=>⟨z.1,ht _ _ z.2.1,z.2.2⟩,ob,es,ep,k _ _ (.inl rfl) e,c⟩
 | set S n=>obtain ⟨ob,es,ep,t,e,c⟩:=x;exact ⟨ob,es,ep,t,k _ _ (.inl rfl) e,c⟩
 | ins C dx fs=>obtain ⟨d,z,ne,e,mA,⟨od,es,ep,e2,c⟩,r⟩:=x;exact ⟨ho _ d,z,ne,k _ _ (.inl rfl) e,mA,⟨od,es,ep,k _ _ (.inr d) e2,c⟩,r⟩
 | own y=>obtain ⟨ob,e⟩:=x;exact ⟨ob,k _ _ (.inl rfl) e⟩
 | xd fs=>obtain ⟨mA,⟨od,es,ep,e,c⟩,r⟩:=x;exact ⟨mA,⟨od,es,ep,k _ _ (.inl rfl) e,c⟩,r⟩
 | pQ lo hi=>obtain ⟨t,u,v,e⟩:=x;exact ⟨t,u,v,k _ _ (.inl rfl) e⟩
 | cI ob u ih=>obtain ⟨e,q⟩:=x;exact ⟨k _ _ (.inl rfl) e,ih q⟩
 | mC ps=>have e:h.get? a=some {cls:=.none,data:=.fields ps}:=x;show h'.get? a=some {cls:=.none,data:=.fields ps};exact k a _ (.inl rfl) e
 | met f y=>have e:h.get? a=some (PySem.W.methodObj (.ref f) (.ref y)):=x;show h'.get? a=some (PySem.W.methodObj (.ref f) (.ref y));exact k a _ (.inl rfl) e
 | ext φ=>obtain ⟨p,⟨o,e⟩,st⟩:=x;exact ⟨st _ _ p fun o q=>k _ _ (.inl rfl) q,⟨o,k _ _ (.inl rfl) e⟩,st⟩
theorem cH.lt(x:cH P w H h)(e:H a=some o):a<h.objs.size:=(x a o e).lt
theorem cH.fresh(x:cH P w H h)(e:h.objs.size≤a):H a=none:=by
 cases q:H a with
 | none=>rfl
 | some u=>exact absurd (eV (x.lt q) e) (iM _)
theorem cH.kept(x:cH P w H h)(k:∀b u,h.get? b=some u→h'.get? b=some u):cH P w H h':=fun a o e=>(x a o e).kx (fun b u _ q=>k b u q) (fun _ q=>q) fun _ _ q=>q
theorem cH.laid(x:cH P w H h)(k:∀b u,h.get? b=some u→h'.get? b=some u)(hp:h.objs.size≤a)(new:cT P w (upd H a o) h' a o):cH P w (upd H a o) h':=fun b u e=>by
 have hn:=x.fresh hp;by_cases hb:b=a;·subst hb;rw [az] at e;cases e;exact new
 ·rw [aP hb] at e
  exact (x b u e).kx (fun c v _ q=>k c v q) (fun c q=>by rw [aP (jo q hn)];exact q) fun c xs q=>by rw [aP (jo q hn)];exact q
end
def Rd(H:Hp)(a:Addr)(u:HO):Prop:=H a=some u∨∃o,H a=some (.cI o u)
variable {P:Program} {w:World} {h:Heap}
theorem Rd.ok{u:HO}(r:Rd H a u)(x:cH P w H h):cT P w H h a u:=by
 rcases r with r | ⟨o,r⟩;·exact x a u r
 ·obtain ⟨_,q⟩:=x a _ r
  exact q
def xR:Option HO→Prop
 | some (.lst _)=>True
 | some (.dK _)=>True
 | some (.dT _)=>True
 | some (.set _ _)=>True
 | some (.ins _ _ _)=>True
 | some (.ext _)=>True
 | _=>False
section
variable {P:Program} {w:World} {H:Hp} {h h':Heap} {x e:Addr} {o':HO}
theorem cH.write(ok:cH P w H h)(mu:xR (H x))(he:e=x∨H e=some (.own x))(k:∀b u,b≠e→h.get? b=some u→h'.get? b=some u)(t6:∃u,h'.get? e=some u)
  (new:cT P w (upd H x o') h' x o'):cH P w (upd H x o') h':=fun b u q=>by
 have Iy:∀c y,H c=some (.own y)→c≠x:=fun c y r z=>by subst z;rw [r] at mu;exact mu
 have O8:∀c xs,H c=some (.tup xs)→c≠x:=fun c xs r z=>by subst z;rw [r] at mu;exact mu
 by_cases hb:b=x;·subst hb;rw [az] at q;cases q;exact new
 ·rw [aP hb] at q
  by_cases pR:b=e
  ·have q':H b=some (.own x):=by
    rcases he with z | z;·exact absurd (pR.trans z) hb
    ·rw [pR];exact z
   rw [q] at q';cases q';obtain ⟨v,hv⟩:=t6;exact ⟨v,by rw [pR];exact hv⟩
  ·refine (ok b u q).kx (fun c v hc r=>k c v ?_ r) (fun c r=>by rw [aP (Iy c b r)];exact r) fun c xs r=>by rw [aP (O8 c xs r)];exact r
   rcases hc with rfl | hc;·exact pR
   ·rintro rfl
    rcases he with z | z;·exact Iy c b hc z
    ·rw [hc] at z;cases z;exact hb rfl
end
structure Un (fs ex:List Addr) (H H':Hp) (h h':Heap):Prop where
 keep:∀b o,h.get? b=some o→H b=none→b∉fs→b∉ex→h'.get? b=some o
 slot:∀b o,h.get? b=some o→H b=none→b∈fs→b∉ex→∃sl,h'.get? b=some {o with slots:=sl}
 free:∀b o,h.get? b=some o→H b=none→b∉ex→H' b=none
 there:∀b o,h.get? b=some o→b∉ex→∃o',h'.get? b=some o'
 ic:∀b xs,H b=some (.tup xs)→H' b=some (.tup xs)
 gR:∀b o u,H b=some (.cI o u)→H' b=some (.cI o u)
 ie:∀b ps,H b=some (.mC ps)→∃more,H' b=some (.mC (ps++more))
section
variable {fs DL ex ky:List Addr} {H H1 H2:Hp} {h h1 h2 h':Heap} {a x e:Addr} {o:HO}
theorem Un.any(u:Un fs ex H H1 h h1){ob:Obj}(q:h.get? b=some ob)(n:H b=none)(hx:b∉ex):∃sl,h1.get? b=some {ob with slots:=sl}:=by
 by_cases hb:b∈fs;·exact u.slot b ob q n hb hx
 ·exact ⟨ob.slots,u.keep b ob q n hb hx⟩
theorem Un.kept(k:∀b u,h.get? b=some u→h'.get? b=some u):Un fs ex H H h h':=
 ⟨fun b ob q _ _ _=>k b ob q,fun b ob q _ _ _=>⟨ob.slots,k b ob q⟩,fun _ _ _ n _=>n,fun b ob q _=>⟨ob,k b ob q⟩,fun _ _ q=>q,fun _ _ _ q=>q,fun _ ps q=>⟨#[],by rw [q];simp⟩⟩
theorem Un.refl:Un fs ex H H h h:=Un.kept fun _ _ q=>q
theorem Un.laid(k:∀b u,h.get? b=some u→h'.get? b=some u)(hp:h.objs.size≤a)(hn:H a=none):Un fs ex H (upd H a o) h h' where
 keep:=fun b u q _ _ _=>k b u q
 slot:=fun b u q _ _ _=>⟨u.slots,k b u q⟩
 free:=fun b u q n _=>by rw [aP (dE (eV (bZ q) hp))];exact n
 there:=fun b u q _=>⟨u,k b u q⟩
 ic:=fun b xs q=>by rw [aP (jo q hn)];exact q
 gR:=fun b u xs q=>by rw [aP (jo q hn)];exact q
 ie:=fun b ps q=>⟨#[],by rw [aP (jo q hn),q];simp⟩
theorem Un.write(mu:xR (H x))(he:e=x∨H e=some (.own x))(k:∀b u,b≠e→h.get? b=some u→h'.get? b=some u)(t6:∃u,h'.get? e=some u):Un fs ex H (upd H x o) h h':=by
 have hx:∀b,H b=none→b≠x:=fun b n z=>by subst z;rw [n] at mu;exact mu
 have hb:∀b,H b=none→b≠e:=fun b n z=>by
  subst z;rcases he with r | r;·exact hx b n r
  ·rw [n] at r;cases r
 have hm:∀b u,H b=some u→¬xR (some u)→b≠x:=fun b u q nm z=>by subst z;rw [q] at mu;exact nm mu
 refine ⟨fun b u q n _ _=>k b u (hb b n) q,fun b u q n _ _=>⟨u.slots,k b u (hb b n) q⟩,fun b u q n _=>by rw [aP (hx b n)];exact n,fun b u q _=>?_,
  fun b xs q=>by rw [aP (hm b _ q fun z=>z)];exact q,fun b u xs q=>by rw [aP (hm b _ q fun z=>z)];exact q,fun b ps q=>⟨#[],by rw [aP (hm b _ q fun z=>z),q];simp⟩⟩
 by_cases pR:b=e;·subst pR;exact t6
 ·exact ⟨u,k b u pR q⟩
end
def Ai(h:Heap)(H:Hp):List Addr:=(List.range h.objs.size).filter fun a=>(H a).isSome
def mD(h:Heap)(H:Hp):Heap:=PySem.W.hideAll h (Ai h H)
theorem O9(h:Heap)(H:Hp):(mD h H).objs.size=h.objs.size:=PySem.W.hideAll_size _ _
theorem O_{o:Obj}(e:h.get? b=some o)(n:H b=none):(mD h H).get? b=some o:=
 zS _ e fun hm=>by have q:(H b).isSome=true:=(pz.mp hm).2;rw [n] at q;simp at q
theorem Pa{o:Obj}(e:(mD h H).get? b=some o):h.get? b=some o∧H b=none:=by
 have e':h.get? b=some o:=PySem.W.of_hideAll (Ai h H) e;refine ⟨e',?_⟩;cases q:H b with
 | none=>rfl
 | some x=>
  have hm:b∈Ai h H:=pz.mpr ⟨eW.mpr (bZ e'),by simp [q]⟩
  have z:(mD h H).get? b=none:=PySem.W.hideAll_none (Ai h H) hm;rw [z] at e;cases e
structure Mod (K:aD) (mg:dc) (base:Heap):Prop where
 da:K.In base
 glob:base.Ns mainGlobals mg
 blt:∃mb,base.Ns builtinsNs mb∧∀x:Str,x ≠ "__name__"→mb x=bootBuiltins x
 nolimit:base.NoLimit
structure Cx where
 prog:Program
 w:World
 K:PySem.W.Frag
 mg:Str→Option Value
 base:Heap
 A:Around
 N:List Str
 s₀:Shared
 H₀:Hp
 env:Env
 outer:List Env
 stack:List Env
 ex:List Addr
 fn:Str→Bool
 calm:Bool
 pn:List (Addr×Obj)
 xe:Value→Shared→Prop
def cU(l:List Env):List Addr:=l.filterMap (·.frame)
abbrev Cx.fs (X:Cx):List Addr:=cU X.outer
def n4(sc:Scope)(x:Str):Prop:=sc.names.lookup x=some .local∨sc.names.lookup x=some .cell∨sc.names.lookup x=some .free
def Loc(sc:Scope)(x:Str):Prop:=sc.names.lookup x=some .local∨sc.names.lookup x=some .cell
def Look(env:Env)(h:Heap)(m:dc)(x:Str)(u:Value):Prop:=
 (env.kindOf x=some .local∧m x=some u)∨((env.kindOf x=some .cell∨env.kindOf x=some .free)∧∃c,env.cells.lookup x=some c∧h.IsCell c (some u))
structure Cx.Ok (X:Cx):Prop where
 mod:Mod X.K X.mg X.base
 kind:X.env.scope.kind=.function
 glob:X.env.globals=mainGlobals
 blt:X.env.builtins=builtinsNs
 above:X.s₀.heap.objs.size≤X.env.locals
 inj:∀x y c,X.env.cells.lookup x=some c→X.env.cells.lookup y=some c→x=y
 has:∀x,(X.env.kindOf x=some .cell∨X.env.kindOf x=some .free)→∃c,X.env.cells.lookup x=some c
 pS:∀x c,X.fn x=true→X.env.cells.lookup x=some c→X.s₀.heap.objs.size≤c
 hd:X.calm=true→X.A.handled=none
 frames:X.A.frames=some X.stack
 jq:X.stack=X.outer∨(X.stack=X.env::X.outer∧X.env.frame=some X.env.locals)
 IC:∀b∈X.ex,b≠X.env.locals∧∀x c,X.env.cells.lookup x=some c→c≠b
 bs:∀b o,X.base.get? b=some o→X.s₀.heap.get? b=some o∧X.H₀ b=none
 jr:X.base.objs.size≤X.s₀.heap.objs.size
 pU:∀b o,X.base.get? b=some o→b∉X.ex
 pV:∀b∈X.ex,b∉X.fs
 jT:X.s₀.heap.FunFrames X.base X.outer
 mE:∀b∈X.fs,X.H₀ b=none
structure Inv (X:Cx) (pins:a7) (σ:List (Option V)) (H:Hp) (s:Shared):Prop where
 ok:X.Ok
 os:s.os=X.s₀.os
 bare:AllBare s.gens
 base:Un X.fs X.ex X.H₀ H X.s₀.heap s.heap
 loc:∃m,s.heap.Ns X.env.locals m∧∀(i:Nat) (x:Str) (v:V),X.N[i]?=some x→σ[i]?=some (some v)→n4 X.env.scope x→∃u,RelV v u∧Look X.env s.heap m x u
 cell:∀x c,X.env.cells.lookup x=some c→∃v,s.heap.IsCell c v
 free:H X.env.locals=none
 jU:∀x c,X.env.cells.lookup x=some c→H c=none
 pin:∀p∈X.pn++pins,s.heap.get? p.1=some p.2∧H p.1=none∧p.1≠X.env.locals∧p.1∉X.fs∧∀v,p.2.data≠.cell v
 aG:cH X.prog X.w H s.heap
 len:σ.length=X.N.length
section
variable {X:Cx} {pins:a7} {σ:List (Option V)} {H H':Hp} {s:Shared} {h':Heap}
theorem Cx.Ok.Pb(ok:X.Ok){o:Obj}(e:X.base.get? b=some o):b∉X.fs:=fun hb=>by have:=(ok.jT.mem hb).1;rw [e] at this;cases this
theorem Inv.bs(I:Inv X pins σ H s):∀b o,X.base.get? b=some o→s.heap.get? b=some o∧H b=none:=fun b o e=>⟨I.base.keep b o (I.ok.bs b o e).1 (I.ok.bs b o e).2 (I.ok.Pb e) (I.ok.pU b o e),I.base.free b o (I.ok.bs b o e).1 (I.ok.bs b o e).2 (I.ok.pU b o e)⟩
theorem Inv.bk(I:Inv X pins σ H s):∀b o,X.base.get? b=some o→s.heap.get? b=some o:=fun b o e=>(I.bs b o e).1
theorem Inv.mod(I:Inv X pins σ H s):Mod X.K X.mg X.base:=I.ok.mod
theorem Inv.dQ(I:Inv X pins σ H s):X.K.In s.heap:=I.ok.mod.da.keeps I.bk
theorem Inv.lt(I:Inv X pins σ H s):X.env.locals<s.heap.objs.size:=let ⟨_,hn,_⟩:=I.loc;hn.lt
theorem Inv.sz(I:Inv X pins σ H s):X.s₀.heap.objs.size≤s.heap.objs.size:=aH I.ok.above (Nat.le_of_lt I.lt)
theorem Inv.Pc(I:Inv X pins σ H s)(h:s.heap.objs.size≤a):a∉X.fs:=fun hb=>by obtain ⟨_,o,ho,_⟩:=I.ok.jT.mem hb;exact absurd (eV (bZ ho) (aH I.sz h)) (iM _)
theorem Inv.pW(I:Inv X pins σ H s):∀x c,X.env.cells.lookup x=some c→c≠X.env.locals:=fun x c e z=>by obtain ⟨v,o,ho,hd⟩:=I.cell x c e;obtain ⟨m,⟨o',es,ep,lq,n5,_⟩,_⟩:=I.loc;rw [z,lq] at ho;cases ho;rw [n5] at hd;cases hd
theorem Inv.jT(I:Inv X pins σ H s):s.heap.FunFrames X.base X.outer:=by
 have all:∀(l:List Env),(∀b∈cU l,b∈X.fs)→X.s₀.heap.FunFrames X.base l→s.heap.FunFrames X.base l:=by
  intro l
  induction l with
  | nil=>intro _ _;trivial
  | cons env r ih=>
   intro hs hl;obtain ⟨hk,⟨L,o,hf,hn,ho,hd⟩,hr⟩:=hl;have hL:L∈X.fs:=hs L (by unfold cU;rw [zT,hf];exact fQ)
   obtain ⟨sl,e⟩:=I.base.slot L o ho (I.ok.mE L hL) hL fun z=>I.ok.pV L z hL;exact ⟨hk,⟨L,_,hf,hn,e,hd⟩,ih (fun b hb=>hs b (by unfold cU;rw [zT,hf];exact fj _ hb)) hr⟩
 exact all X.outer (fun _ hb=>hb) I.ok.jT
theorem Inv.stack(I:Inv X pins σ H s):s.heap.FunFrames X.base X.stack:=by
 rcases I.ok.jq with e | ⟨e,hf⟩;·rw [e];exact I.jT
 ·rw [e]
  obtain ⟨m,hn,_⟩:=I.loc;refine .cons (by rw [I.ok.kind];decide) hf hn ?_ I.jT
  exact Heap.get?_none_of_le (aH I.ok.jr I.ok.above)
theorem Inv.xS(I:Inv X pins σ H s):∀b∈cU X.stack,b∈X.env.locals::X.fs:=fun b hb=>by
 rcases I.ok.jq with e | ⟨e,hf⟩;·rw [e] at hb;exact fj _ hb
 ·rw [e] at hb
  unfold cU at hb;rw [zT,hf] at hb;exact hb
theorem Inv.xT(I:Inv X pins σ H s):∀b∈cU X.stack,H b=none:=fun b hb=>by
 rcases cx.mp (I.xS b hb) with e | hb;·rw [e];exact I.free
 ·obtain ⟨_,o,ho,_⟩:=I.ok.jT.mem hb
  exact I.base.free b o ho (I.ok.mE b hb) fun z=>I.ok.pV b z hb
variable {g':Array GenState} {t':Nat} {d':Drawn} {ch:List Addr}
theorem Inv.step(I:Inv X pins σ H s)
  (lz:∀b∈ch,(b∈X.ex∨X.s₀.heap.objs.size≤b)∧b≠X.env.locals∧(∀x c,X.env.cells.lookup x=some c→c≠b)∧∀p∈X.pn++pins,p.1≠b)
  (keep:∀b o,b≠X.env.locals→b∉X.fs→b∉ch→s.heap.get? b=some o→H b=none→h'.get? b=some o)
  (slot:∀b o,b≠X.env.locals→b∈X.fs→b∉ch→s.heap.get? b=some o→H b=none→∃sl,h'.get? b=some {o with slots:=sl}) (free:∀b o,b∉ch→s.heap.get? b=some o→H b=none→H' b=none)
  (there:∀b o,b∉ch→s.heap.get? b=some o→∃o',h'.get? b=some o')
  (ic:∀b xs,H b=some (.tup xs)→H' b=some (.tup xs)) (gR:∀b o u,H b=some (.cI o u)→H' b=some (.cI o u)) (ie:∀b ps,H b=some (.mC ps)→∃more,H' b=some (.mC (ps++more)))
  (ns:∀m,s.heap.Ns X.env.locals m→h'.Ns X.env.locals m) (aG:cH X.prog X.w H' h') (hg:AllBare g') :
  Inv X pins σ H' {s with heap:=h',gens:=g',drawn:=d',toks:=t'}:=by
 have ID:∀b o,X.s₀.heap.get? b=some o→b≠X.env.locals:=fun b o e=>dE (eV (bZ e) I.ok.above);have Aj:∀b o,X.s₀.heap.get? b=some o→b∉X.ex→b∉ch:=fun b o e hx hb=>by
  rcases (lz b hb).1 with z | z;·exact hx z
  ·exact absurd (eV (bZ e) z) (iM _)
 have cellK:∀x c,X.env.cells.lookup x=some c→∀v,s.heap.IsCell c v→h'.IsCell c v:=fun x c e v ⟨o,ho,hd⟩=>by
  have xU:c∉ch:=fun z=>(lz c z).2.2.1 x c e rfl;by_cases hc:c∈X.fs
  ·obtain ⟨sl,q⟩:=slot c o (I.pW x c e) hc xU ho (I.jU x c e)
   exact ⟨_,q,hd⟩
  ·exact ⟨o,keep c o (I.pW x c e) hc xU ho (I.jU x c e),hd⟩
 refine ⟨I.ok,I.os,hg,⟨fun b o e n hb hx=>?_,fun b o e n hb hx=>?_,fun b o e n hx=>?_,fun b o e hx=>?_,fun b xs e=>ic b xs (I.base.ic b xs e),fun b o xs e=>gR b o xs (I.base.gR b o xs e),fun b ps e=>?_⟩,?_,fun x c e=>?_,?_,fun x c e=>?_,fun p hp=>?_,aG,I.len⟩;·exact keep b o (ID b o e) hb (Aj b o e hx) (I.base.keep b o e n hb hx) (I.base.free b o e n hx)
 ·obtain ⟨sl,e1⟩:=I.base.slot b o e n hb hx
  obtain ⟨Pd,e2⟩:=slot b _ (ID b o e) hb (Aj b o e hx) e1 (I.base.free b o e n hx);exact ⟨Pd,e2⟩
 ·obtain ⟨o',e1⟩:=I.base.there b o e hx
  exact free b o' (Aj b o e hx) e1 (I.base.free b o e n hx)
 ·obtain ⟨o',e1⟩:=I.base.there b o e hx
  exact there b o' (Aj b o e hx) e1
 ·obtain ⟨m1,e1⟩:=I.base.ie b ps e
  obtain ⟨m2,e2⟩:=ie b _ e1;exact ⟨m1++m2,by rw [e2,Array.append_assoc]⟩
 ·obtain ⟨m,hn,hl⟩:=I.loc
  refine ⟨m,ns m hn,fun i x v e1 e2 e3=>?_⟩;obtain ⟨u,r,l⟩:=hl i x v e1 e2 e3;refine ⟨u,r,?_⟩;rcases l with l | ⟨k,c,e,z⟩;·exact .inl l
  ·exact .inr ⟨k,c,e,cellK x c e _ z⟩
 ·obtain ⟨v,z⟩:=I.cell x c e
  exact ⟨v,cellK x c e v z⟩
 ·obtain ⟨m,⟨o,_,_,ho,_⟩,_⟩:=I.loc
  exact free _ o (fun z=>(lz _ z).2.1 rfl) ho I.free
 ·obtain ⟨v,o,ho,hd⟩:=I.cell x c e
  exact free c o (fun z=>(lz c z).2.2.1 x c e rfl) ho (I.jU x c e)
 ·obtain ⟨e,n,ne,nf,d⟩:=I.pin p hp
  have xU:p.1∉ch:=fun z=>(lz p.1 z).2.2.2 p hp rfl;exact ⟨keep p.1 p.2 ne nf xU e n,free p.1 p.2 xU e n,ne,nf,d⟩
theorem Inv.un(I:Inv X pins σ H s)(u:Un X.fs [] H H' s.heap h')(aG:cH X.prog X.w H' h'):Inv X pins σ H' {s with heap:=h',toks:=t'}:=by
 obtain ⟨m,⟨o,es,ep,ho,r⟩,_⟩:=id I.loc;obtain ⟨sl,hL⟩:=u.any ho I.free (by simp)
 exact I.step (g':=s.gens) (d':=s.drawn) (ch:=[]) (fun _ z=>nomatch z) (fun b o _ hb _ e n=>u.keep b o e n hb (by simp)) (fun b o _ hb _ e n=>u.slot b o e n hb (by simp)) (fun b o _ e n=>u.free b o e n (by simp)) (fun b o _ e=>u.there b o e (by simp)) u.ic u.gR u.ie (fun m' hm=>by obtain ⟨o',DM,DN,lq,r'⟩:=hm;rw [ho] at lq;cases lq;exact ⟨_,DM,DN,hL,r'⟩) aG I.bare
theorem Inv.call(I:Inv X pins σ H s)(u:Un (cU X.stack) ch H H' s.heap h')(aG:cH X.prog X.w H' h')(hg:AllBare g')
  (lz:∀b∈ch,(b∈X.ex∨X.s₀.heap.objs.size≤b)∧b≠X.env.locals∧(∀x c,X.env.cells.lookup x=some c→c≠b)∧∀p∈X.pn++pins,p.1≠b) :
  Inv X pins σ H' {s with heap:=h',gens:=g',drawn:=d',toks:=t'}:=by
 obtain ⟨m,⟨o,es,ep,ho,r⟩,_⟩:=id I.loc;obtain ⟨sl,hL⟩:=u.any ho I.free fun z=>(lz _ z).2.1 rfl;exact I.step (ch:=ch) lz (fun b o hL hb hc e n=>u.keep b o e n (fun z=>(cx.mp (I.xS b z)).elim hL hb) hc) (fun b o _ _ hc e n=>u.any e n hc) (fun b o hc e n=>u.free b o e n hc) (fun b o hc e=>u.there b o e hc) u.ic u.gR u.ie (fun m' hm=>by obtain ⟨o',DM,DN,lq,r'⟩:=hm;rw [ho] at lq;cases lq;exact ⟨_,DM,DN,hL,r'⟩) aG hg
theorem Inv.turned{it:Addr}(I:Inv X pins σ H s)(k:∀b o,b≠it→s.heap.get? b=some o→h'.get? b=some o)(hn:H it=none)(hL:it≠X.env.locals)
  (h1:it∈X.ex∨X.s₀.heap.objs.size≤it) (h2:∀x c,X.env.cells.lookup x=some c→c≠it) (h3:∀p∈X.pn++pins,p.1≠it):Inv X pins σ H {s with heap:=h',toks:=t'}:=by
 have IE:∀b u,H b=some u→b≠it:=fun b u e z=>by rw [z,hn] at e;cases e
 refine I.step (g':=s.gens) (d':=s.drawn) (ch:=[it]) (fun b hb=>?_) (fun b o _ _ hc e _=>k b o (fun z=>hc (by simp [z])) e) (fun b o _ _ hc e _=>⟨o.slots,k b o (fun z=>hc (by simp [z])) e⟩) (fun _ _ _ _ n=>n)
  (fun b o hc e=>⟨o,k b o (fun z=>hc (by simp [z])) e⟩) (fun _ _ e=>e) (fun _ _ _ e=>e) (fun b ps e=>⟨#[],by rw [e];simp⟩) (fun m hm=>?_) (fun b u e=>?_) I.bare
 ·have e:b=it:=by simpa using hb
  subst e;exact ⟨h1,hL,h2,h3⟩
 ·obtain ⟨o,es,ep,ho,r⟩:=hm
  exact ⟨o,es,ep,k _ o (Ne.symm hL) ho,r⟩
 ·refine (I.aG b u e).kx (fun c v hc q=>k c v ?_ q) (fun _ q=>q) fun _ _ q=>q
  rcases hc with z | z;·rw [z];exact IE b u e
  ·exact IE c _ z
theorem Inv.tok(I:Inv X pins σ H s)(t:Nat):Inv X pins σ H {s with toks:=t}:=I.un (h':=s.heap) (t':=t) Un.refl I.aG
theorem Inv.kept(I:Inv X pins σ H s)(k:∀b u,s.heap.get? b=some u→h'.get? b=some u):Inv X pins σ H {s with heap:=h',toks:=t'}:=I.un (Un.kept k) (I.aG.kept k)
theorem Inv.laid(I:Inv X pins σ H s)(k:∀b u,s.heap.get? b=some u→h'.get? b=some u)(hp:s.heap.objs.size≤a)(new:cT X.prog X.w (upd H a o) h' a o) :
  Inv X pins σ (upd H a o) {s with heap:=h',toks:=t'}:=I.un (Un.laid k hp (I.aG.fresh hp)) (I.aG.laid k hp new)
theorem Inv.write{x e:Addr}(I:Inv X pins σ H s)(mu:xR (H x))(he:e=x∨H e=some (.own x))(k:∀b u,b≠e→s.heap.get? b=some u→h'.get? b=some u)(t6:∃u,h'.get? e=some u)
  (new:cT X.prog X.w (upd H x o) h' x o):Inv X pins σ (upd H x o) {s with heap:=h',toks:=t'}:=I.un (Un.write mu he k t6) (I.aG.write mu he k t6 new)
theorem Inv.IF{IG:a7}(I:Inv X pins σ H s)(h:∀p∈IG,s.heap.get? p.1=some p.2∧H p.1=none∧p.1≠X.env.locals∧p.1∉X.fs∧∀v,p.2.data≠.cell v):Inv X IG σ H s:=
 ⟨I.ok,I.os,I.bare,I.base,I.loc,I.cell,I.free,I.jU,fun p hp=>(fk.mp hp).elim (fun z=>I.pin p (mi _ z)) (h p),I.aG,I.len⟩
variable {i:Nat} {x:Str}
theorem IH{N:List Str}(hN:N.Nodup){j:Nat}(a:N[i]?=some x)(b:N[j]?=some x):i=j:=by obtain ⟨h1,e1⟩:=bQ.mp a;obtain ⟨h2,e2⟩:=bQ.mp b;exact (List.getElem_inj hN).mp (e1.trans e2.symm)
variable {M:Model} {A:Around} {E:aX} {v:V} {u:Value} {Q:Unit→Shared→Prop}
theorem DO(I:Inv X pins σ H s)(hN:X.N.Nodup)(hi:X.N[i]?=some x)(hx:Loc X.env.scope x)(r:RelV v u)
  (h:∀s',Inv X pins (σ.set i (some v)) H s'→(∃a,Heap.SameBut a s.heap s'.heap∧(a=X.env.locals∨X.env.cells.lookup x=some a))→Q () s') (hf:X.fn x=true∨X.env.scope.names.lookup x=some .local:=by first | exact .inl rfl | exact .inr rfl | assumption):wpAny M A (storeName X.env x u) Q E s:=by
 obtain ⟨m,hn,hl⟩:=id I.loc;have Pe:(X.env.scope.kind == .class || (X.env.scope.kind == .module && X.env.locals != X.env.globals))=false:=by rw [I.ok.kind];rfl
 have II:i<σ.length:=by rw [I.len];exact (bQ.mp hi).1
 have pW:=I.pW;have tracked:∀{a:Addr} {h':Heap},(∃o,s.heap.get? a=some o∧H a=none)→Heap.SameBut a s.heap h'→cH X.prog X.w H h':=fun{a h'} ha hs b ob e=>by
  obtain ⟨_,_,IJ⟩:=ha;refine (I.aG b ob e).kx (fun c w' hc q=>(hs.2 c ?_).trans q) (fun _ q=>q) fun _ _ q=>q;rintro rfl;rcases hc with rfl | hc;·rw [IJ] at e;cases e
  ·rw [IJ] at hc;cases hc
 rcases hx with hk | hk
 ·refine wpAny_storeName_local hk hn (fun h' Pf hs=>?_) Pe
  obtain ⟨oL,_,_,Pg,_⟩:=id hn;refine h _ ⟨I.ok,I.os,I.bare,⟨fun b o e n hb hx=>?_,fun b o e n hb hx=>?_,I.base.free,fun b o e hx=>?_,I.base.ic,I.base.gR,I.base.ie⟩,⟨_,Pf,fun j y v' e1 e2 e3=>?_⟩,fun y c e=>?_,I.free,I.jU,fun p hp=>?_,tracked ⟨oL,Pg,I.free⟩ hs,by simpa using I.len⟩ ⟨_,hs,.inl rfl⟩
  ·exact (hs.2 b (dE (eV (bZ e) I.ok.above))).trans (I.base.keep b o e n hb hx)
  ·obtain ⟨sl,e1⟩:=I.base.slot b o e n hb hx
   exact ⟨sl,(hs.2 b (dE (eV (bZ e) I.ok.above))).trans e1⟩
  ·obtain ⟨o',e1⟩:=I.base.there b o e hx
   exact ⟨o',(hs.2 b (dE (eV (bZ e) I.ok.above))).trans e1⟩
  ·by_cases hj:j=i
   ·subst hj
    rw [hi] at e1;cases e1;rw [List.getElem?_set_self II] at e2;cases e2;exact ⟨u,r,.inl ⟨hk,by simp⟩⟩
   ·rw [List.getElem?_set_ne (Ne.symm hj)] at e2
    obtain ⟨u',r',q⟩:=hl j y v' e1 e2 e3;refine ⟨u',r',?_⟩;rcases q with ⟨k,e⟩ | ⟨k,c,e,z⟩
    ·refine .inl ⟨k,?_⟩
     have:y≠x:=fun e=>hj (IH hN e1 (e▸hi));simp [this,e]
    ·exact .inr ⟨k,c,e,z.sameBut hs (pW y c e)⟩
  ·obtain ⟨w',z⟩:=I.cell y c e
   exact ⟨w',z.sameBut hs (pW y c e)⟩
  ·obtain ⟨e,n,ne,nf,d⟩:=I.pin p hp
   exact ⟨(hs.2 p.1 ne).trans e,n,ne,nf,d⟩
 ·have DP:X.fn x=true:=by
   rcases hf with z | z;·exact z
   ·rw [z] at hk;cases hk
  obtain ⟨c,hc⟩:=I.ok.has x (.inl hk);obtain ⟨w',z⟩:=I.cell x c hc;refine wpAny_storeName_cell I.ok.kind hk hc z (fun h' fq hs=>?_);obtain ⟨oc,IK,Ph⟩:=id z;refine h {s with heap:=h'} ⟨I.ok,I.os,I.bare,⟨fun b o e n hb hx=>?_,fun b o e n hb hx=>?_,I.base.free,fun b o e hx=>?_,I.base.ic,I.base.gR,I.base.ie⟩,⟨m,hn.sameBut hs (Ne.symm (pW x c hc)),fun j y v' e1 e2 e3=>?_⟩,fun y c' e=>?_,I.free,I.jU,fun p hp=>?_,tracked ⟨oc,IK,I.jU x c hc⟩ hs,by simpa using I.len⟩ ⟨c,hs,.inr hc⟩
  ·exact (hs.2 b (dE (eV (bZ e) (I.ok.pS x c DP hc)))).trans (I.base.keep b o e n hb hx)
  ·obtain ⟨sl,e1⟩:=I.base.slot b o e n hb hx
   exact ⟨sl,(hs.2 b (dE (eV (bZ e) (I.ok.pS x c DP hc)))).trans e1⟩
  ·obtain ⟨o',e1⟩:=I.base.there b o e hx
   exact ⟨o',(hs.2 b (dE (eV (bZ e) (I.ok.pS x c DP hc)))).trans e1⟩
  ·by_cases hj:j=i
   ·subst hj
    rw [hi] at e1;cases e1;rw [List.getElem?_set_self II] at e2;cases e2;exact ⟨u,r,.inr ⟨.inl hk,c,hc,fq⟩⟩
   ·rw [List.getElem?_set_ne (Ne.symm hj)] at e2
    obtain ⟨u',r',q⟩:=hl j y v' e1 e2 e3;refine ⟨u',r',?_⟩;rcases q with q | ⟨k,c',e,z'⟩;·exact .inl q
    ·refine .inr ⟨k,c',e,z'.sameBut hs ?_⟩
     rintro rfl;exact hj (IH hN e1 (I.ok.inj _ _ _ e hc▸hi))
  ·by_cases IL:c'=c
   ·subst IL;exact ⟨_,fq⟩
   ·obtain ⟨w2,z2⟩:=I.cell y c' e
    exact ⟨w2,z2.sameBut hs IL⟩
  ·obtain ⟨e,n,ne,nf,d⟩:=I.pin p hp
   refine ⟨(hs.2 p.1 ?_).trans e,n,ne,nf,d⟩;intro q;rw [q,IK] at e;have q':oc=p.2:=Option.some.inj e;exact d w' (by rw [←q'];exact Ph)
theorem xV(I:Inv X pins σ H s)(hN:X.N.Nodup)(hi:X.N[i]?=some x)(hx:Loc X.env.scope x)(r:RelV v u)
  (h:∀s',Inv X pins (σ.set i (some v)) H s'→Q () s') (hf:X.fn x=true∨X.env.scope.names.lookup x=some .local:=by first | exact .inl rfl | exact .inr rfl | assumption):wpAny M A (storeName X.env x u) Q E s:=
 DO I hN hi hx r (fun s' I' _=>h s' I') hf
theorem Inv.pX{s':Shared}(I:Inv X pins σ H s)(ho:s'.os=s.os)(u:Un (cU X.stack) ch H H' s.heap s'.heap)(aG:cH X.prog X.w H' s'.heap)(hg:AllBare s'.gens)
  (lz:∀b∈ch,(b∈X.ex∨X.s₀.heap.objs.size≤b)∧b≠X.env.locals∧(∀x c,X.env.cells.lookup x=some c→c≠b)∧∀p∈X.pn++pins,p.1≠b):Inv X pins σ H' s':=by
 obtain ⟨h',g',d',t',o'⟩:=s';have e:o'=s.os:=ho;subst e;exact I.call (g':=g') (t':=t') (d':=d') u aG hg lz
end
abbrev XK:=Value→Option Addr→Hp→Prop
abbrev St:=List (Option V)
abbrev VK:=V→Hp→Prop
abbrev TE:=St→Hp→VK→Prop
abbrev TT:=St→Hp→(Bool→Hp→Prop)→Prop
abbrev TA:=St→Hp→(List V→Hp→Prop)→Prop
structure Ends where
 nx:St→Hp→Prop
 rt:VK
 bk:St→Hp→Prop:=fun _ _=>False
 ct:St→Hp→Prop:=fun _ _=>False
abbrev TS:=Ends→St→Hp→Prop
def EP(X:Cx)(pins:a7)(σ:St)(Q:VK)(u:Value)(s':Shared):Prop:=∃v H',Inv X pins σ H' s'∧RelV v u∧Q v H'
def TP(X:Cx)(pins:a7)(σ:St)(Q:Bool→Hp→Prop)(b:Bool)(s':Shared):Prop:=∃H',Inv X pins σ H' s'∧Q b H'
def AP(X:Cx)(pins:a7)(σ:St)(Q:List V→Hp→Prop)(us:List Value)(s':Shared):Prop:=∃vs H',Inv X pins σ H' s'∧Vals vs us∧Q vs H'
def SP(X:Cx)(pins:a7)(D:Ends)(f:Flow)(s':Shared):Prop:=
 match f with
 | .next=>∃σ' H',Inv X pins σ' H' s'∧D.nx σ' H'
 | .brk=>∃σ' H',Inv X pins σ' H' s'∧D.bk σ' H'
 | .cont=>∃σ' H',Inv X pins σ' H' s'∧D.ct σ' H'
 | .ret u=>∃v σ' H',Inv X pins σ' H' s'∧RelV v u∧D.rt v H'
def PE(X:Cx)(e:Expr)(t:TE):Prop:=
 ∀(pins:a7) (s:Shared) (σ:St) (H:Hp) (Q:VK),Inv X pins σ H s→t σ H Q→wpAny (model X.prog X.w) X.A (eval e X.env) (EP X pins σ Q) X.xe s
def PT(X:Cx)(e:Expr)(t:TT):Prop:=
 ∀(pins:a7) (s:Shared) (σ:St) (H:Hp) (Q:Bool→Hp→Prop),Inv X pins σ H s→t σ H Q→wpAny (model X.prog X.w) X.A (isTrue e X.env (eval e X.env)) (TP X pins σ Q) X.xe s
def PW(X:Cx)(e:Expr)(t:TT):Prop:=
 ∀(whole:Sem Value) (pins:a7) (s:Shared) (σ:St) (H:Hp) (Q:Bool→Hp→Prop),Inv X pins σ H s→t σ H Q→wpAny (model X.prog X.w) X.A (isTrue e X.env whole) (TP X pins σ Q) X.xe s
variable {X:Cx}
theorem PW.pt{e:Expr}{t:TT}(h:PW X e t):PT X e t:=h _
def PA(X:Cx)(es:List Expr)(t:TA):Prop:=
 ∀(pos:Pos) (pins:a7) (s:Shared) (σ:St) (H:Hp) (Q:List V→Hp→Prop),Inv X pins σ H s→t σ H Q→wpAny (model X.prog X.w) X.A (spliced (backTo pos (starEach es X.env))) (AP X pins σ Q) X.xe s
def PS(X:Cx)(st:Stmt)(t:TS):Prop:=
 ∀(pins:a7) (s:Shared) (σ:St) (H:Hp) (D:Ends),Inv X pins σ H s→t D σ H→wpAny (model X.prog X.w) X.A (exec st X.env) (SP X pins D) X.xe s
def eP(X:Cx)(st:List Stmt)(t:TS):Prop:=
 ∀(pins:a7) (s:Shared) (σ:St) (H:Hp) (D:Ends),Inv X pins σ H s→t D σ H→wpAny (model X.prog X.w) X.A (execs st X.env) (SP X pins D) X.xe s
variable {M:Model} {A:Around} {E:aX} {s:Shared}
theorem aS{α:Type}{t:Sem α}{Q Q':α→Shared→Prop}(h:wpAny M A t Q E s)(hQ:∀a s,Q a s→Q' a s):wpAny M A t Q' E s:=dJ h hQ fun _ _ x=>x
section
variable {X:Cx}
variable {pins:a7} {σ:St}
theorem bin{a b:Expr}{ta tb:TE}(ha:PE X a ta)(hb:PE X b tb){R:V→V→Hp→Prop}(I:Inv X pins σ H s)(h:ta σ H fun x H1=>tb σ H1 fun y H2=>R x y H2)
  {α:Type} {Q:α→Shared→Prop} {f:Value→Value→Sem α}
  (hf:∀v u s2 x y H2,Inv X pins σ H2 s2→RelV x v→RelV y u→R x y H2→wpAny (model X.prog X.w) X.A (f v u) Q X.xe s2) :
  wpAny (model X.prog X.w) X.A (eval a X.env) (fun v s₁=>wpAny (model X.prog X.w) X.A (eval b X.env) (fun u s₂=>wpAny (model X.prog X.w) X.A (f v u) Q X.xe s₂) X.xe s₁) X.xe s:=by
 refine aS (ha pins s σ H _ I h) fun v s1 ⟨x,H1,I1,r1,q1⟩=>?_;refine aS (hb pins s1 σ H1 _ I1 q1) fun u s2 ⟨y,H2,I2,r2,q2⟩=>?_;exact hf v u s2 x y H2 I2 r1 r2 q2
def IM(i:Nat):TE:=fun σ H Q=>∃v,σ[i]?=some (some v)∧Q v H
def tC(v:V):TE:=fun _ H Q=>Q v H
variable {x:Str} {pos:Pos}
theorem Pj{i:Nat}(hN:X.N[i]?=some x)(hv:n4 X.env.scope x)(hd:(x == ("__debug__":Str))=false:=by decide)(fV:(x == ("__classdict__":Str))=false:=by decide):PE X (.Name x pos) (IM i):=by
 intro pins s σ H Q I h;obtain ⟨v,e,h⟩:=h;obtain ⟨m,hn,hl⟩:=I.loc;obtain ⟨u,r,l⟩:=hl i x v hN e hv;have fin:EP X pins σ Q u s:=⟨v,H,I,r,h⟩;rcases l with ⟨hk,hm⟩ | ⟨hk,c,hc,Ak⟩;·exact wpAny_Name (wpAny_loadName_local I.ok.kind hk hn hm fin) hd
 ·rcases hk with hk | hk
  ·exact wpAny_Name (wpAny_loadName_cell I.ok.kind hk hc Ak fin) hd
  ·exact wpAny_Name (wpAny_loadName_free I.ok.kind hk hc Ak fin fV) hd
theorem ag{i j pos}:PE X (.Constant (.int i) j pos) (tC (.int i)):=fun _ _ _ H _ I h=>wpAny_Constant_int ⟨.int i,H,I.tok _,⟨_,rfl⟩,h⟩
theorem eQ{b j pos}:PE X (.Constant (.bool b) j pos) (tC (.bl b)):=fun _ _ _ H _ I h=>Constant_bool ⟨.bl b,H,I,rfl,h⟩
theorem pY{j pos}:PE X (.Constant .none j pos) (tC .aU):=fun _ _ _ H _ I h=>Constant_none ⟨.aU,H,I,rfl,h⟩
theorem dY{x j pos}:PE X (.Constant (.str x) j pos) (tC (.str x)):=fun _ _ _ H _ I h=>Calls.Constant_str ⟨.str x,H,I.tok _,⟨_,rfl⟩,h⟩
def Gl(X:Cx)(x:Str):Prop:=X.env.kindOf x=some .globalImplicit
variable {u:Value} {Q:aX}
theorem Al(I:Inv X pins σ H s)(hg:Gl X x)(hm:X.mg x=some u)(h:Q u s)
  (hd:(x == ("__debug__":Str))=false:=by decide):wpAny (model X.prog X.w) X.A (eval (.Name x pos) X.env) Q E s:=
 Calls.Name_function_global I.ok.kind hg (Calls.loadGlobal_global (by rw [I.ok.glob];exact I.mod.glob.keeps I.bk) hm h) hd
theorem n8(I:Inv X pins σ H s)(hg:Gl X x)(hm:X.mg x=none)(hv:bootBuiltins x=some u)(h:Q u s)
  (hn:x ≠ "__name__":=by decide) (hd:(x == ("__debug__":Str))=false:=by decide):wpAny (model X.prog X.w) X.A (eval (.Name x pos) X.env) Q E s:=by
 obtain ⟨mb,h1,h2⟩:=I.mod.blt;exact Calls.Name_function_global I.ok.kind hg (Calls.loadGlobal_builtin (by rw [I.ok.glob];exact I.mod.glob.keeps I.bk) hm (by rw [I.ok.blt];exact h1.keeps I.bk) ((h2 x hn).trans hv) h) hd
variable {v:V}
theorem IP(hg:Gl X x)(hm:X.mg x=some u)(r:RelV v u)(hd:(x == ("__debug__":Str))=false:=by decide):PE X (.Name x pos) (tC v):=
 fun _ _ _ H _ I h=>Al I hg hm ⟨v,H,I,r,h⟩ hd
theorem lA(hg:Gl X x)(hm:X.mg x=none)(hv:bootBuiltins x=some u)(r:RelV v u)(hn:x ≠ "__name__":=by decide)(hd:(x == ("__debug__":Str))=false:=by decide):PE X (.Name x pos) (tC v):=
 fun _ _ _ H _ I h=>n8 I hg hm hv ⟨v,H,I,r,h⟩ hn hd
variable {a b:Expr} {ta tb:TE} {pos:Pos}
def PC(X:Cx)(op:CmpOp)(a b:Expr)(t:TE):Prop:=
 ∀(pins:a7) (s:Shared) (σ:St) (H:Hp) (Q:VK),Inv X pins σ H s→t σ H Q→
  wpAny (model X.prog X.w) X.A (eval a X.env) (fun v s₁=>wpAny (model X.prog X.w) X.A (eval b X.env) (fun u s₂=>wpAny (model X.prog X.w) X.A (compareOp op v u) (EP X pins σ Q) X.xe s₂) X.xe s₁) X.xe s
def tB(t:TE):TT:=fun σ H Q=>t σ H fun x H1=>∃c,x=.bl c∧Q c H1
variable {t:TE}
theorem aca{op:CmpOp}(h:PC X op a b t)(h1:behindInMarks op b=false:=by first | exact acb _ (by decide) (by decide) | rfl):PT X (.Compare a [op] [b] pos) (tB t):=by intro pins s σ H Q I hw;refine wpAny_isTrue_Compare1 (aS (h pins s σ H _ I hw) fun v s1 h1=>aS h1 fun u s2 h2=>aS h2 fun c s3 ⟨x,H1,I1,r1,q1⟩=>?_) h1;obtain ⟨d,rfl,q⟩:=q1;cases r1;exact nH ⟨H1,I1,q⟩
theorem fW{e:Expr}(h:PE X e t)(he:∀whole,isTrue e X.env whole=(do let v ←whole;standAt e.pos;holding [v] (truthy v)):=by intro _;rfl):PT X e (tB t):=by
 intro pins s σ H Q I hw
 refine isTrue_plain (aS (h pins s σ H _ I hw) fun v s1 ⟨x,H1,I1,r1,q1⟩=>?_) (he _)
 obtain ⟨d,rfl,q⟩:=q1
 cases r1
 exact nH ⟨H1,I1,q⟩
variable {tA xW:TT} {rest:List Expr}
def Pk(t u:TT):TT:=fun σ H Q=>t σ H fun c H1=>if c=true then u σ H1 Q else Q false H1
def Pl(t u:TT):TT:=fun σ H Q=>t σ H fun c H1=>if c=true then Q true H1 else u σ H1 Q
def IQ(t:TT):TT:=fun σ H Q=>t σ H fun c H1=>Q (!c) H1
theorem pw_and1(ha:PT X a tA):PW X (.BoolOp .And [a] pos) tA:=by
 intro wh pins s σ H Q I h;refine isTrue_and (aS (ha pins s σ H Q I h) fun c s1 e=>?_);cases c with
 | true=>exact isTrue_and_nil e
 | false=>exact e
theorem pw_or1(ha:PT X a tA):PW X (.BoolOp .Or [a] pos) tA:=by
 intro wh pins s σ H Q I h;refine isTrue_or (aS (ha pins s σ H Q I h) fun c s1 e=>?_);cases c with
 | false=>exact isTrue_or_nil e
 | true=>exact e
theorem pw_and(ha:PT X a tA)(hb:PW X (.BoolOp .And (b::rest) pos) xW):PW X (.BoolOp .And (a::b::rest) pos) (Pk tA xW):=by
 intro wh pins s σ H Q I h;refine isTrue_and (aS (ha pins s σ H _ I h) fun c s1 ⟨H1,I1,q1⟩=>?_);cases c with
 | true=>exact hb wh pins s1 σ H1 Q I1 q1
 | false=>exact ⟨H1,I1,q1⟩
theorem pw_or(ha:PT X a tA)(hb:PW X (.BoolOp .Or (b::rest) pos) xW):PW X (.BoolOp .Or (a::b::rest) pos) (Pl tA xW):=by
 intro wh pins s σ H Q I h;refine isTrue_or (aS (ha pins s σ H _ I h) fun c s1 ⟨H1,I1,q1⟩=>?_);cases c with
 | true=>exact ⟨H1,I1,q1⟩
 | false=>exact hb wh pins s1 σ H1 Q I1 q1
theorem ig(ha:PT X a tA):PT X (.UnaryOp .Not a pos) (IQ tA):=by intro pins s σ H Q I h;exact isTrue_not (ha pins s σ H (fun c H1=>Q (!c) H1) I h)
def Pm(ta tb:TE):TE:=fun σ H Q=>ta σ H fun x H1=>∃c,x=.bl c∧if c=true then tb σ H1 Q else Q (.bl false) H1
def Pn(ta:TE):TE:=fun σ H Q=>ta σ H fun x H1=>∃c,x=.bl c∧Q (.bl (!c)) H1
theorem pZ{op}(h:PE X a t):PE X (.BoolOp op [a] pos) t:=fun pins s σ H Q I hw=>BoolOp_one (h pins s σ H Q I hw)
theorem mF(ha:PE X a ta)(hb:PE X (.BoolOp .And (b::rest) pos) tb):PE X (.BoolOp .And (a::b::rest) pos) (Pm ta tb):=by
 intro pins s σ H Q I h;refine BoolOp_and (aS (ha pins s σ H _ I h) fun v s1 ⟨x,H1,I1,r1,q1⟩=>?_);obtain ⟨c,rfl,q1⟩:=q1;cases r1;refine nH ?_;cases c with
 | true=>exact hb pins s1 σ H1 Q I1 q1
 | false=>exact ⟨.bl false,H1,I1,rfl,q1⟩
theorem IS(ha:PE X a ta):PE X (.UnaryOp .Not a pos) (Pn ta):=by intro pins s σ H Q I h;refine UnaryOp_ (aS (ha pins s σ H _ I h) fun v s1 ⟨x,H1,I1,r1,q1⟩=>?_);obtain ⟨c,rfl,q1⟩:=q1;cases r1;exact not_of (nH ⟨.bl (!c),H1,I1,rfl,q1⟩)
end
def bU(K:aD)(H:Hp)(a:Addr)(xs:List V):Prop:=
 Rd H a (.lst xs) ∨
  ∃(o:Obj) (aj:Array Value) (n:Nat),K.lookup a=some o∧o.cls=.type "list"∧o.dict=none∧o.data=.seq aj n∧aj.size≤sizeLine∧Vals xs aj.toList
def eC(K:aD)(H:Hp)(a:Addr)(xs:List V):Prop:=
 Rd H a (.tup xs) ∨
  ∃(o:Obj) (aj:Array Value) (n:Nat),K.lookup a=some o∧o.cls=.type "tuple"∧o.data=.seq aj n∧aj.size≤sizeLine∧Vals xs aj.toList
def Po:Value→Option V
 | .none=>some .aU
 | .bool b=>some (.bl b)
 | .int i _=>some (.int i)
 | .str x _=>some (.str x)
 | .bytes b _=>some (.jS b)
 | .float b _=>some (.pP b)
 | .ref a=>some (.ref a)
 | .type n=>some (.ty n)
 | _=>none
variable {x:V} {u:Value}
theorem RelV.abs(r:RelV x u):Po u=some x:=by
 cases x with
 | aU=>cases r;rfl
 | bl _=>cases r;rfl
 | int _=>obtain ⟨t,rfl⟩:=r;rfl
 | str _=>obtain ⟨t,rfl⟩:=r;rfl
 | jS _=>obtain ⟨t,rfl⟩:=r;rfl
 | pP _=>obtain ⟨t,rfl⟩:=r;rfl
 | ref _=>cases r;rfl
 | ty _=>cases r;rfl
theorem RelV.inj{y:V}(r:RelV x u)(q:RelV y u):x=y:=Option.some.inj (r.abs.symm.trans q.abs)
theorem Vals.inj:∀{xs ys:List V} {us:List Value},Vals xs us→Vals ys us→xs=ys
 | _,_,_,.nil,.nil=>rfl
 | _,_,_,.cons r t,.cons r' t'=>by rw [r.inj r',Vals.inj t t']
section
variable {X:Cx} {pins:a7} {σ:St} {H:Hp} {s:Shared} {a:Addr} {xs ys:List V}
variable {K:aD}
theorem bU.of(h:H a=some (.lst xs)):bU K H a xs:=.inl (.inl h)
theorem eC.of(h:H a=some (.tup xs)):eC K H a xs:=.inl (.inl h)
theorem Inv.list(I:Inv X pins σ H s)(h:bU X.K H a xs):∃aj:List Value,Vals xs aj∧PlainL s.heap a aj.toArray∧xs.length≤sizeLine:=by
 rcases h with h | ⟨o,aj,n,hk,hc,hd,hs,hz,r⟩
 ·obtain ⟨z,aj,n,r,e⟩:=h.ok I.aG
  exact ⟨aj,r,⟨_,n,e,rfl,rfl,rfl⟩,z⟩
 ·refine ⟨aj.toList,r,⟨o,n,I.dQ a o hk,hc,hd,by simpa using hs⟩,?_⟩
  have e:=r.length;simp only [Array.length_toList] at e;lia
theorem Inv.tuple(I:Inv X pins σ H s)(h:eC X.K H a xs):∃aj:List Value,Vals xs aj∧IsTup s.heap a aj.toArray∧xs.length≤sizeLine:=by
 rcases h with h | ⟨o,aj,n,hk,hc,hs,hz,r⟩
 ·obtain ⟨z,aj,r,p⟩:=h.ok I.aG
  exact ⟨aj,r,p,z⟩
 ·refine ⟨aj.toList,r,⟨o,I.dQ a o hk,hc,n,by simpa using hs⟩,?_⟩
  have e:=r.length;simp only [Array.length_toList] at e;lia
theorem Inv.DQ(I:Inv X pins σ H s)(h:bU X.K H a xs)(h':bU X.K H a ys):xs=ys:=by
 obtain ⟨aj,r,⟨o,n,e,_,_,d⟩,_⟩:=I.list h;obtain ⟨its',r',⟨o',n',e',_,_,d'⟩,_⟩:=I.list h';rw [e] at e';cases e';rw [d] at d';injection d' with d1 _;have:aj=its':=by simpa using hJ Array.toList d1
 subst this;exact r.inj r'
theorem Inv.Pp(I:Inv X pins σ H s)(h:eC X.K H a xs)(h':eC X.K H a ys):xs=ys:=by
 obtain ⟨aj,r,⟨o,e,_,n,d⟩,_⟩:=I.tuple h;obtain ⟨its',r',⟨o',e',_,n',d'⟩,_⟩:=I.tuple h';rw [e] at e';cases e';rw [d] at d';injection d' with d1 _;have:aj=its':=by simpa using hJ Array.toList d1
 subst this;exact r.inj r'
end
abbrev Cx.lB (X:Cx) (E:aX):Cx:={X with xe:=E}
abbrev Cx.lC (X:Cx):Cx:=X.lB fun _ _=>False
theorem Cx.Ok.lB(ok:X.Ok)(E:aX):(X.lB E).Ok:=
 ⟨ok.mod,ok.kind,ok.glob,ok.blt,ok.above,ok.inj,ok.has,ok.pS,ok.hd,ok.frames,ok.jq,ok.IC,ok.bs,ok.jr,ok.pU,ok.pV,ok.jT,ok.mE⟩
theorem Cx.Ok.n_(ok:(X.lB E).Ok):X.Ok:=
 ⟨ok.mod,ok.kind,ok.glob,ok.blt,ok.above,ok.inj,ok.has,ok.pS,ok.hd,ok.frames,ok.jq,ok.IC,ok.bs,ok.jr,ok.pU,ok.pV,ok.jT,ok.mE⟩
section
variable {X:Cx} {pins:a7} {σ:St} {H:Hp} {s:Shared} {E:aX}
theorem Inv.lB(I:Inv X pins σ H s)(E:aX):Inv (X.lB E) pins σ H s:=⟨I.ok.lB E,I.os,I.bare,I.base,I.loc,I.cell,I.free,I.jU,I.pin,I.aG,I.len⟩
theorem Inv.n_(I:Inv (X.lB E) pins σ H s):Inv X pins σ H s:=⟨I.ok.n_,I.os,I.bare,I.base,I.loc,I.cell,I.free,I.jU,I.pin,I.aG,I.len⟩
theorem SP.n_{D:Ends}{f:Flow}{s':Shared}(h:SP (X.lB E) pins D f s'):SP X pins D f s':=by
 cases f with
 | next=>obtain ⟨σ',H',I,q⟩:=h;exact ⟨σ',H',I.n_,q⟩
 | brk=>obtain ⟨σ',H',I,q⟩:=h;exact ⟨σ',H',I.n_,q⟩
 | cont=>obtain ⟨σ',H',I,q⟩:=h;exact ⟨σ',H',I.n_,q⟩
 | ret u=>obtain ⟨v,σ',H',I,r,q⟩:=h;exact ⟨v,σ',H',I.n_,r,q⟩
theorem eP.lC{st:List Stmt}{t:TS}(h:eP X.lC st t):eP X st t:=fun pins s σ H D I hw=>dJ (h pins s σ H D (I.lB _) hw) (fun _ _ q=>q.n_) fun _ _ z=>False.elim z
end
section
variable {X:Cx} {st:Stmt} {rest:List Stmt} {t u:TS} {e:Expr} {te:TE} {pos:Pos}
def DR:TS:=fun D σ H=>D.nx σ H
def DS(t u:TS):TS:=fun D σ H=>t {D with nx:=u D} σ H
theorem bO:eP X [] DR:=fun _ _ σ H _ I h=>zU ⟨σ,H,I,h⟩
theorem ak(h1:PS X st t)(h2:eP X rest u):eP X (st::rest) (DS t u):=by
 intro pins s σ H D I h;refine wpAny_execs_cons (aS (h1 pins s σ H {D with nx:=u D} I h) fun f s1 q=>?_);cases f with
 | next=>obtain ⟨σ',H',I',q⟩:=q;exact h2 pins s1 σ' H' D I' q
 | ret v=>exact q
 | brk=>exact q
 | cont=>exact q
theorem aq(h1:PS X st t):eP X [st] t:=by
 intro pins s σ H D I h;refine wpAny_execs_cons (aS (h1 pins s σ H D I h) fun f s1 q=>?_);cases f with
 | next=>exact zU q
 | ret v=>exact q
 | brk=>exact q
 | cont=>exact q
theorem Inv.quiet{pins:a7}{σ:St}(I:Inv X pins σ H s):interactive X.env=false:=by simp [interactive,I.ok.kind]
def Pq(te:TE):TS:=fun D σ H=>te σ H fun _ H1=>D.nx σ H1
theorem gS(he:PE X e te)(hs:swapsWith e none pos.line X.env=pure false:=by rfl):PS X (.Expr e pos) (Pq te):=by intro pins s σ H D I h;exact wpAny_Expr_any (aS (he pins s σ H _ I h) fun v s1 ⟨x,H1,I1,r1,q1⟩=>⟨σ,H1,I1,q1⟩) I.quiet hs
def IT(te:TE):TS:=fun D σ H=>te σ H D.rt
theorem aI(he:PE X e te):PS X (.Return (some e) pos) (IT te):=by intro pins s σ H D I h;exact wpAny_Return_some (aS (he pins s σ H _ I h) fun v s1 ⟨x,H1,I1,r1,q1⟩=>⟨x,σ,H1,I1,r1,q1⟩)
def IU(c:TT)(t u:TS):TS:=fun D σ H=>c σ H fun b H1=>if b=true then t D σ H1 else u D σ H1
theorem bL{c:Expr}{a b:List Stmt}{tc:TT}(hc:PT X c tc)(ha:eP X a t)(hb:eP X b u):PS X (.If c a b pos) (IU tc t u):=by
 intro pins s σ H D I h;refine wpAny_If (aS (hc pins s σ H _ I h) fun d s1 ⟨H1,I1,q1⟩=>?_);cases d with
 | true=>exact ha pins s1 σ H1 D I1 q1
 | false=>exact hb pins s1 σ H1 D I1 q1
def Pt:TS:=fun _ _ _=>False
theorem Pu{Pw:List Stmt}:eP X Pw Pt:=fun _ _ _ _ _ _ h=>h.elim
end
abbrev TG:=V→St→Hp→(St→Hp→Prop)→Prop
abbrev p4:=List V→St→Hp→(St→Hp→Prop)→Prop
def PG(X:Cx)(target:Expr)(t:TG):Prop:=
 ∀(pins:a7) (s:Shared) (σ:St) (H:Hp) (v:V) (u:Value) (Q:St→Hp→Prop),Inv X pins σ H s→RelV v u→t v σ H Q→
  wpAny (model X.prog X.w) X.A (assign target X.env u) (fun _ s'=>∃σ' H',Inv X pins σ' H' s'∧Q σ' H') X.xe s
def Am(X:Cx)(ts:List Expr)(t:p4):Prop:=
 ∀(pins:a7) (s:Shared) (σ:St) (H:Hp) (vs:List V) (us:List Value) (Q:St→Hp→Prop),Inv X pins σ H s→Vals vs us→t vs σ H Q→
  wpAny (model X.prog X.w) X.A (assignInOrder ((assignEach ts X.env).map (·.2)) us) (fun _ s'=>∃σ' H',Inv X pins σ' H' s'∧Q σ' H') X.xe s
abbrev DU:=V→V→V→Hp→(Hp→Prop)→Prop
def IV(X:Cx)(t:DU):Prop:=
 ∀(pins:a7) (s:Shared) (σ:St) (H:Hp) (o i v:V) (ov iv u:Value) (Q:Hp→Prop),Inv X pins σ H s→RelV o ov→RelV i iv→RelV v u→t o i v H Q→
  wpAny (model X.prog X.w) X.A (setItem ov iv u) (fun _ s'=>∃H',Inv X pins σ H' s'∧Q H') X.xe s
abbrev An:=V→V→Hp→VK→Prop
def IW(X:Cx)(op:Operator)(t:An):Prop:=
 ∀(pins:a7) (s:Shared) (σ:St) (H:Hp) (x y:V) (v u:Value) (Q:VK),Inv X pins σ H s→RelV x v→RelV y u→t x y H Q→
  wpAny (model X.prog X.w) X.A (inplaceOp op v u) (EP X pins σ Q) X.xe s
section
variable {X:Cx} {pos:Pos}
def b6(i:Nat):TG:=fun v σ H Q=>Q (σ.set i (some v)) H
variable {i:Nat}
theorem bV{x:Str}(hN:X.N.Nodup)(hi:X.N[i]?=some x)(hx:Loc X.env.scope x)(hf:X.fn x=true∨X.env.scope.names.lookup x=some .local:=by first | exact .inl rfl | exact .inr rfl | assumption):PG X (.Name x pos) (b6 i):=by intro pins s σ H v u Q I r h;exact wpAny_assign_Name (xV I hN hi hx r (fun s' I'=>⟨_,H,I',h⟩) hf)
def Px:p4:=fun vs σ H Q=>vs=[]∧Q σ H
def Py(t:TG)(u:p4):p4:=fun vs σ H Q=>∃v r,vs=v::r∧t v σ H fun σ' H'=>u r σ' H' Q
theorem p5:Am X [] Px:=by intro pins s σ H vs us Q I r h;obtain ⟨e,h⟩:=h;subst e;cases r;exact assignInOrder_nil ⟨σ,H,I,h⟩
variable {e:Expr} {es:List Expr}
theorem gT{t:TG}{u:p4}(h1:PG X e t)(h2:Am X es u)
  (hs:(assignEach (e::es) X.env).map (·.2)=assign e X.env::(assignEach es X.env).map (·.2):=by rfl):Am X (e::es) (Py t u):=by
 intro pins s σ H vs us Q I r h;obtain ⟨v,vr,e1,h⟩:=h;subst e1;cases r with
 | cons r rr=>rw [hs];refine assignInOrder_cons (aS (h1 pins s σ H _ _ _ I r h) fun _ s1 ⟨σ1,H1,I1,q1⟩=>?_);exact h2 pins s1 σ1 H1 _ _ Q I1 rr q1
def Pz(K:aD)(n:Nat)(t:p4):TG:=fun v σ H Q=>∃a xs,v=.ref a∧eC K H a xs∧xs.length=n∧t xs σ H Q
theorem p6{k:Nat}{t:p4}{n:Nat}(hc:X.calm=true)(h:Am X es t)
  (hn:(assignEach es X.env).length=n:=by rfl) (DV:(assignEach es X.env).findIdx? (·.1)=none:=by rfl):PG X (.Tuple es k pos) (Pz X.K n t):=by
 intro pins s σ H v u Q I r hw;obtain ⟨a,xs,e1,hq,hl,hw⟩:=hw;subst e1;cases r;obtain ⟨aj,rv,ht,hz⟩:=I.tuple hq;refine assign_Tuple_tuple (I.ok.hd hc) ht (by simp [hn,←hl,rv.length]) DV fun h' hx=>?_
 have I1:Inv X pins σ H {s with heap:=h'}:=I.kept (t':=s.toks) fun b o e=>hx b o (dE (bZ e)) e;exact h pins _ σ H xs _ Q I1 (by simpa using rv) hw
def PB(to ti:TE)(t:DU):TG:=fun v σ H Q=>to σ H fun o H1=>ti σ H1 fun i H2=>t o i v H2 fun H3=>Q σ H3
theorem gU{o i:Expr}{to ti:TE}{t:DU}(ho:PE X o to)(hi:PE X i ti)(hs:IV X t)
  (ha:∀v,assign (.Subscript o i pos) X.env v=(do
   let ov ←holding [v] (eval o X.env)
   let iv ←holding [v,ov] (eval i X.env)
   standAt pos
   holding [v,ov,iv] (setItem ov iv v)
   release [v,ov,iv] []):=by intro _;rfl):PG X (.Subscript o i pos) (PB to ti t):=by
 intro pins s σ H v u Q I r h
 rw [ha]
 refine cS (wpAny_holding (aS (ho pins s σ H _ I h) fun ov s1 ⟨x,H1,I1,r1,q1⟩=>?_))
 refine cS (wpAny_holding (aS (hi pins s1 σ H1 _ I1 q1) fun iv s2 ⟨y,H2,I2,r2,q2⟩=>?_))
 refine cS (wpAny_standAt (cS (wpAny_holding (aS (hs pins s2 σ H2 x y v ov iv u _ I2 r1 r2 r q2) fun _ s3 ⟨H3,I3,q3⟩=>?_))))
 exact wpAny_release ⟨σ,H3,I3,q3⟩
def og(te:TE)(g:TG):TS:=fun D σ H=>te σ H fun x H1=>g x σ H1 D.nx
theorem gj{tg e:Expr}{te:TE}{g:TG}(he:PE X e te)(hg:PG X tg g)(hs:swapsWithSole [tg] e pos.line X.env=pure false:=by rfl)(hw:swappedStores [tg] e X.env=pure none:=by rfl)
  (h1:(assignEach [tg] X.env).map (·.2)=[assign tg X.env]:=by rfl):PS X (.Assign [tg] e pos) (og te g):=by
 intro pins s σ H D I h;refine wpAny_Assign_stores (aS (he pins s σ H _ I h) fun v s1 ⟨x,H1,I1,r1,q1⟩=>?_) hs hw;rw [h1];exact aS (hg pins s1 σ H1 x v _ I1 r1 q1) fun _ s2 q=>q
variable {te:TE} {pos':Pos}
theorem PD{x:Str}(hN:X.N.Nodup)(hi:X.N[i]?=some x)(hx:Loc X.env.scope x)(he:PE X e te)(hs:swapsWith e (some (.Name x pos')) pos.line X.env=pure false:=by rfl)(hf:X.fn x=true∨X.env.scope.names.lookup x=some .local:=by first | exact .inl rfl | exact .inr rfl | assumption) :
  PS X (.Assign [.Name x pos'] e pos) (og te (b6 i)):=by
 intro pins s σ H D I h;refine wpAny_Assign_Name (aS (he pins s σ H _ I h) fun v s1 ⟨y,H1,I1,r1,q1⟩=>?_) hs;exact xV I1 hN hi hx r1 (fun s2 I2=>⟨_,H1,I2,q1⟩) hf
def PF(i j:Nat)(ta:TA):TS:=fun D σ H=>ta σ H fun vs H1=>∃v w,vs=[v,w]∧D.nx ((σ.set i (some v)).set j (some w)) H1
theorem Ao{j:Nat}{x y:Str}{a b:Expr}{ta:TA}{px py pt:Pos}{kt k2 DW}(hc:X.calm=true)(hN:X.N.Nodup)(hi:X.N[i]?=some x)(hj:X.N[j]?=some y)(Ap:i≠j)
  (hx:X.env.scope.names.lookup x=some .local) (hy:X.env.scope.names.lookup y=some .local) (ha:PA X [a,b] ta)
  (hw:swappedStores [.Tuple [.Name x px,.Name y py] kt pt] (.Tuple [a,b] k2 DW) X.env=pure (some [x,y]))
  (hs:swapsWithSole [.Tuple [.Name x px,.Name y py] kt pt] (.Tuple [a,b] k2 DW) pos.line X.env=pure false:=by rfl) :
  PS X (.Assign [.Tuple [.Name x px,.Name y py] kt pt] (.Tuple [a,b] k2 DW) pos) (PF i j ta):=by
 intro pins s σ H D I h
 rw [exec_Assign_arm]
 refine cS (wpAny_standAt ?_)
 rw [hs]
 refine cS (fR ?_)
 rw [ao (by decide)]
 refine cS (Tuple_ (aS (ha _ pins s σ H _ I h) fun us s1 ⟨vs,H1,I1,r1,q1⟩=>?_))
 obtain ⟨v,w,e1,q1⟩:=q1
 subst e1
 obtain ⟨u1,u2,rfl,rv,p7⟩:∃u1 u2,us=[u1,u2]∧RelV v u1∧RelV w u2:=by
  cases r1 with
  | cons p q=>
   cases q with
   | cons p' q'=>
    cases q'
    exact ⟨_,_,rfl,p,p'⟩
 refine zV ?_ (by show 2≤sizeLine;decide)
 have I2:Inv X pins σ H1 {s1 with heap:=s1.heap.push {cls:=.type "tuple",data:=.seq [u1,u2].toArray}}:=I1.kept (t':=s1.toks) fun b o e=>cL _ e
 rw [hw]
 refine cS (fR ?_)
 show wpAny (model X.prog X.w) X.A (do rule "assign.swapped-stores";let items ←unpackItems (.ref s1.heap.objs.size) 2 none;assignInOrder [fun v=>bindName X.env y v,fun v=>bindName X.env x v] items.reverse;pure Flow.next) _ _ _
 refine cS (wpAny_rule (cS (unpackItems_tuple (items:=#[u1,u2]) (I.ok.hd hc) (IsTup.new s1.heap _) fun h' Aq=>?_)))
 have I3:=I2.kept (h':=h') (t':=s1.toks) fun b o e=>Aq b o (dE (bZ e)) e
 show wpAny _ _ (assignInOrder [fun v=>bindName X.env y v,fun v=>bindName X.env x v] [u2,u1] >>= fun _=>pure Flow.next) _ _ _
 refine cS (assignInOrder_cons (wpAny_bindName (xV I3 hN hj (.inl hy) p7 (fun s2 I4=>?_) (.inr hy))))
 refine assignInOrder_cons (wpAny_bindName (xV I4 hN hi (.inl hx) rv (fun s3 I5=>assignInOrder_nil (fR ?_)) (.inr hx)))
 rw [List.set_comm _ _ (Ne.symm Ap)] at I5
 exact ⟨_,H1,I5,q1⟩
def PH(i:Nat)(te:TE)(ti:An):TS:=fun D σ H=>∃x,σ[i]?=some (some x)∧te σ H fun y H1=>ti x y H1 fun z H2=>D.nx (σ.set i (some z)) H2
theorem PJ{x:Str}{op:Operator}{ti:An}(hN:X.N.Nodup)(hi:X.N[i]?=some x)(hx:Loc X.env.scope x)(he:PE X e te)(ho:IW X op ti)(hf:X.fn x=true∨X.env.scope.names.lookup x=some .local:=by first | exact .inl rfl | exact .inr rfl | assumption) :
  PS X (.AugAssign (.Name x pos') op e pos) (PH i te ti):=by
 intro pins s σ H D I h;obtain ⟨v,e1,h⟩:=h;obtain ⟨m,hn,hl⟩:=I.loc;have PK:n4 X.env.scope x:=by rcases hx with k | k;exact .inl k;exact .inr (.inl k)
 obtain ⟨u,r,l⟩:=hl i x v hi e1 PK;refine wpAny_AugAssign_Name ?_;have go:wpAny (model X.prog X.w) X.A (eval e X.env) (fun w s₂=>wpAny (model X.prog X.w) X.A (inplaceOp op u w) (fun r s₃=>wpAny (model X.prog X.w) X.A (storeName X.env x r) (fun _=>SP X pins D .next) X.xe s₃) X.xe s₂) X.xe s:=by refine aS (he pins s σ H _ I h) fun w s1 ⟨y,H1,I1,r1,q1⟩=>?_;refine aS (ho pins s1 σ H1 v y u w _ I1 r r1 q1) fun z s2 ⟨zv,H2,I2,r2,q2⟩=>?_;exact xV I2 hN hi hx r2 (fun s3 I3=>⟨_,H2,I3,q2⟩) hf
 rcases l with ⟨hk,hm⟩ | ⟨hk,c,hc,Ak⟩;·exact wpAny_loadName_local I.ok.kind hk hn hm go
 ·rcases hk with hk | hk
  ·exact wpAny_loadName_cell I.ok.kind hk hc Ak go
  ·rcases hx with k | k
   ·have:X.env.scope.names.lookup x=some .free:=hk
    rw [k] at this;cases this
   ·have:X.env.scope.names.lookup x=some .free:=hk
    rw [k] at this;cases this
def PL(f:Int→Int→Int):An:=fun x y H Q=>∃i j,x=.int i∧y=.int j∧Q (.int (f i j)) H
theorem PM:IW X .Add (PL fun i j=>i+j):=by intro pins s σ H x y v u Q I r1 r2 h;obtain ⟨i,j,e1,e2,q⟩:=h;subst e1;subst e2;obtain ⟨t,rfl⟩:=r1;obtain ⟨t',rfl⟩:=r2;exact iadd_int ⟨.int _,H,I.tok _,⟨_,rfl⟩,q⟩
end
section
variable {X:Cx} {pos:Pos}
def PN(c:TT)(tb:TS):TS:=fun D σ H=>∃W:Nat→St→Hp→Prop,(∃m,W m σ H)∧∀m σ H,W m σ H→
 c σ H fun b H1=>if b=true then ∃N:St→Hp→Prop,(∀σ' H',N σ' H'→∃m',m'<m∧W m' σ' H')∧tb {D with nx:=N,ct:=N,bk:=D.nx} σ H1 else D.nx σ H1
theorem p8{c:Expr}{body:List Stmt}{tc:TT}{tb:TS}(hp:PassesOwn (model X.prog X.w) X.A X.env X.xe)(hc:PT X c tc)(hb:eP X body tb):PS X (.While c body [] pos) (PN tc tb):=by
 intro pins s σ H D I h;obtain ⟨W,⟨m0,w0⟩,turn⟩:=h;refine wpAny_While (codeAny_whileLoop (fun n s'=>∃σ' H',Inv X pins σ' H' s'∧W n σ' H') ?_ m0 ⟨σ,H,I,w0⟩);rintro n s1 ⟨σ1,H1,I1,w1⟩;refine pA hp (aS (hc pins s1 σ1 H1 _ I1 (turn n σ1 H1 w1)) fun b s2 ⟨H2,I2,q2⟩=>?_);cases b with
 | true=>
  obtain ⟨N,hN,q2⟩:=q2;rw [ar rfl];refine pA hp (aS (hb pins s2 σ1 H2 _ I2 q2) fun f s3 q3=>?_);cases f with
  | next=>obtain ⟨σ3,H3,I3,n3⟩:=q3;obtain ⟨m',hm,w3⟩:=hN σ3 H3 n3;exact ⟨m',hm,σ3,H3,I3,w3⟩
  | cont=>obtain ⟨σ3,H3,I3,n3⟩:=q3;obtain ⟨m',hm,w3⟩:=hN σ3 H3 n3;exact ⟨m',hm,σ3,H3,I3,w3⟩
  | brk=>exact q3
  | ret v=>exact q3
 | false=>rw [ao dA];exact zU ⟨σ1,H2,I2,q2⟩
end
structure It where
 go:Nat→Hp→Prop
 gk:Nat→Hp→V→Hp→Prop
 stop:Nat→Hp→Prop
def mG(X:Cx)(pins:a7)(H:Hp)(b:Addr):Prop:=
 H b=none∧b≠X.env.locals∧b∉X.fs∧(b∈X.ex∨X.s₀.heap.objs.size≤b)∧(∀x c,X.env.cells.lookup x=some c→c≠b)∧∀p∈X.pn++pins,p.1≠b
variable {σ:St}
theorem Inv.p9{pins:a7}{H':Hp}(I:Inv X pins σ H s)(hb:s.heap.objs.size≤b)(hn:H' b=none):mG X pins H' b:=by
 refine ⟨hn,Nat.ne_of_gt (eV I.lt hb),I.Pc hb,.inr (aH I.sz hb),fun x c e z=>?_,fun p hp z=>?_⟩
 ·obtain ⟨v,q⟩:=I.cell x c e
  exact absurd (eV q.lt (by rw [z];exact hb)) (iM _)
 ·exact absurd (eV (bZ (I.pin p hp).1) (by rw [z];exact hb)) (iM _)
structure Turn (P:Program) (w:World) (K:aD) (tg:Expr) (J:It) (fp:List Addr) (it:Addr) (tn:Nat→Heap→Prop):Prop where
 mem:it∈fp
 obj:∀i h,tn i h→∀b∈fp,∃o,h.get? b=some o∧∀v,o.data≠.cell v
 keep:∀i h h',tn i h→(∀b∈fp,∀o,h.get? b=some o→h'.get? b=some o)→tn i h'
 item:∀(X:Cx),X.prog=P→X.w=w→X.K=K→X.calm=true→∀(i:Nat) (pins:a7) (s:Shared) (σ:St) (H:Hp) (E:aX),Inv X pins σ H s→(∀b∈fp,mG X pins H b)→tn i s.heap→J.go i H→
  wpAny (model P w) X.A (pyNext (.ref it)) (fun r s1=>∃u,r=some u ∧
   wpAny (model P w) X.A (letOwnedTupleGo tg (.ref it) u) (fun _ s2=>∃x H',Inv X pins σ H' s2∧RelV x u∧J.gk i H x H'∧tn (i+1) s2.heap∧∀b∈fp,H' b=none) E s1) E s
 done:∀(X:Cx),X.prog=P→X.w=w→X.K=K→X.calm=true→∀(i:Nat) (pins:a7) (s:Shared) (σ:St) (H:Hp) (E:aX),Inv X pins σ H s→(∀b∈fp,mG X pins H b)→tn i s.heap→J.stop i H→
  wpAny (model P w) X.A (pyNext (.ref it)) (fun r s1=>r=none∧Inv X pins σ H s1) E s
 self:∀(A:Around) (i:Nat) (s:Shared) (Q:aX) (E:aX),tn i s.heap→Q (.ref it) s→wpAny (model P w) A (pyIter (.ref it)) Q E s
abbrev TI:=St→Hp→(It→Hp→Prop)→Prop
def Ar(X:Cx)(pins:a7)(σ:St)(tg:Expr)(R:It→Hp→Prop)(xX:Value)(s2:Shared):Prop:=
 ∃(it:Addr) (fp:List Addr) (tn:Nat→Heap→Prop) (J:It) (H':Hp),xX=.ref it∧Inv X pins σ H' s2∧Turn X.prog X.w X.K tg J fp it tn∧tn 0 s2.heap∧(∀b∈fp,mG X pins H' b)∧R J H'
def PI(X:Cx)(tg iter:Expr)(wi:TI):Prop:=
 ∀(pins:a7) (s:Shared) (σ:St) (H:Hp) (R:It→Hp→Prop),Inv X pins σ H s→wi σ H R→
  wpAny (model X.prog X.w) X.A (eval iter X.env) (fun v s1=>wpAny (model X.prog X.w) X.A (pyIter v) (Ar X pins σ tg R) X.xe s1) X.xe s
variable {tg:Expr}
theorem t8{it:Addr}{o:Obj}{n:String}{vs:Array Value}{Q:Unit→Shared→Prop}(ho:s.heap.get? it=some o)(hc:o.cls=.type n)(hd:o.data=.fields vs)
    (hn:["enumerate","zip","dict_itemiterator","dict_reverseitemiterator","odict_iterator","itertools.zip_longest","itertools.pairwise"].contains n=false) (hQ:Q () s):wpAny M A (letOwnedTupleGo tg (.ref it) u) Q E s:=by
  unfold letOwnedTupleGo
  cases tg <;> first
    | exact fR hQ
    | (cases u <;> first
        | exact fR hQ
        | (refine cS (wpAny_load ho ?_)
           rw [hc,hd];show wpAny M A (if (["enumerate","zip","dict_itemiterator","dict_reverseitemiterator","odict_iterator","itertools.zip_longest","itertools.pairwise"].contains n && vs[0]? == some (rawInt _))=true then _ else _) Q E s
           rw [ao (by intro h;rw [hn,Bool.false_and] at h;cases h)]
           exact fR hQ))
def t9(K:aD)(a:Addr):It:=
 ⟨fun i H=>∃xs x,bU K H a xs∧xs[i]?=some x,fun i H x H'=>H'=H∧∀xs,bU K H a xs→xs[i]?=some x,fun i H=>∃xs,bU K H a xs∧xs.length≤i⟩
def xY(K:aD)(a:Addr):It:=
 ⟨fun i H=>∃xs x,eC K H a xs∧xs[i]?=some x,fun i H x H'=>H'=H∧∀xs,eC K H a xs→xs[i]?=some x,fun i H=>∃xs,eC K H a xs∧xs.length≤i⟩
def mH(lo:Int)(n:Nat):It:=⟨fun i _=>i<n,fun i H x H'=>H'=H∧x=.int (lo+i),fun i _=>n≤i⟩
variable {K:aD}
theorem PQ(a it:Addr):Turn P w K tg (t9 K a) [it] it (fun i h=>h.IsListIter it a i) where
 mem:=by simp
 obj:=fun i h st b hb=>by
  have e:b=it:=by simpa using hb
  subst e;obtain ⟨o,e,c,d⟩:=st;exact ⟨o,e,fun v z=>by rw [d] at z;cases z⟩
 keep:=fun i h h' st k=>st.at fun o e=>k it (by simp) o e
 item:=by
  intro X hP hw hK hc i pins s σ H E I hf st hg;subst hP hw hK;obtain ⟨xs,x,hq,hx⟩:=hg;obtain ⟨aj,rv,p,hz⟩:=I.list hq;obtain ⟨u,hu,ru⟩:=rv.get hx;obtain ⟨f0,f1,f2,f3,f4,f5⟩:=hf it (by simp)
  refine wpAny_pyNext_list_item st p.isList (x:=u) (by simpa using hu) fun h' gG sb=>?_
  have I1:Inv X pins σ H {s with heap:=h'}:=I.turned (t':=s.toks) (fun b o hb e=>(sb.2 b hb).trans e) f0 f1 f3 f4 f5;obtain ⟨o,e,c,d⟩:=id gG;exact ⟨u,rfl,t8 (s:={s with heap:=h'}) e c d (by decide) ⟨x,H,I1,ru,⟨rfl,fun ys hy=>by rw [I.DQ hy hq];exact hx⟩,gG,fun b hb=>(hf b hb).1⟩⟩
 done:=by
  intro X hP hw hK hc i pins s σ H E I hf st hg;subst hP hw hK;obtain ⟨xs,hq,hx⟩:=hg;obtain ⟨aj,rv,p,hz⟩:=I.list hq;obtain ⟨f0,f1,f2,f3,f4,f5⟩:=hf it (by simp)
  have hl:=rv.length;exact wpAny_pyNext_list_end (I.ok.hd hc) st p.isList (by simp;lia) fun h' eb=>⟨rfl,I.turned (t':=s.toks) (fun b o hb e=>eb b o hb e) f0 f1 f3 f4 f5⟩
 self:=fun _ _ _ _ _ st h=>wpAny_pyIter_listiter st h
theorem PR(a it:Addr):Turn P w K tg (xY K a) [it] it (fun i h=>h.IsTupleIter it a i) where
 mem:=by simp
 obj:=fun i h st b hb=>by
  have e:b=it:=by simpa using hb
  subst e;obtain ⟨o,e,c,d⟩:=st;exact ⟨o,e,fun v z=>by rw [d] at z;cases z⟩
 keep:=fun i h h' st k=>st.at fun o e=>k it (by simp) o e
 item:=by
  intro X hP hw hK hc i pins s σ H E I hf st hg;subst hP hw hK;obtain ⟨xs,x,hq,hx⟩:=hg;obtain ⟨aj,rv,p,hz⟩:=I.tuple hq;obtain ⟨u,hu,ru⟩:=rv.get hx;obtain ⟨f0,f1,f2,f3,f4,f5⟩:=hf it (by simp)
  refine wpAny_pyNext_tuple_item st (show s.heap.IsTuple a aj.toArray from p) (x:=u) (by simpa using hu) fun h' gG sb=>?_
  have I1:Inv X pins σ H {s with heap:=h'}:=I.turned (t':=s.toks) (fun b o hb e=>(sb.2 b hb).trans e) f0 f1 f3 f4 f5;obtain ⟨o,e,c,d⟩:=id gG;exact ⟨u,rfl,t8 (s:={s with heap:=h'}) e c d (by decide) ⟨x,H,I1,ru,⟨rfl,fun ys hy=>by rw [I.Pp hy hq];exact hx⟩,gG,fun b hb=>(hf b hb).1⟩⟩
 done:=by
  intro X hP hw hK hc i pins s σ H E I hf st hg;subst hP hw hK;obtain ⟨xs,hq,hx⟩:=hg;obtain ⟨aj,rv,p,hz⟩:=I.tuple hq;obtain ⟨f0,f1,f2,f3,f4,f5⟩:=hf it (by simp)
  have hl:=rv.length;exact wpAny_pyNext_tuple_end (I.ok.hd hc) st (show s.heap.IsTuple a aj.toArray from p) (by simp;lia) fun h' eb=>⟨rfl,I.turned (t':=s.toks) (fun b o hb e=>eb b o hb e) f0 f1 f3 f4 f5⟩
 self:=fun _ _ _ _ _ st h=>wpAny_pyIter_tupleiter st h
theorem PU(it:Addr)(lo:Int)(n:Nat):Turn P w K tg (mH lo n) [it] it (fun i h=>IsRangeIter h it (lo+(i:Nat)*1) ((n:Int)-(i:Nat)) 1) where
 mem:=by simp
 obj:=fun i h st b hb=>by
  have e:b=it:=by simpa using hb
  subst e;exact ⟨_,st,fun v z=>by have z':Data.fields _=Data.cell v:=z;cases z'⟩
 keep:=fun i h h' st k=>k it (by simp) _ st
 item:=by
  intro X hP hw hK hc i pins s σ H E I hf st hg;subst hP hw hK;obtain ⟨f0,f1,f2,f3,f4,f5⟩:=hf it (by simp)
  have W:=Walks.range (prog:=X.prog) (w:=X.w) (I.ok.hd hc) it lo 1 n;refine W.item i s _ _ hg st fun v h' tk hv gG kk=>?_;obtain ⟨t,rfl⟩:=hv;have I1:Inv X pins σ H {s with heap:=h',toks:=tk}:=I.turned (fun b o hb e=>kk b o (by simpa using hb) e) f0 f1 f3 f4 f5
  refine ⟨_,rfl,t8 (s:={s with heap:=h',toks:=tk}) (n:="range_iterator") gG rfl rfl (by decide) ⟨.int (lo+i),H,I1,⟨t,?_⟩,⟨rfl,rfl⟩,gG,fun b hb=>(hf b hb).1⟩⟩
  rw [fS]
 done:=by
  intro X hP hw hK hc i pins s σ H E I hf st hg;subst hP hw hK;obtain ⟨f0,f1,f2,f3,f4,f5⟩:=hf it (by simp)
  exact wpAny_pyNext_range_end (I.ok.hd hc) st (by have:n≤i:=hg;lia) fun h' eb=>⟨rfl,I.turned (t':=s.toks) (fun b o hb e=>eb b o hb e) f0 f1 f3 f4 f5⟩
 self:=fun _ _ _ _ _ st h=>wpAny_pyIter_rangeiter st h
section
variable {X:Cx} {tg:Expr}
def IY(K:aD)(tl:TE):TI:=fun σ H R=>tl σ H fun x H1=>∃a,x=.ref a∧(∃xs,bU K H1 a xs)∧R (t9 K a) H1
def PV(K:aD)(tl:TE):TI:=fun σ H R=>tl σ H fun x H1=>∃a,x=.ref a∧(∃xs,eC K H1 a xs)∧R (xY K a) H1
variable {l:Expr} {tl:TE}
theorem dR(hl:PE X l tl):PI X tg l (IY X.K tl):=by
 intro pins s σ H R I h;refine aS (hl pins s σ H _ I h) fun v s1 ⟨x,H1,I1,r1,q1⟩=>?_;obtain ⟨a,e,⟨xs,hq⟩,q⟩:=q1;subst e;cases r1;obtain ⟨aj,rv,p,hz⟩:=I1.list hq;refine zW p.isList ?_;refine ⟨s1.heap.objs.size,[s1.heap.objs.size],_,_,H1,rfl,I1.kept (t':=s1.toks) fun b o e=>cL _ e,PQ a _,⟨_,fm _ rfl,rfl,rfl⟩,fun b hb=>?_,q⟩;have e:b=s1.heap.objs.size:=by simpa using hb
 subst e;exact I1.p9 (aK _) (I1.aG.fresh (aK _))
theorem PX(hl:PE X l tl):PI X tg l (PV X.K tl):=by
 intro pins s σ H R I h;refine aS (hl pins s σ H _ I h) fun v s1 ⟨x,H1,I1,r1,q1⟩=>?_;obtain ⟨a,e,⟨xs,hq⟩,q⟩:=q1;subst e;cases r1;obtain ⟨aj,rv,p,hz⟩:=I1.tuple hq;refine wpAny_pyIter_tuple (show s1.heap.IsTuple a aj.toArray from p) ?_;refine ⟨s1.heap.objs.size,[s1.heap.objs.size],_,_,H1,rfl,I1.kept (t':=s1.toks) fun b o e=>cL _ e,PR a _,⟨_,fm _ rfl,rfl,rfl⟩,fun b hb=>?_,q⟩;have e:b=s1.heap.objs.size:=by simpa using hb
 subst e;exact I1.p9 (aK _) (I1.aG.fresh (aK _))
variable {pins:a7}
theorem IZ{R:It→Hp→Prop}{lo hi:Int}{t u v:Tok}{tk:Nat}(I:Inv X pins σ H s)(h1:-(2 ^ 62)≤lo)(h2:lo<2 ^ 62)(h3:-(2 ^ 62)≤hi)(h4:hi<2 ^ 62)
  (q:R (mH lo (hi-lo).toNat) H):wpAny (model X.prog X.w) X.A (pyIter (.ref s.heap.objs.size)) (Ar X pins σ tg R) E {s with heap:=s.heap.push {cls:=.type "range",data:=.fields #[.int lo t,.int hi u,.int 1 v]},toks:=tk}:=by
 refine wpAny_pyIter_range (IsRange.new ..) (small_one h1 h2 h3 h4) ?_;have I1:Inv X pins σ H {s with heap:=s.heap.push {cls:=.type "range",data:=.fields #[.int lo t,.int hi u,.int 1 v]},toks:=tk}:=I.kept fun b o e=>cL _ e
 refine ⟨(s.heap.push {cls:=.type "range",data:=.fields #[.int lo t,.int hi u,.int 1 v]}).objs.size,[(s.heap.push {cls:=.type "range",data:=.fields #[.int lo t,.int hi u,.int 1 v]}).objs.size],_,_,H,rfl,
  I1.kept (t':=tk) fun b o e=>cL _ e,PU _ lo (hi-lo).toNat,?_,fun b hb=>?_,q⟩
 ·have e1:lo+((0:Nat):Int)*1=lo:=by simp
  have e2:(((hi-lo).toNat:Nat):Int)-((0:Nat):Int)=Builtin.Range.rangeSize lo hi 1:=by rw [rangeSize_one];split <;> lia
  show IsRangeIter _ _ (lo+((0:Nat):Int)*1) ((((hi-lo).toNat:Nat):Int)-((0:Nat):Int)) 1;rw [e1,e2];exact fm _ rfl
 ·have e:b=(s.heap.push {cls:=.type "range",data:=.fields #[.int lo t,.int hi u,.int 1 v]}).objs.size:=by simpa using hb
  subst e;exact I1.p9 (aK _) (I1.aG.fresh (aK _))
def PY(ta:TA):TI:=fun σ H R=>ta σ H fun vs H1=>∃j:Int,vs=[.int j]∧-(2 ^ 62)≤j∧j<2 ^ 62∧R (mH 0 j.toNat) H1
def PZ(ta:TA):TI:=fun σ H R=>ta σ H fun vs H1=>∃i j:Int,vs=[.int i,.int j]∧(-(2 ^ 62)≤i∧i<2 ^ 62∧-(2 ^ 62)≤j∧j<2 ^ 62)∧R (mH i (j-i).toNat) H1
variable {ta:TA} {p pos:Pos}
theorem gq{a:Expr}(hg:Gl X "range")(hm:X.mg "range"=none)(ha:PA X [a] ta)(hs:starEach [a] X.env=[(false,eval a X.env)]:=by rfl):PI X tg (.Call (.Name "range" p) [a] [] pos) (PY ta):=by
 intro pins s σ H R I h;refine Call_ (n8 I hg hm boot_range (tS (aS (ha pos pins s σ H _ I h) fun us s1 ⟨vs,H1,I1,r1,q1⟩=>?_) hs rfl));obtain ⟨j,e,q1,q2,q⟩:=q1;subst e;cases r1 with
 | cons r rr=>cases rr;obtain ⟨t,rfl⟩:=r;exact call_range_1 (IZ I1 (by lia) (by lia) q1 q2 (by simpa using q))
theorem As{a b:Expr}(hg:Gl X "range")(hm:X.mg "range"=none)(ha:PA X [a,b] ta)(hs:starEach [a,b] X.env=[(false,eval a X.env),(false,eval b X.env)]:=by rfl)(lD:starEach [b] X.env=[(false,eval b X.env)]:=by rfl) :
  PI X tg (.Call (.Name "range" p) [a,b] [] pos) (PZ ta):=by
 intro pins s σ H R I h;refine Call_ (n8 I hg hm boot_range (tS (aS (ha pos pins s σ H _ I h) fun us s1 ⟨vs,H1,I1,r1,q1⟩=>?_) (by rw [hs,lD]) (by rw [lD];rfl)))
 obtain ⟨i,j,e,⟨q1,q2,q3,q4⟩,q⟩:=q1;subst e;cases r1 with
 | cons r rr=>
  cases rr with
  | cons r' rr=>cases rr;obtain ⟨t,rfl⟩:=r;obtain ⟨t',rfl⟩:=r';exact call_range_2 (IZ I1 q1 q2 q3 q4 q)
def P0(wi:TI)(g:TG)(tb:TS):TS:=fun D σ H=>wi σ H fun J H1=>∃W:Nat→Nat→St→Hp→Prop,(∃m,W 0 m σ H1)∧∀i m σ H,W i m σ H→
 (J.stop i H∧D.nx σ H)∨(J.go i H∧∃N:St→Hp→Prop,(∀σ' H',N σ' H'→∃m',m'<m∧W (i+1) m' σ' H')∧∀x H',J.gk i H x H'→g x σ H' fun σ2 H2=>tb {D with nx:=N,ct:=N,bk:=D.nx} σ2 H2)
def lE(fp:List Addr)(h:Heap):List (Addr×Obj):=fp.filterMap fun b=>(h.get? b).map fun o=>(b,o)
variable {fp:List Addr}
theorem oh{o:Obj}(hb:b∈fp)(e:h.get? b=some o):(b,o)∈lE fp h:=List.mem_filterMap.mpr ⟨b,hb,by rw [e];rfl⟩
theorem P1{p:Addr×Obj}(hp:p∈lE fp h):p.1∈fp∧h.get? p.1=some p.2:=by
 obtain ⟨b,hb,e⟩:=List.mem_filterMap.mp hp;cases q:h.get? b with
 | none=>rw [q] at e;cases e
 | some o=>rw [q] at e;have e':(b,o)=p:=Option.some.inj e;subst e';exact ⟨hb,q⟩
theorem Inv.pinned(I:Inv X pins σ H s)(hf:∀b∈fp,mG X pins H b)(ho:∀b∈fp,∃o,s.heap.get? b=some o∧∀v,o.data≠.cell v):Inv X (pins++lE fp s.heap) σ H s:=
 I.IF fun p hp=>(fk.mp hp).elim (fun z=>I.pin p (eB _ z)) fun z=>by obtain ⟨hb,e⟩:=P1 z;obtain ⟨f0,f1,f2,_⟩:=hf p.1 hb;obtain ⟨o,e',d⟩:=ho p.1 hb;rw [e] at e';cases e';exact ⟨e,f0,f1,f2,d⟩
theorem Inv.t_{pl:a7}(I:Inv X (pins++pl) σ H s):Inv X pins σ H s:=I.IF fun p hp=>I.pin p (eB _ (mi _ hp))
theorem cN{iter:Expr}{body:List Stmt}{wi:TI}{g:TG}{tb:TS}(hp:PassesOwn (model X.prog X.w) X.A X.env X.xe)(hc:X.calm=true)(hi:PI X tg iter wi)(hg:PG X tg g)(hb:eP X body tb)
  (hs:∀x,foldedSetIterable iter X.env x=pure x:=by intro _;rfl):PS X (.For tg iter body [] pos) (P0 wi g tb):=by
 intro pins s σ H D I h;refine wpAny_For (aS (hi pins s σ H _ I h) fun v s1 h1=>aS h1 fun xX s2 h2=>?_) hs;obtain ⟨it,fp,tn,J,H2,e,I2,T,gH,f2,W,⟨m0,w0⟩,turn⟩:=h2;subst e;have iq:∀{H':Hp},(∀b∈fp,H' b=none)→∀b∈fp,mG X pins H' b:=fun hn b hb=>⟨hn b hb,(f2 b hb).2⟩;refine codeAny_forLoop_any (fun n s'=>∃i σ' H',Inv X pins σ' H' s'∧tn i s'.heap∧(∀b∈fp,H' b=none)∧W i n σ' H') ?_ m0 ⟨0,σ,H2,I2,gH,fun b hb=>(f2 b hb).1,w0⟩;rintro n s3 ⟨i,σ3,H3,I3,I_,Ja,w3⟩;rcases turn i n σ3 H3 w3 with ⟨stop,qn⟩ | ⟨go,N,hN,step⟩
 ·refine pA hp (aS (T.done X rfl rfl rfl hc i pins s3 σ3 H3 X.xe I3 (iq Ja) I_ stop) fun r s4 ⟨hr,I4⟩=>?_)
  subst hr;exact zU ⟨σ3,H3,I4,qn⟩
 ·refine pA hp (aS (T.item X rfl rfl rfl hc i pins s3 σ3 H3 X.xe I3 (iq Ja) I_ go) fun r s4 ⟨u,hr,h4⟩=>?_)
  subst hr;refine pA hp (aS h4 fun _ s5 ⟨x,H5,I5,r5,y5,ir,p_⟩=>?_);have qa:=I5.pinned (iq p_) (T.obj _ _ ir);refine pA hp (aS (hg _ s5 σ3 H5 x u _ qa r5 (step x H5 y5)) fun _ s6 ⟨σ6,H6,I6,q6⟩=>?_);refine pA hp (aS (hb _ s6 σ6 H6 _ I6 q6) fun f s7 q7=>?_);have again:∀{σ7:St} {H7:Hp},Inv X (pins++lE fp s5.heap) σ7 H7 s7→N σ7 H7→∃m,m<n∧∃i σ' H',Inv X pins σ' H' s7∧tn i s7.heap∧(∀b∈fp,H' b=none)∧W i m σ' H':=fun{σ7 H7} I7 n7=>by obtain ⟨m',hm,w7⟩:=hN σ7 H7 n7;refine ⟨m',hm,i+1,σ7,H7,I7.t_,T.keep _ _ _ ir fun b hb o e=>(I7.pin (b,o) (eB _ (eB _ (oh hb e)))).1,fun b hb=>?_,w7⟩;obtain ⟨o,e,d⟩:=T.obj _ _ ir b hb;exact (I7.pin (b,o) (eB _ (eB _ (oh hb e)))).2.1
  cases f with
  | next=>obtain ⟨σ7,H7,I7,n7⟩:=q7;exact again I7 n7
  | cont=>obtain ⟨σ7,H7,I7,n7⟩:=q7;exact again I7 n7
  | brk=>obtain ⟨σ7,H7,I7,q7⟩:=q7;exact ⟨σ7,H7,I7.t_,q7⟩
  | ret v=>obtain ⟨x7,σ7,H7,I7,r7,q7⟩:=q7;exact ⟨x7,σ7,H7,I7.t_,r7,q7⟩
end
variable {g:TG} {tb:TS} {D:Ends}
theorem iR(Pv:Nat→St→Hp→Prop)(h0:Pv 0 σ H)(hl:∀i σ H,i≤xs.length→Pv i σ H→bU K H a xs)
  (hs:∀i x σ H,xs[i]?=some x→Pv i σ H→g x σ H fun σ2 H2=>tb {D with nx:=Pv (i+1),ct:=Pv (i+1),bk:=D.nx} σ2 H2) (hd:∀σ H,Pv xs.length σ H→D.nx σ H) :
  ∃W:Nat→Nat→St→Hp→Prop,(∃m,W 0 m σ H)∧∀i m σ H,W i m σ H→
   ((t9 K a).stop i H∧D.nx σ H)∨((t9 K a).go i H∧∃N:St→Hp→Prop,(∀σ' H',N σ' H'→∃m',m'<m∧W (i+1) m' σ' H')∧∀x H',(t9 K a).gk i H x H'→g x σ H' fun σ2 H2=>tb {D with nx:=N,ct:=N,bk:=D.nx} σ2 H2):=by
 refine ⟨fun i m σ H=>m=xs.length-i∧i≤xs.length∧Pv i σ H,⟨xs.length,by simp,ck _,h0⟩,?_⟩
 rintro i m σ H ⟨rfl,hi,p⟩;have q:=hl i σ H hi p;by_cases cu:i<xs.length
 ·refine .inr ⟨⟨xs,xs[i],q,by simp [cu]⟩,Pv (i+1),fun σ' H' p'=>⟨xs.length-(i+1),by lia,rfl,cu,p'⟩,fun x H' y=>?_⟩
  obtain ⟨e,y⟩:=y;subst e;exact hs i x σ _ (y xs q) p
 ·have e:i=xs.length:=by lia
  subst e;exact .inl ⟨⟨xs,q,aK _⟩,hd σ H p⟩
theorem P2(Pv:Nat→St→Hp→Prop)(h0:Pv 0 σ H)(hl:∀i σ H,i≤xs.length→Pv i σ H→eC K H a xs)
  (hs:∀i x σ H,xs[i]?=some x→Pv i σ H→g x σ H fun σ2 H2=>tb {D with nx:=Pv (i+1),ct:=Pv (i+1),bk:=D.nx} σ2 H2) (hd:∀σ H,Pv xs.length σ H→D.nx σ H) :
  ∃W:Nat→Nat→St→Hp→Prop,(∃m,W 0 m σ H)∧∀i m σ H,W i m σ H→
   ((xY K a).stop i H∧D.nx σ H)∨((xY K a).go i H∧∃N:St→Hp→Prop,(∀σ' H',N σ' H'→∃m',m'<m∧W (i+1) m' σ' H')∧∀x H',(xY K a).gk i H x H'→g x σ H' fun σ2 H2=>tb {D with nx:=N,ct:=N,bk:=D.nx} σ2 H2):=by
 refine ⟨fun i m σ H=>m=xs.length-i∧i≤xs.length∧Pv i σ H,⟨xs.length,by simp,ck _,h0⟩,?_⟩
 rintro i m σ H ⟨rfl,hi,p⟩;have q:=hl i σ H hi p;by_cases cu:i<xs.length
 ·refine .inr ⟨⟨xs,xs[i],q,by simp [cu]⟩,Pv (i+1),fun σ' H' p'=>⟨xs.length-(i+1),by lia,rfl,cu,p'⟩,fun x H' y=>?_⟩
  obtain ⟨e,y⟩:=y;subst e;exact hs i x σ _ (y xs q) p
 ·have e:i=xs.length:=by lia
  subst e;exact .inl ⟨⟨xs,q,aK _⟩,hd σ H p⟩
variable {n:Nat}
theorem iu{lo:Int}(Pv:Nat→St→Hp→Prop)(h0:Pv 0 σ H)
  (hs:∀i σ H,i<n→Pv i σ H→g (.int (lo+i)) σ H fun σ2 H2=>tb {D with nx:=Pv (i+1),ct:=Pv (i+1),bk:=D.nx} σ2 H2) (hd:∀σ H,Pv n σ H→D.nx σ H) :
  ∃W:Nat→Nat→St→Hp→Prop,(∃m,W 0 m σ H)∧∀i m σ H,W i m σ H→
   ((mH lo n).stop i H∧D.nx σ H)∨((mH lo n).go i H∧∃N:St→Hp→Prop,(∀σ' H',N σ' H'→∃m',m'<m∧W (i+1) m' σ' H')∧∀x H',(mH lo n).gk i H x H'→g x σ H' fun σ2 H2=>tb {D with nx:=N,ct:=N,bk:=D.nx} σ2 H2):=by
 refine ⟨fun i m σ H=>m=n-i∧i≤n∧Pv i σ H,⟨n,by simp,ck _,h0⟩,?_⟩
 rintro i m σ H ⟨rfl,hi,p⟩;by_cases cu:i<n
 ·refine .inr ⟨cu,Pv (i+1),fun σ' H' p'=>⟨n-(i+1),by lia,rfl,cu,p'⟩,fun x H' y=>?_⟩
  obtain ⟨e,y⟩:=y;subst e y;exact hs i σ _ cu p
 ·have e:i=n:=by lia
  subst e;exact .inl ⟨aK _,hd σ H p⟩
abbrev R2:=V→V→Hp→VK→Prop
def cg(X:Cx)(f:Value→Value→Sem Value)(r:R2):Prop:=
 ∀(pins:a7) (s:Shared) (σ:St) (H:Hp) (x y:V) (v u:Value) (Q:VK),Inv X pins σ H s→RelV x v→RelV y u→r x y H Q→
  wpAny (model X.prog X.w) X.A (f v u) (EP X pins σ Q) X.xe s
def DX(X:Cx)(f:Value→Sem Value)(r:V→Hp→VK→Prop):Prop:=
 ∀(pins:a7) (s:Shared) (σ:St) (H:Hp) (x:V) (v:Value) (Q:VK),Inv X pins σ H s→RelV x v→r x H Q→
  wpAny (model X.prog X.w) X.A (f v) (EP X pins σ Q) X.xe s
def gr(X:Cx)(f:Value)(r:List V→Hp→VK→Prop):Prop:=
 ∀(pins:a7) (s:Shared) (σ:St) (H:Hp) (xs:List V) (us:List Value) (Q:VK),Inv X pins σ H s→Vals xs us→r xs H Q→
  wpAny (model X.prog X.w) X.A (call f us) (EP X pins σ Q) X.xe s
def oi(r:R2)(ta tb:TE):TE:=fun σ H Q=>ta σ H fun x H1=>tb σ H1 fun y H2=>r x y H2 Q
def P4(r:V→Hp→VK→Prop)(ta:TE):TE:=fun σ H Q=>ta σ H fun x H1=>r x H1 Q
def rI(C:Int→Int→Prop)(g:Int→Int→V):R2:=fun x y H Q=>∃i j,x=.int i∧y=.int j∧C i j∧Q (g i j) H
def oj(g:Int→Int→V):R2:=fun x y H Q=>∃i j,x=.int i∧y=.int j∧Q (g i j) H
def rU(g:Int→V):V→Hp→VK→Prop:=fun x H Q=>∃i,x=.int i∧Q (g i) H
section
variable {X:Cx} {a b c:Expr} {ta tb tc:TE} {pos:Pos}
variable {f:Value→Value→Sem Value}
theorem DY(ha:PE X a ta)(hb:PE X b tb){pins:a7}{R:V→V→Hp→Prop}(I:Inv X pins σ H s)
  (h:ta σ H fun x H1=>tb σ H1 fun y H2=>R x y H2) {Q:aX}
  (hf:∀v u s2 x y H2,Inv X pins σ H2 s2→RelV x v→RelV y u→R x y H2→wpAny (model X.prog X.w) X.A (f v u) Q X.xe s2) :
  wpAny (model X.prog X.w) X.A (eval a X.env) (fun v s₁=>wpAny (model X.prog X.w) X.A (eval b X.env) (fun u s₂=>wpAny (model X.prog X.w) X.A (f v u) Q X.xe s₂) X.xe s₁) X.xe s:=by
 refine aS (ha pins s σ H _ I h) fun v s1 ⟨x,H1,I1,r1,q1⟩=>?_;refine aS (hb pins s1 σ H1 _ I1 q1) fun u s2 ⟨y,H2,I2,r2,q2⟩=>?_;exact hf v u s2 x y H2 I2 r1 r2 q2
theorem ax{op:Operator}{r:R2}(ho:cg X (binaryOp op) r)(ha:PE X a ta)(hb:PE X b tb):PE X (.BinOp a op b pos) (oi r ta tb):=by intro pins s σ H Q I h;exact wpAny_BinOp (DY ha hb I h fun v u s2 x y H2 I2 rx ry q=>ho pins s2 σ H2 x y v u Q I2 rx ry q)
theorem Au{op:UnaryOp}{r:V→Hp→VK→Prop}(ho:DX X (unaryOp op) r)(ha:PE X a ta):PE X (.UnaryOp op a pos) (P4 r ta):=by intro pins s σ H Q I h;exact UnaryOp_ (aS (ha pins s σ H _ I h) fun v s1 ⟨x,H1,I1,r1,q1⟩=>ho pins s1 σ H1 x v Q I1 r1 q1)
theorem qb{C:Int→Int→Prop}{g:Int→Int→Int}
  (rule:∀(i j:Int) (t u:Tok) (s:Shared) (Q:aX) (E:aX),C i j→Q (.int (g i j) s.toks) {s with toks:=s.toks+1}→wpAny (model X.prog X.w) X.A (f (.int i t) (.int j u)) Q E s) :
  cg X f (rI C fun i j=>.int (g i j)):=by
 intro pins s σ H x y v u Q I rx ry h;obtain ⟨i,j,rfl,rfl,hc,q⟩:=h;obtain ⟨t,rfl⟩:=rx;obtain ⟨t',rfl⟩:=ry;exact rule i j t t' s _ _ hc ⟨.int (g i j),H,I.tok _,⟨_,rfl⟩,q⟩
theorem Jb{g:Int→Int→Int}
  (rule:∀(i j:Int) (t u:Tok) (s:Shared) (Q:aX) (E:aX),Q (.int (g i j) s.toks) {s with toks:=s.toks+1}→wpAny (model X.prog X.w) X.A (f (.int i t) (.int j u)) Q E s) :
  cg X f (oj fun i j=>.int (g i j)):=by
 intro pins s σ H x y v u Q I rx ry h;obtain ⟨i,j,rfl,rfl,q⟩:=h;obtain ⟨t,rfl⟩:=rx;obtain ⟨t',rfl⟩:=ry;exact rule i j t t' s _ _ ⟨.int (g i j),H,I.tok _,⟨_,rfl⟩,q⟩
theorem Av{g:Int→Int→Bool}
  (rule:∀(i j:Int) (t u:Tok) (s:Shared) (Q:aX) (E:aX),Q (.bool (g i j)) s→wpAny (model X.prog X.w) X.A (f (.int i t) (.int j u)) Q E s) :
  cg X f (oj fun i j=>.bl (g i j)):=by
 intro pins s σ H x y v u Q I rx ry h;obtain ⟨i,j,rfl,rfl,q⟩:=h;obtain ⟨t,rfl⟩:=rx;obtain ⟨t',rfl⟩:=ry;exact rule i j t t' s _ _ ⟨.bl (g i j),H,I,rfl,q⟩
def P5(i j:Int):Prop:=0<j∧j<1073741824
def DZ(i j:Int):Prop:=(-(2 ^ 64)<i∧i<2 ^ 64)∨(-(2 ^ 64)<j∧j<2 ^ 64)
theorem DZ.ok{i j:Int}(h:DZ i j):IntMulOk i j:=by
 rcases h with ⟨h1,h2⟩ | ⟨h1,h2⟩;·exact .of_left (intBits_le_64 h1 h2)
 ·exact .of_right (intBits_le_64 h1 h2)
theorem dS:cg X (binaryOp .Add) (oj fun i j=>.int (i+j)):=Jb fun _ _ _ _ _ _ _ q=>add_int q
theorem jV:cg X (binaryOp .Sub) (oj fun i j=>.int (i-j)):=Jb fun _ _ _ _ _ _ _ q=>sub_int q
theorem eZ:cg X (binaryOp .Mult) (rI DZ fun i j=>.int (i*j)):=qb fun _ _ _ _ _ _ _ hc q=>mul_int q hc.ok
theorem Aw:cg X (binaryOp .FloorDiv) (rI P5 fun i j=>.int (i / j)):=qb fun i j _ _ _ _ _ hc q=>by have h1:(0:Int)<j:=hc.1;have h2:j<1073741824:=hc.2;exact floordiv_int (by lia) (by rw [Int.fdiv_eq_ediv_of_nonneg i (by lia)];exact q) (.inl (PyProof.noPylong_small (by lia)))
theorem ft:cg X (binaryOp .Mod) (rI (fun _ j=>0<j) fun i j=>.int (i % j)):=qb fun i j _ _ _ _ _ hc q=>by have h1:(0:Int)<j:=hc;exact mod_int' (by lia) (by rw [Int.fmod_eq_emod_of_nonneg i (by lia)];exact q)
theorem P6:cg X (binaryOp .Mod) (rI (fun _ j=>j≠0) fun i j=>.int (i.fmod j)):=qb fun _ _ _ _ _ _ _ hc q=>mod_int' hc q
theorem P7{f:Value→Sem Value}{g:Int→Int}
  (rule:∀(i:Int) (t:Tok) (s:Shared) (Q:aX) (E:aX),Q (.int (g i) s.toks) {s with toks:=s.toks+1}→wpAny (model X.prog X.w) X.A (f (.int i t)) Q E s) :
  DX X f (rU fun i=>.int (g i)):=by
 intro pins s σ H x v Q I rx h;obtain ⟨i,rfl,q⟩:=h;obtain ⟨t,rfl⟩:=rx;exact rule i t s _ _ ⟨.int (g i),H,I.tok _,⟨_,rfl⟩,q⟩
theorem Ax:DX X (unaryOp .USub) (rU fun i=>.int (-i)):=P7 fun _ _ _ _ _ q=>neg_int q
end
def D3:V→V→Bool
 | .aU,.aU=>true | .aU,.int _=>true | .int _,.aU=>true | .aU,.bl _=>true | .bl _,.aU=>true | .aU,.str _=>true | .str _,.aU=>true
 | .int _,.int _=>true | .bl _,.bl _=>true | .str _,.str _=>true | .jS _,.jS _=>true
 | .int _,.str _=>true | .str _,.int _=>true | .bl _,.str _=>true | .str _,.bl _=>true
 | _,_=>false
def Jc:R2:=fun x y H Q=>D3 x y=true∧Q (.bl (decide (x=y))) H
def Jd:R2:=fun x y H Q=>D3 x y=true∧Q (.bl (!decide (x=y))) H
theorem Je{i j:Int}:decide (V.int i=V.int j)=(i == j):=by rw [nJ];simp
theorem Jf{i j:Bool}:decide (V.bl i=V.bl j)=(i == j):=by rw [nJ];simp
theorem Jg{i j:Str}:decide (V.str i=V.str j)=(i == j):=by rw [nJ];simp
theorem Jh{i j:Array UInt8}:decide (V.jS i=V.jS j)=(i.toList == j.toList):=by rw [nJ];cases i;cases j;simp
section
variable {X:Cx} {a b c:Expr} {ta tb tc:TE} {pos:Pos}
theorem cZ{pins:a7}{Q:VK}{k k':Bool}(I:Inv X pins σ H s)(q:Q (.bl k) H)(e:k=k'):EP X pins σ Q (.bool k') s:=by subst e;exact ⟨.bl k,H,I,rfl,q⟩
theorem dU:cg X (compareOp .Eq) Jc:=by
 intro pins s σ H x y v u Q I rx ry h;obtain ⟨hs,q⟩:=h;cases x with
 | aU=>
  cases rx;cases y with
  | aU=>cases ry;exact PySem.EqNone.eq_none_none (cZ I q (by simp))
  | bl j=>cases ry;exact PySem.EqNone.eq_none_bool (cZ I q (by simp))
  | int j=>obtain ⟨t',rfl⟩:=ry;exact PySem.EqNone.eq_none_int (cZ I q (by simp))
  | str j=>obtain ⟨t',rfl⟩:=ry;exact PySem.EqNone.eq_none_str (cZ I q (by simp))
  | _=>exact absurd (show false=true from hs) dA
 | bl i=>
  cases rx;cases y with
  | aU=>cases ry;exact PySem.EqNone.eq_bool_none (cZ I q (by simp))
  | bl j=>cases ry;exact eq_bool (cZ I q Jf)
  | str j=>obtain ⟨t',rfl⟩:=ry;exact PySem.EqMixed.eq_bool_str (cZ I q (by simp))
  | _=>exact absurd (show false=true from hs) dA
 | int i=>
  obtain ⟨t,rfl⟩:=rx;cases y with
  | aU=>cases ry;exact PySem.EqNone.eq_int_none (cZ I q (by simp))
  | int j=>obtain ⟨t',rfl⟩:=ry;exact eq_int (cZ I q Je)
  | str j=>obtain ⟨t',rfl⟩:=ry;exact PySem.EqMixed.eq_int_str (cZ I q (by simp))
  | _=>exact absurd (show false=true from hs) dA
 | str i=>
  obtain ⟨t,rfl⟩:=rx;cases y with
  | aU=>cases ry;exact PySem.EqNone.eq_str_none (cZ I q (by simp))
  | bl j=>cases ry;exact PySem.EqMixed.eq_str_bool (cZ I q (by simp))
  | int j=>obtain ⟨t',rfl⟩:=ry;exact PySem.EqMixed.eq_str_int (cZ I q (by simp))
  | str j=>obtain ⟨t',rfl⟩:=ry;exact eq_str (cZ I q Jg)
  | _=>exact absurd (show false=true from hs) dA
 | jS i=>
  obtain ⟨t,rfl⟩:=rx;cases y with
  | jS j=>obtain ⟨t',rfl⟩:=ry;exact PySem.W.eq_bytes (cZ I q Jh)
  | _=>exact absurd (show false=true from hs) dA
 | _=>cases y <;> exact absurd (show false=true from hs) dA
theorem gI:cg X (compareOp .NotEq) Jd:=by
 intro pins s σ H x y v u Q I rx ry h;obtain ⟨hs,q⟩:=h;cases x with
 | aU=>
  cases rx;cases y with
  | aU=>cases ry;exact PySem.EqNone.ne_none_none (cZ I q (by simp))
  | bl j=>cases ry;exact PySem.EqNone.ne_none_bool (cZ I q (by simp))
  | int j=>obtain ⟨t',rfl⟩:=ry;exact PySem.EqNone.ne_none_int (cZ I q (by simp))
  | str j=>obtain ⟨t',rfl⟩:=ry;exact PySem.EqNone.ne_none_str (cZ I q (by simp))
  | _=>exact absurd (show false=true from hs) dA
 | bl i=>
  cases rx;cases y with
  | aU=>cases ry;exact PySem.EqNone.ne_bool_none (cZ I q (by simp))
  | bl j=>cases ry;exact ne_bool (cZ I q (hJ not Jf))
  | str j=>obtain ⟨t',rfl⟩:=ry;exact PySem.EqMixed.ne_bool_str (cZ I q (by simp))
  | _=>exact absurd (show false=true from hs) dA
 | int i=>
  obtain ⟨t,rfl⟩:=rx;cases y with
  | aU=>cases ry;exact PySem.EqNone.ne_int_none (cZ I q (by simp))
  | int j=>obtain ⟨t',rfl⟩:=ry;exact ne_int (cZ I q (hJ not Je))
  | str j=>obtain ⟨t',rfl⟩:=ry;exact PySem.EqMixed.ne_int_str (cZ I q (by simp))
  | _=>exact absurd (show false=true from hs) dA
 | str i=>
  obtain ⟨t,rfl⟩:=rx;cases y with
  | aU=>cases ry;exact PySem.EqNone.ne_str_none (cZ I q (by simp))
  | bl j=>cases ry;exact PySem.EqMixed.ne_str_bool (cZ I q (by simp))
  | int j=>obtain ⟨t',rfl⟩:=ry;exact PySem.EqMixed.ne_str_int (cZ I q (by simp))
  | str j=>obtain ⟨t',rfl⟩:=ry;exact ne_str (cZ I q (hJ not Jg))
  | _=>exact absurd (show false=true from hs) dA
 | jS i=>
  obtain ⟨t,rfl⟩:=rx;cases y with
  | jS j=>obtain ⟨t',rfl⟩:=ry;exact PySem.W.ne_bytes (cZ I q (hJ not Jh))
  | _=>exact absurd (show false=true from hs) dA
 | _=>cases y <;> exact absurd (show false=true from hs) dA
theorem om:cg X (compareOp .Lt) (oj fun i j=>.bl (decide (i<j))):=Av fun _ _ _ _ _ _ _ q=>lt_int q
theorem Ay:cg X (compareOp .LtE) (oj fun i j=>.bl (decide (i≤j))):=Av fun _ _ _ _ _ _ _ q=>le_int q
theorem ua:cg X (compareOp .Gt) (oj fun i j=>.bl (decide (j<i))):=Av fun _ _ _ _ _ _ _ q=>gt_int q
theorem Ji:cg X (compareOp .GtE) (oj fun i j=>.bl (decide (j≤i))):=Av fun _ _ _ _ _ _ _ q=>ge_int q
theorem Az:cg X (compareOp .Is) (fun x y H Q=>y=.aU∧Q (.bl (decide (x=.aU))) H):=by
 intro pins s σ H x y v u Q I rx ry h;obtain ⟨rfl,q⟩:=h;cases ry;refine is_none_gen (cZ I q ?_)
 cases x <;> first
  | (cases rx;rfl)
  | (obtain ⟨t,rfl⟩:=rx;rfl)
theorem P8:cg X (compareOp .IsNot) (fun x y H Q=>y=.aU∧Q (.bl (!decide (x=.aU))) H):=by
 intro pins s σ H x y v u Q I rx ry h;obtain ⟨rfl,q⟩:=h;cases ry;refine isnot_none_gen (cZ I q ?_)
 cases x <;> first
  | (cases rx;rfl)
  | (obtain ⟨t,rfl⟩:=rx;rfl)
variable {op:CmpOp}
theorem D5(b:Expr)(h:op≠.In:=by decide)(h2:op≠.NotIn:=by decide):behindInMarks op b=false:=by
 have e1:(op == CmpOp.In)=false:=by cases op <;> first | rfl | exact absurd rfl h
 have e2:(op == CmpOp.NotIn)=false:=by cases op <;> first | rfl | exact absurd rfl h2
 cases b <;> simp [behindInMarks,e1,e2]
theorem D6{op:CmpOp}{r:R2}(ho:cg X (compareOp op) r)(ha:PE X a ta)(hb:PE X b tb)(hm:behindInMarks op b=false):PE X (.Compare a [op] [b] pos) (oi r ta tb):=by intro pins s σ H Q I h;exact wpAny_Compare1 (DY ha hb I h fun v u s2 x y H2 I2 rx ry q=>ho pins s2 σ H2 x y v u Q I2 rx ry q) hm
theorem kz{r:R2}(ho:cg X (compareOp op) r)(ha:PE X a ta)(hb:PE X b tb)(hm:behindInMarks op b=false:=by exact D5 _):PE X (.Compare a [op] [b] pos) (oi r ta tb):=D6 ho ha hb hm
def Jj(t:TE):TT:=fun σ H Q=>t σ H fun x H'=>∃k,x=.bl k∧Q k H'
theorem AA{r:R2}(ho:cg X (compareOp op) r)(ha:PE X a ta)(hb:PE X b tb)(hm:behindInMarks op b=false):PT X (.Compare a [op] [b] pos) (Jj (oi r ta tb)):=by intro pins s σ H Q I h;refine wpAny_isTrue_Compare1 (aS (ha pins s σ H _ I h) fun v s1 ⟨x,H1,I1,r1,q1⟩=>aS (hb pins s1 σ H1 _ I1 q1) fun u s2 ⟨y,H2,I2,r2,q2⟩=>aS (ho pins s2 σ H2 x y v u _ I2 r1 r2 q2) fun c s3 ⟨z,H3,I3,r3,k,e,q3⟩=>?_) hm;subst e;cases r3;exact nH ⟨H3,I3,q3⟩
theorem bj{r:R2}(ho:cg X (compareOp op) r)(ha:PE X a ta)(hb:PE X b tb)(hm:behindInMarks op b=false:=by exact D5 _):PT X (.Compare a [op] [b] pos) (Jj (oi r ta tb)):=AA ho ha hb hm
def P9(r r':R2)(ta tb tc:TE):TE:=fun σ H Q=>ta σ H fun x H1=>tb σ H1 fun y H2=>r x y H2 fun z H3=>∃k,z=.bl k ∧
 (if k=true then tc σ H3 fun w' H4=>r' y w' H4 Q else Q (.bl false) H3)
theorem Jk{D7:CmpOp}{r r':R2}(ho:cg X (compareOp op) r)(lq:cg X (compareOp D7) r')(ha:PE X a ta)(hb:PE X b tb)(hc:PE X c tc)
  (hm:lastMarks [op,D7] [b,c]=false:=by with_unfolding_all rfl):PE X (.Compare a [op,D7] [b,c] pos) (P9 r r' ta tb tc):=by
 intro pins s σ H Q I h;refine Compare_chain (aS (ha pins s σ H _ I h) fun v s1 ⟨x,H1,I1,r1,q1⟩=>chain_link (aS (hb pins s1 σ H1 _ I1 q1) fun u s2 ⟨y,H2,I2,r2,q2⟩=>aS (ho pins s2 σ H2 x y v u _ I2 r1 r2 q2) fun d s3 ⟨z,H3,I3,r3,k,e,q3⟩=>?_)) hm;subst e;cases r3;refine nH ?_;cases k with
 | false=>exact ite_ff ⟨.bl false,H3,I3,rfl,q3⟩
 | true=>exact ite_tt (chain_last (aS (hc pins s3 σ H3 _ I3 q3) fun w' s4 ⟨z',H4,I4,r4,q4⟩=>lq pins s4 σ H4 y z' u w' Q I4 r2 r4 q4))
theorem AB:(sizeLine:Nat)<2 ^ 63:=by rw [sizeLine_eq];decide
theorem vals1(r:Vals [x] us):∃u,us=[u]∧RelV x u:=by
 cases r with
 | cons r1 r2=>cases r2;exact ⟨_,rfl,r1⟩
theorem vals2{y:V}(r:Vals [x,y] us):∃u w',us=[u,w']∧RelV x u∧RelV y w':=by
 cases r with
 | cons r1 r2=>
  cases r2 with
  | cons r3 r4=>cases r4;exact ⟨_,_,rfl,r1,r3⟩
theorem D8:gr X (.builtin "abs") (fun xs H Q=>∃i,xs=[.int i]∧Q (.int (if i<0 then -i else i)) H):=by intro pins s σ H xs us Q I r h;obtain ⟨i,rfl,q⟩:=h;obtain ⟨u,rfl,t,rfl⟩:=vals1 r;exact call_abs_int fun u tk=>⟨.int (if i<0 then -i else i),H,I.tok _,⟨_,rfl⟩,q⟩
theorem P_(hc:X.calm=true):gr X (.builtin "max") (fun xs H Q=>∃i j,xs=[.int i,.int j]∧Q (.int (if j>i then j else i)) H):=by
 intro pins s σ H xs us Q I r h;obtain ⟨i,j,rfl,q⟩:=h;obtain ⟨u,w',rfl,⟨t,rfl⟩,⟨t',rfl⟩⟩:=vals2 r;refine max_two_ints (I.ok.hd hc) fun h' tk k=>⟨_,H,I.kept k,?_,q⟩;by_cases hj:j>i;·rw [ar hj,ar hj];exact ⟨_,rfl⟩
 ·rw [ao hj,ao hj];exact ⟨_,rfl⟩
theorem Qa(hc:X.calm=true):gr X (.builtin "min") (fun xs H Q=>∃i j,xs=[.int i,.int j]∧Q (.int (if j<i then j else i)) H):=by
 intro pins s σ H xs us Q I r h;obtain ⟨i,j,rfl,q⟩:=h;obtain ⟨u,w',rfl,⟨t,rfl⟩,⟨t',rfl⟩⟩:=vals2 r;refine min_two_ints (I.ok.hd hc) fun h' tk k=>⟨_,H,I.kept k,?_,q⟩;by_cases hj:j<i;·rw [ar hj,ar hj];exact ⟨_,rfl⟩
 ·rw [ao hj,ao hj];exact ⟨_,rfl⟩
theorem D9:gr X (.type "int") (fun xs H Q=>(∃i,xs=[.int i]∧Q (.int i) H)∨∃k,xs=[.bl k]∧Q (.int (if k then 1 else 0)) H):=by
 intro pins s σ H xs us Q I r h;rcases h with ⟨i,rfl,q⟩ | ⟨k,rfl,q⟩
 ·obtain ⟨u,rfl,t,rfl⟩:=vals1 r
  exact call_int_int ⟨.int i,H,I,⟨_,rfl⟩,q⟩
 ·obtain ⟨u,rfl,r1⟩:=vals1 r
  cases r1;exact call_int_bool ⟨.int (if k then 1 else 0),H,I.tok _,⟨_,rfl⟩,q⟩
end
structure qc (h:Heap) (x dx C:Addr) (mA:dc):Prop where
 obj:h.get? x=some (PySem.W.instObj C dx)
 ns:h.Ns1 dx mA
 ne:dx≠x
variable {dx:Addr} {mA:dc}
theorem Qb(n:h.Ns1 dx mA):∃od,h.get? dx=some od∧∀name,PySem.W.lookIn name od=some (mA name):=by
 obtain ⟨o,es,ep,ho,hd,hk,_,hm⟩:=n;refine ⟨o,ho,fun name=>?_⟩;have e:=hm name;unfold nsFind findBy at e;rw [←Array.find?_toList] at e;unfold PySem.W.lookIn;rw [hd];dsimp only
 split
 ·rename_i y q
  rw [q] at e;exact hJ some e
 ·rename_i q
  rw [q] at e;have a:es.toList.any (·.refKey)=false:=by rw [List.any_eq_false];intro y hy;obtain ⟨z,t,Qc⟩:=hk y (Array.mem_toList_iff.mp hy);simp [DictEntry.refKey,Qc]
  have a':¬es.toList.any (·.refKey)=true:=by rw [a];exact dA
  rw [ao a'];exact hJ some e
variable {C:Addr}
theorem qc.look{x:Addr}(I:qc h x dx C mA):∃od,PySem.W.InstAt h x (PySem.W.instObj C dx) C (some od)∧∀name,PySem.W.lookIn name od=some (mA name):=
 let ⟨od,ho,hl⟩:=Qb I.ns
 ⟨od,⟨I.obj,rfl,rfl,ho⟩,hl⟩
section
variable {prog:Program} {w:World} {A:Around} {E:aX} {s:Shared} {K:aD} {x dx C f:Addr} {mA:dc} {name:Str} {v:Value}
theorem get_map{expr:Bool}{Q:aX}(X:K.In s.heap)(I:qc s.heap x dx C mA)(hg:PySem.W.plainGet K C name=true)(hh:PySem.W.hasDictIn K C=true)
  (ha:PySem.W.findIn K (.ref C) name=some none) (hv:mA name=some v) (gW:PySem.W.handedIn v=true) (h:Q v {s with toks:=s.toks+1}) :
  wpAny (model prog w) A (getAttr (.ref x) name expr) Q E s:=by
 obtain ⟨od,J,hl⟩:=I.look;exact PySem.W.get_value X J (PySem.W.plainGet_of hg).1 (PySem.W.findObj_own hh ha rfl (by rw [hl,hv])) gW h
theorem Qd{pl:Sem Bool}{Q:Value×List Value→Shared→Prop}(X:K.In s.heap)(I:qc s.heap x dx C mA)(hg:PySem.W.plainGet K C name=true)
  (hf:PySem.W.findIn K (.ref C) name=some (some (.ref f))) (ht:PySem.W.isFn K (.ref f)=true) (hv:mA name=none) (h:Q (.ref f,[.ref x]) s) :
  wpAny (model prog w) A (getMethod (.ref x) name pl) Q E s:=by
 obtain ⟨od,J,hl⟩:=I.look;exact PySem.W.method_fn X J (PySem.W.plainGet_of hg).1 (PySem.W.plainGet_of hg).2 hf (ko.mp ht) (by show (PySem.W.lookIn name od).map (·.isSome)=some false;rw [hl,hv];rfl) h
theorem Qe{ns:List Str}{Q:Unit→Shared→Prop}(X:K.In s.heap)(I:qc s.heap x dx C mA)
  (hs:PySem.W.findIn K (.ref C) "__setattr__"=some (some (.builtin "object.__setattr__"))) (hp:PySem.W.plainOver K C=true) (ht:PySem.W.takerIn K C name=some none) (hh:PySem.W.hasDictIn K C=true)
  (hw:PySem.Within mA ns) (hsz:ns.length≤sizeLine)
  (h:∀h',qc h' x dx C (fun y=>if y=name then some v else mA y)→Heap.SameBut dx s.heap h'→Q () {s with heap:=h',toks:=s.toks+2}) :
  wpAny (model prog w) A (setAttr (.ref x) name v) Q E s:=by
 obtain ⟨od,J,hl⟩:=I.look;refine PySem.W.set_plain X J hs (PySem.W.osa_open (s:={s with toks:=s.toks+1}) (r:=none) X J hp ht fun b=>?_);obtain ⟨cd,hc,n5⟩:=PySem.W.any_some hh;have hx:s.heap.get? x=some ⟨.ref C,some dx,.plain,#[]⟩:=I.obj;refine cS (fR (cS (cS (wpAny_loadPart hx (cS (PySem.W.Looks.here (s:={s with toks:=s.toks+1}) (PySem.W.looks_clsIn X hc) ?_))))));rw [n5];refine fR (a:=some dx) (cS (fR (cS ?_)));refine wpAny_nsSet1 (s:={s with toks:=s.toks+1}) I.ns fun h' ub lD=>?_;obtain ⟨oD,esD,epD,Qf,Qg,Qh⟩:=ub.count (PySem.Within.cons name v hw);refine cS (wpAny_lookBehind Qf (by rw [Qg];exact pastItsLine_dict (aH Qh (by rw [gD];lia))) ?_)
 exact fR (h _ ⟨(lD.2 _ (Ne.symm I.ne)).trans I.obj,ub,I.ne⟩ lD)
theorem Qi{R:Result→Shared→Prop}{vs:List Value}{kw:List (Str×Value)}(X:K.In s.heap)(hm:PySem.W.makesIn K C=true)
  (hi:PySem.W.findIn K (.ref C) "__init__"=some (some (.ref f))) (hf:PySem.W.typeIn K (.ref f)=some (.type "function"))
  (h:codeAny (model prog w) (A.under (.builtin "type.__call__" ⟨.ref C::vs,kw⟩)) (.call (.ref f) ⟨.ref (s.heap.objs.size+1)::vs,kw⟩) (PySem.W.InitBack (s.heap.objs.size+1) R)
   {s with heap:=(s.heap.push PySem.W.emptyDict).push (PySem.W.instObj C s.heap.objs.size)}) :
  codeAny (model prog w) A (.call (.ref C) ⟨vs,kw⟩) R s:=by
 obtain ⟨hh,g,d,t,os⟩:=s;exact PySem.W.make_core (PySem.W.makes_of X hm) (zX X hi) (fun self=>PySem.W.bind_fn X self hf) (.inl rfl) h
end
def gX(f:Str)(v:V):List (Str×V)→List (Str×V)
 | []=>[(f,v)]
 | (g,x)::r=>if g=f then (g,v)::r else (g,x)::gX f v r
theorem Jl(f g:Str)(v:V):∀fs:List (Str×V),(gX f v fs).lookup g=if g=f then some v else fs.lookup g
 | []=>by
  show List.lookup g [(f,v)]=_;by_cases h:g=f
  ·have hb:(g == f)=true:=ko.mpr h
   simp only [List.lookup,hb,ar h]
  ·have hb:(g == f)=false:=mh.mpr h
   simp only [List.lookup,hb,ao h]
 | (k,x)::r=>by
  have ih:=Jl f g v r;rw [show gX f v ((k,x)::r)=(if k=f then (k,v)::r else (k,x)::gX f v r) from rfl]
  by_cases hk:k=f
  ·rw [ar hk]
   by_cases h:g=k
   ·have hb:(g == k)=true:=ko.mpr h
    simp only [List.lookup,hb,ar (h.trans hk)]
   ·have hb:(g == k)=false:=mh.mpr h
    simp only [List.lookup,hb,ao (fun e:g=f=>h (e.trans hk.symm))]
  ·rw [ao hk]
   by_cases h:g=k
   ·have hb:(g == k)=true:=ko.mpr h
    simp only [List.lookup,hb,ao (fun e:g=f=>hk (h.symm.trans e))]
   ·have hb:(g == k)=false:=mh.mpr h
    simp only [List.lookup,hb];exact ih
theorem D_(f:Str)(v:V):∀fs:List (Str×V),f∈(gX f v fs).map (·.1)∧∀g,g∈fs.map (·.1)→g∈(gX f v fs).map (·.1)
 | []=>⟨by simp [gX],fun g h=>by simp at h⟩
 | (k,x)::r=>by
  obtain ⟨i1,i2⟩:=D_ f v r;rw [show gX f v ((k,x)::r)=(if k=f then (k,v)::r else (k,x)::gX f v r) from rfl]
  by_cases hk:k=f
  ·rw [ar hk]
   subst hk;exact ⟨by simp,fun g h=>by simpa using h⟩
  ·rw [ao hk]
   refine ⟨?_,fun g h=>?_⟩
   ·rw [cy]
    exact fj _ i1
   ·rw [cy] at h ⊢
    rcases cx.mp h with e | e;·exact cx.mpr (.inl e)
    ·exact fj _ (i2 g e)
theorem Jm(f:Str)(v:V):∀fs:List (Str×V),(gX f v fs).length≤fs.length+1
 | []=>by simp [gX]
 | (k,x)::r=>by
  have ih:=Jm f v r;rw [show gX f v ((k,x)::r)=(if k=f then (k,v)::r else (k,x)::gX f v r) from rfl]
  by_cases hk:k=f;·rw [ar hk,gD,gD];lia
  ·rw [ao hk,gD,gD];lia
variable {v:V}
theorem jn.some_of{o:Option Value}(r:jn (some v) o):∃u,o=some u∧RelV v u:=by
 cases o with
 | none=>exact (show False from r).elim
 | some u=>exact ⟨u,rfl,r⟩
theorem jn.none_of{o:Option Value}(r:jn none o):o=none:=by
 cases o with
 | none=>rfl
 | some u=>exact (show False from r).elim
theorem Qj(r:RelV v u):PySem.W.handedIn u=true:=by
 cases v with
 | aU=>cases (show u=Value.none from r);rfl
 | bl b=>cases (show u=Value.bool b from r);rfl
 | int i=>obtain ⟨t,e⟩:=(show ∃t,u=Value.int i t from r);cases e;rfl
 | str x=>obtain ⟨t,e⟩:=(show ∃t,u=Value.str x t from r);cases e;rfl
 | jS b=>obtain ⟨t,e⟩:=(show ∃t,u=Value.bytes b t from r);cases e;rfl
 | pP b=>obtain ⟨t,e⟩:=(show ∃t,u=Value.float b t from r);cases e;rfl
 | ref a=>cases (show u=Value.ref a from r);rfl
 | ty n=>cases (show u=Value.type n from r);rfl
section
variable {P:Program} {w:World} {H H':Hp} {h h':Heap} {a C dx:Addr} {fs DL:List (Str×V)}
theorem AD(aG:cH P w H h)(e:H a=some (.ins C dx fs)):∃mA,qc h a dx C mA∧(∀f,jn (fs.lookup f) (mA f))∧PySem.Within mA (fs.map (·.1))∧fs.length≤1000∧H dx=some (.own a):=by obtain ⟨d,z,ne,ob,mA,n,r,q⟩:=(show cT P w H h a (.ins C dx fs) from aG a _ e);exact ⟨mA,⟨ob,n,ne⟩,r,q,z,d⟩
end
structure kA (K:aD) (C:Addr):Prop where
 pg:PySem.W.plainGet K C Str.empty=true
 hd:PySem.W.hasDictIn K C=true
 po:PySem.W.plainOver K C=true
 sa:PySem.W.findIn K (.ref C) "__setattr__"=some (some (.builtin "object.__setattr__"))
theorem kA.get{K:aD}{C:Addr}(c:kA K C)(f:Str):PySem.W.plainGet K C f=true:=c.pg
def qd(K:aD)(C:Addr)(f:Str):Prop:=PySem.W.findIn K (.ref C) f=some none
theorem qd.Qk{f:Str}(n:qd K C f):PySem.W.takerIn K C f=some none:=by unfold PySem.W.takerIn;rw [show PySem.W.findIn K (.ref C) f=some none from n];rfl
structure Meth (K:aD) (C:Addr) (m:Str) (f:Addr):Prop where
 at_:PySem.W.findIn K (.ref C) m=some (some (.ref f))
 fn:PySem.W.isFn K (.ref f)=true
 kp:PySem.W.keepIn K (.ref f)=true
section
variable {X:Cx} {pins:a7} {σ:St} {H:Hp} {s:Shared} {a C dx:Addr} {fs:List (Str×V)} {f:Str} {v:V} {A:Around} {E:aX}
variable {Q:aX}
theorem Ql{b:Bool}(I:Inv X pins σ H s)(e:H a=some (.ins C dx fs))(c:kA X.K C)(n:qd X.K C f)(l:fs.lookup f=some v)
  (h:∀u s',Inv X pins σ H s'→RelV v u→Q u s'):wpAny (model X.prog X.w) A (getAttr (.ref a) f b) Q E s:=by
 obtain ⟨mA,O,r,_,_,_⟩:=AD I.aG e;obtain ⟨u,hu,ru⟩:=jn.some_of (v:=v) (o:=mA f) (by rw [←l];exact r f)
 exact get_map I.dQ O (c.get f) c.hd n hu (Qj ru) (h u _ (I.tok _) ru)
theorem Jn{m:Str}{g:Addr}{pl:Sem Bool}{Q:Value×List Value→Shared→Prop}(I:Inv X pins σ H s)(e:H a=some (.ins C dx fs))(c:kA X.K C)(k:Meth X.K C m g)(l:fs.lookup m=none)
  (h:Q (.ref g,[.ref a]) s):wpAny (model X.prog X.w) A (getMethod (.ref a) m pl) Q E s:=by
 obtain ⟨mA,O,r,_,_,_⟩:=AD I.aG e;have hn:mA m=none:=jn.none_of (by rw [←l];exact r m)
 exact Qd I.dQ O (c.get m) k.at_ k.fn hn h
theorem Qm{y:V}{Q:Unit→Shared→Prop}(I:Inv X pins σ H s)(e:H a=some (.ins C dx fs))(c:kA X.K C)(n:qd X.K C f)(hl:fs.length<1000)(ry:RelV y u)
  (h:∀s',Inv X pins σ (upd H a (.ins C dx (gX f y fs))) s'→Q () s'):wpAny (model X.prog X.w) A (setAttr (.ref a) f u) Q E s:=by
 obtain ⟨mA,O,r,wi,_,ho⟩:=AD I.aG e;have hz:(fs.map (·.1)).length≤sizeLine:=by rw [aR,sizeLine_eq];lia
 refine Qe I.dQ O c.sa c.po n.Qk c.hd wi hz fun h' O' sb=>h _ ?_;have hd:∃o,h'.get? dx=some o:=let ⟨o,_,_,e',_⟩:=O'.ns;⟨o,e'⟩
 refine I.write (x:=a) (e:=dx) (by rw [e];exact True.intro) (.inr ho) (fun b q hb z=>(sb.2 b hb).trans z) hd ?_
 refine ⟨by rw [aP O.ne];exact ho,?_,O.ne,O'.obj,_,O'.ns,fun g=>?_,fun g hg=>?_⟩
 ·have:=Jm f y fs;lia
 ·show jn ((gX f y fs).lookup g) (if g=f then some u else mA g)
  rw [Jl];by_cases q:g=f;·rw [ar q,ar q];exact ry
  ·rw [ao q,ao q];exact r g
 ·by_cases q:g=f
  ·rw [q];exact (D_ f y fs).1
  ·refine (D_ f y fs).2 g (wi g fun z=>hg ?_)
   show (if g=f then some u else mA g)=none
   rw [ao q];exact z
theorem Inv.made(I:Inv X pins σ H s):Inv X pins σ (upd (upd H s.heap.objs.size (.own (s.heap.objs.size+1))) (s.heap.objs.size+1) (.ins C s.heap.objs.size []))
  {s with heap:=(s.heap.push PySem.W.emptyDict).push (PySem.W.instObj C s.heap.objs.size)}:=by
 have e1:(s.heap.push PySem.W.emptyDict).get? s.heap.objs.size=some PySem.W.emptyDict:=fm s.heap rfl;have e2:((s.heap.push PySem.W.emptyDict).push (PySem.W.instObj C s.heap.objs.size)).get? (s.heap.objs.size+1)=some (PySem.W.instObj C s.heap.objs.size):=by
  have:=fm (s.heap.push PySem.W.emptyDict) (o:=PySem.W.instObj C s.heap.objs.size) rfl
  rwa [xC] at this
 have e3:(s.heap.push PySem.W.emptyDict).Ns s.heap.objs.size (fun _=>none):=⟨PySem.W.emptyDict,#[],_,e1,rfl,(fun e he=>absurd he (by simp)),fun _=>rfl⟩
 have I1:=I.laid (a:=s.heap.objs.size) (o:=.own (s.heap.objs.size+1)) (h':=s.heap.push PySem.W.emptyDict) (t':=s.toks) (fun b u q=>cL _ q) (aK _) ⟨_,e1⟩;refine I1.laid (a:=s.heap.objs.size+1) (o:=.ins C s.heap.objs.size []) (t':=s.toks) (fun b u q=>cL _ q) (Nat.le_of_eq (xC _ _)) ?_;have ne:s.heap.objs.size≠s.heap.objs.size+1:=dE (zY _);refine ⟨by rw [aP ne,az],ck _,ne,e2,fun _=>none,(Heap.Ns1.of_empty e3).at fun o q=>cL _ q,fun _=>True.intro,fun y hy=>absurd rfl hy⟩
theorem Qn{prog:Program}{env:Env}{e:Expr}{pos:Pos}(hb:attributeBase e f env (eval e env)=eval e env)
  (h:wpAny (model prog w) A (eval e env) (fun o s₁=>wpAny (model prog w) A (getAttr o f true) Q E s₁) E s):wpAny (model prog w) A (eval (.Attribute e f pos) env) Q E s:=
 Attribute_any_ h (by rw [arm_eval_Attribute,hb])
end
def Qo(K:aD)(ta:TE)(f:Str):TE:=fun σ H Q=>ta σ H fun x H1=>∃a C dx fs v,x=.ref a∧H1 a=some (.ins C dx fs)∧kA K C∧qd K C f∧fs.lookup f=some v∧Q v H1
def Qp(K:aD)(ta tv:TE)(f:Str):TS:=fun D σ H=>tv σ H fun y H1=>ta σ H1 fun x H2=>∃a C dx fs,x=.ref a∧H2 a=some (.ins C dx fs)∧kA K C∧qd K C f∧fs.length<1000 ∧
 D.nx σ (upd H2 a (.ins C dx (gX f y fs)))
section
variable {X:Cx} {o e value:Expr} {f:Str} {pos pos' AE:Pos} {ta tv:TE}
theorem lF(he:PE X e ta)(hb:attributeBase e f X.env (eval e X.env)=eval e X.env):PE X (.Attribute e f pos) (Qo X.K ta f):=by intro pins s σ H Q I h;refine Qn hb (aS (he pins s σ H _ I h) fun u s1 ⟨x,H1,I1,rx,a,C,dx,fs,v,ex,ea,c,n,l,q⟩=>?_);subst ex;obtain rfl:u=Value.ref a:=rx;exact Ql I1 ea c n l fun u' s2 I2 ru=>⟨v,H1,I2,ru,q⟩
theorem Jo(ha:PE X o ta)(hv:PE X value tv)(hs:swapsWith value (some (.Attribute o f pos')) pos.line X.env=pure false):PS X (.Assign [.Attribute o f pos'] value pos) (Qp X.K ta tv f):=by intro pins s σ H D I h;refine plainObj_wpAny_Assign_Attribute (aS (hv pins s σ H _ I h) fun u s1 ⟨y,H1,I1,ry,q⟩=>aS (ha pins s1 σ H1 _ I1 q) fun ov s2 ⟨x,H2,I2,rx,a,C,dx,fs,ex,ea,c,n,l,q2⟩=>?_) hs;subst ex;obtain rfl:ov=Value.ref a:=rx;exact Qm I2 ea c n l ry fun s3 I3=>⟨σ,_,I3,q2⟩
theorem afL{pl:Sem Bool}{m:Str}{apos:Pos}{args:List Expr}{pins:a7}{Q:aX}{te:TE}(he:PE X e te)(I:Inv X pins σ H s)
  (h:te σ H fun x H1=>∃a C dx fs g,x=.ref a∧H1 a=some (.ins C dx fs)∧kA X.K C∧Meth X.K C m g∧fs.lookup m=none ∧
   ∀s1,Inv X pins σ H1 s1→wpAny (model X.prog X.w) X.A (callWith pos (.ref g) [.ref a] (backTo pos (starEach args X.env)) (backToKw pos (keywordEach [] X.env))) Q X.xe s1)
  (ht:eval (.Call (.Attribute e m apos) args [] pos) X.env=(do
   let ov ←eval e X.env
   standAt apos.atName
   let (f,first) ←holding [ov] (getMethod ov m pl)
   callWith pos f first (backTo pos (starEach args X.env)) (backToKw pos (keywordEach [] X.env)))) :
  wpAny (model X.prog X.w) X.A (eval (.Call (.Attribute e m apos) args [] pos) X.env) Q X.xe s:=by
 refine PySem.W.methodCall_KW (pl:=pl) (aS (he pins s σ H _ I h) fun u s1 ⟨x,H1,I1,rx,a,C,dx,fs,g,ex,ea,c,k,l,q⟩=>?_) ht
 subst ex
 obtain rfl:u=Value.ref a:=rx
 exact Jn I1 ea c k l (q s1 I1)
end
section
variable {X:Cx} {pins:a7} {σ:St} {H:Hp} {s:Shared} {A:Around} {E:aX} {Q:aX} {c:Value} {b:Bool}
inductive ju (K:aD) (H:Hp):V→Value→Prop where
 | aU:ju K H .aU (.type "NoneType")
 | bl (x:Bool):ju K H (.bl x) (.type "bool")
 | int (i:Int):ju K H (.int i) (.type "int")
 | str (x:Str):ju K H (.str x) (.type "str")
 | pP (x:UInt64):ju K H (.pP x) (.type "float")
 | lst {a:Addr} {xs:List V} (e:H a=some (.lst xs)):ju K H (.ref a) (.type "list")
 | cI {a:Addr} {o:Obj} {xs:List V} (e:H a=some (.cI o (.lst xs))):ju K H (.ref a) (.type "list")
 | tup {a:Addr} {xs:List V} (e:H a=some (.tup xs)):ju K H (.ref a) (.type "tuple")
 | dK {a:Addr} {au:List (Key×V)} (e:H a=some (.dK au)):ju K H (.ref a) (.type "dict")
 | dT {a:Addr} {au:List (List Key×V)} (e:H a=some (.dT au)):ju K H (.ref a) (.type "dict")
 | ins {a C dx:Addr} {fs:List (Str×V)} (e:H a=some (.ins C dx fs)) (cl:kA K C) (ha:PySem.W.findIn K (.ref C) "__class__"=some (some (.builtin "object.__class__")))
   (hn:PySem.W.specialIn K (.builtin "object.__class__") "__get__"=some (some (.builtin "getset_descriptor.__get__"))) (Jp:PySem.W.takesIn K (.builtin "object.__class__")=some true)
   (hm:PySem.W.mroIn K C (.type "object")=some true):ju K H (.ref a) (.ref C)
theorem Qq{t:Value}(I:Inv X pins σ H s)(rx:RelV x u)(ty:ju X.K H x t)(e:PySem.W.kitOne X.K t c=some b)(h:∀tk,Q (.bool b) {s with toks:=tk}) :
  wpAny (model X.prog X.w) A (call (.builtin "isinstance") [u,c]) Q E s:=by
 cases ty with
 | aU=>cases (show u=Value.none from rx);exact ja PySem.W.kitx_none I.dQ True.intro e (fun z=>nomatch z) h
 | bl y=>cases (show u=Value.bool y from rx);exact ja PySem.W.kitx_bool I.dQ True.intro e (fun z=>nomatch z) h
 | int i=>obtain ⟨t,q⟩:=(show ∃t,u=Value.int i t from rx);cases q;exact ja PySem.W.kitx_int I.dQ True.intro e (fun z=>nomatch z) h
 | str y=>obtain ⟨t,q⟩:=(show ∃t,u=Value.str y t from rx);cases q;exact ja PySem.W.kitx_str I.dQ True.intro e (fun z=>nomatch z) h
 | pP y=>obtain ⟨t,q⟩:=(show ∃t,u=Value.float y t from rx);cases q;exact ja PySem.W.kitx_float I.dQ True.intro e (fun z=>nomatch z) h
 | @lst a xs ea=>cases (show u=Value.ref a from rx);obtain ⟨_,_,n,_,h1⟩:=(show cT X.prog X.w H s.heap a (.lst xs) from I.aG a _ ea);exact ja PySem.W.kitx_list I.dQ ⟨_,h1,rfl⟩ e (fun z=>nomatch z) h
 | @cI a ob xs ea=>cases (show u=Value.ref a from rx);obtain ⟨_,_,_,n,_,h1⟩:=(show cT X.prog X.w H s.heap a (.cI ob (.lst xs)) from I.aG a _ ea);exact ja PySem.W.kitx_list I.dQ ⟨_,h1,rfl⟩ e (fun z=>nomatch z) h
 | @tup a xs ea=>cases (show u=Value.ref a from rx);obtain ⟨_,_,_,p⟩:=(show cT X.prog X.w H s.heap a (.tup xs) from I.aG a _ ea);obtain ⟨o,h1,h2,_⟩:=p;exact ja PySem.W.kitx_tuple I.dQ ⟨o,h1,h2⟩ e (fun z=>nomatch z) h
 | @dK a au ea=>cases (show u=Value.ref a from rx);obtain ⟨_,_,vs,_,p⟩:=(show cT X.prog X.w H s.heap a (.dK au) from I.aG a _ ea);obtain ⟨o,es,ep,h1,h2,_⟩:=p;exact ja PySem.W.kitx_dict I.dQ ⟨o,h1,h2.1⟩ e (fun z=>nomatch z) h
 | @dT a au ea=>cases (show u=Value.ref a from rx);obtain ⟨_,_,xs,_,o,es,ep,h1,h2,_⟩:=(show cT X.prog X.w H s.heap a (.dT au) from I.aG a _ ea);exact ja PySem.W.kitx_dict I.dQ ⟨o,h1,h2.1⟩ e (fun z=>nomatch z) h
 | @ins a C dx fs ea cl ha hn Jp hm=>cases (show u=Value.ref a from rx);obtain ⟨mA,O,_⟩:=AD I.aG ea;obtain ⟨od,J,_⟩:=O.look;exact ja (PySem.W.kitx_own (cl.get _) cl.hd ha hn Jp hm) I.dQ J e (fun z=>nomatch z) h
end
structure de (k:Nat) (A:Around):Prop where
 hd:A.handled=none
 dp:A.depth+3*k+5<recursionLimit
 un:A.units+16*k+200<cLine
variable {k:Nat}
theorem de.mono{j:Nat}(r:de k A)(h:j≤k):de j A:=⟨r.hd,by have:=r.dp;lia,by have:=r.un;lia⟩
theorem de.deeper(r:de (k+1) A)(env:Env):de k (A.deeper env):=
 ⟨r.hd,by have:=r.dp;show A.depth+1+3*k+5<_;lia,by have:=r.un;show A.units+3+16*k+200<_;lia⟩
variable {kw:List (Str×Value)}
theorem Qr:(A.under (.builtin "type.__call__" ⟨.ref C::us,kw⟩)).depth=A.depth+1:=by first | rfl | simp [Around.under,Code.weight,Code.isCreation,Code.isGuard,Code.isCaller,Code.frames,Code.isFrame,guardIds]
theorem Qs:(A.under (.builtin "type.__call__" ⟨.ref C::us,kw⟩)).units=A.units+1:=by first | rfl | simp [Around.under,Code.cUnits,Code.frames,Code.isFrame]
theorem de.make(r:de (k+1) A)(C:Addr)(us:List Value)(kw:List (Str×Value)):de k (A.under (.builtin "type.__call__" ⟨.ref C::us,kw⟩)):=
 ⟨r.hd,by have:=r.dp;rw [Qr];lia,by have:=r.un;rw [Qs];lia⟩
theorem de.depth(r:de k A):A.depth<recursionLimit:=by have:=r.dp;lia
theorem de.units(r:de k A):A.units+64<cLine:=by have:=r.un;lia
theorem de.qe(r:de k A):A.units<cLine:=by have:=r.un;lia
def kB:TA:=fun _ H Q=>Q [] H
def qf(ta:TE)(tr:TA):TA:=fun σ H Q=>ta σ H fun x H1=>tr σ H1 fun xs H2=>Q (x::xs) H2
section
variable {X:Cx} {e:Expr} {es:List Expr} {te:TE} {t:TA} {pos:Pos}
theorem ae:PA X [] kB:=fun _ _ _ _ H Q I h=>Calls.spliced_nil ⟨[],H,I,.nil,h⟩
theorem Qt(ha:PE X e te)(hr:PA X es t)(hs:starEach (e::es) X.env=(false,eval e X.env)::starEach es X.env:=by rfl):PA X (e::es) (qf te t):=by intro pos pins s σ H Q I h;rw [hs];show wpAny _ _ (spliced ((false,eval e X.env)::backTo pos (starEach es X.env))) _ _ s;refine Calls.spliced_cons (aS (ha pins s σ H _ I h) fun u s1 ⟨x,H1,I1,r1,q1⟩=>?_);exact aS (hr pos pins s1 σ H1 _ I1 q1) fun us s2 ⟨xs,H2,I2,r2,q2⟩=>⟨x::xs,H2,I2,.cons r1 r2,q2⟩
def Qu(t:TA):TE:=fun σ H Q=>t σ H fun xs H1=>xs.length≤sizeLine∧∀p,H1 p=none→Q (.ref p) (upd H1 p (.tup xs))
def Jq(t:TA):TE:=fun σ H Q=>t σ H fun xs H1=>xs.length≤sizeLine∧∀p,H1 p=none→Q (.ref p) (upd H1 p (.lst xs))
theorem fJ{x1}(h:PA X es t):PE X (.Tuple es x1 pos) (Qu t):=by
 intro pins s σ H Q I hq;refine wpAny_Tuple_spliced (aS (h pos pins s σ H _ I hq) fun us s1 ⟨xs,H1,I1,r,z,q⟩=>⟨by rw [←r.length];exact z,?_⟩)
 have hf:H1 s1.heap.objs.size=none:=I1.aG.fresh (aK _);refine ⟨.ref s1.heap.objs.size,upd H1 s1.heap.objs.size (.tup xs),I1.laid (t':=s1.toks) (fun b u e=>cL _ e) (aK _) ?_,rfl,q _ hf⟩;exact ⟨z,us,r,⟨_,fm _ rfl,rfl,_,rfl⟩⟩
theorem eR(h:PA X es t):PE X (.List es pos) (Jq t):=by
 intro pins s σ H Q I hq;refine wpAny_List_spliced (aS (h pos pins s σ H _ I hq) fun us s1 ⟨xs,H1,I1,r,z,q⟩=>⟨by rw [←r.length];exact z,?_⟩)
 have hf:H1 s1.heap.objs.size=none:=I1.aG.fresh (aK _);refine ⟨.ref s1.heap.objs.size,upd H1 s1.heap.objs.size (.lst xs),I1.laid (t':=s1.toks) (fun b u e=>cL _ e) (aK _) ?_,rfl,q _ hf⟩;exact ⟨z,us,0,r,fm _ rfl⟩
end
abbrev Sp:=List V→Hp→VK→XK→Prop
abbrev iw:=List Env→Hp→Shared→XK→Value→Shared→Prop
structure qg (P:Program) (w:World) (K:aD) (mg:dc) (base:Heap) (A:Around) (outer:List Env) (s:Shared) (H:Hp):Prop where
 frames:A.frames=some outer
 mod:Mod K mg base
 bs:∀b o,base.get? b=some o→s.heap.get? b=some o∧H b=none
 jr:base.objs.size≤s.heap.objs.size
 jT:s.heap.FunFrames base outer
 mE:∀b∈cU outer,H b=none
 aG:cH P w H s.heap
 bare:AllBare s.gens
def CE(outer:List Env)(P:Program)(w:World)(H:Hp)(s:Shared)(Q:VK)(u:Value)(s':Shared):Prop:=
 ∃v H',s'.os=s.os∧AllBare s'.gens∧Un (cU outer) [] H H' s.heap s'.heap∧cH P w H' s'.heap∧RelV v u∧Q v H'
def CR(CX:iw)(outer:List Env)(P:Program)(w:World)(H:Hp)(s:Shared)(Q:VK)(E:XK)(r:Result)(s':Shared):Prop:=
 match r with
 | .ok (.ret u)=>CE outer P w H s Q u s'
 | .ok _=>False
 | .error e=>CX outer H s E e s'
structure aY (P:Program) (w:World) (K:aD) (mg:dc) (base:Heap) (CX:iw) (k:Nat) (f:Addr) (fd:FuncData) (ps:List Str) (sp:Sp):Prop where
 len:∀vs H Q E,sp vs H Q E→vs.length=ps.length
 run:∀(A:Around) (outer:List Env) (s:Shared) (H:Hp) (args:Args) (us:List Value) (vs:List V) (Q:VK) (E:XK),de k A→qg P w K mg base A outer s H→BindsTo s fd args (ps.zip us)→Vals vs us→sp vs H Q E→
  codeAny (model P w) A (.call (.ref f) args) (CR CX outer P w H s Q E) s
variable {mg:dc} {base:Heap} {outer:List Env}
theorem qg.make(e:qg P w K mg base A outer s H)(C:Addr)(us:List Value)(kw:List (Str×Value)) :
  qg P w K mg base (A.under (.builtin "type.__call__" ⟨.ref C::us,kw⟩)) outer s H:=⟨by first | exact e.frames | (simpa [Around.under,Code.envs,Code.isFrame,pushEnvs] using e.frames),e.mod,e.bs,e.jr,e.jT,e.mE,e.aG,e.bare⟩
section
variable {X:Cx} {pins:a7} {σ:St} {H:Hp} {s s':Shared}
theorem Inv.Jr(I:Inv X pins σ H s):qg X.prog X.w X.K X.mg X.base X.A X.stack s H:=
 ⟨I.ok.frames,I.ok.mod,I.bs,aH I.ok.jr I.sz,I.stack,I.xT,I.aG,I.bare⟩
theorem Inv.after{Q:VK}(I:Inv X pins σ H s)(h:CE X.stack X.prog X.w H s Q u s'):EP X pins σ Q u s':=by obtain ⟨v,H',os,bare,un,aG,r,q⟩:=h;obtain ⟨hh,g,d,t,Qv⟩:=s';obtain rfl:Qv=s.os:=os;exact ⟨v,H',I.call (h':=hh) (g':=g) (d':=d) (t':=t) (ch:=[]) un aG bare (fun b z=>absurd z (by simp)),r,q⟩
end
def Js(sp:Sp)(fv:List V)(E:XK)(t:TA):TE:=fun σ H Q=>t σ H fun vs H1=>sp (vs++fv) H1 Q E
def Qw(C:Addr)(m:Str)(sp:Sp)(fv:List V)(E:XK)(ta:TE)(t:TA):TE:=fun σ H Q=>ta σ H fun x H1=>∃a dx fs,x=.ref a∧H1 a=some (.ins C dx fs)∧fs.lookup m=none ∧
 t σ H1 fun vs H2=>sp (x::(vs++fv)) H2 Q E
def Qx(C:Addr)(sp:Sp)(fv:List V)(E:XK)(t:TA):TE:=fun σ H Q=>t σ H fun vs H1=>∀x dx,H1 x=none→H1 dx=none→dx≠x→
 sp (.ref x::(vs++fv)) (upd (upd H1 dx (.own x)) x (.ins C dx [])) (fun v H2=>v=.aU∧Q (.ref x) H2) E
def Binds(K:aD)(fd:FuncData)(ps:List Str)(ds:List Value):Prop:=
 ∀(s:Shared) (us:List Value),K.In s.heap→(us++ds).length=ps.length→BindsTo s fd ⟨us,[]⟩ (ps.zip (us++ds))
variable {ps:List Str}
theorem Binds.all{fd:FuncData}(h:∀us:List Value,us.length=ps.length→bindArgs fd ⟨us,[]⟩=pure (ps.zip us)):Binds K fd ps []:=fun s us _ hl=>by rw [tT] at hl ⊢;exact .of_eq (h us hl)
def Passes(CX:iw)(X:Cx)(E:XK):Prop:=∀(pins:a7) (σ:St) (H:Hp) (s:Shared) (e:Value) (s':Shared),Inv X pins σ H s→CX X.stack H s E e s'→X.xe e s'
section
variable {X:Cx} {CX:iw} {k:Nat} {f C:Addr} {fd:FuncData} {ps:List Str} {sp:Sp} {fv:List V} {ds:List Value} {E:XK} {x m:Str} {p pos apos:Pos} {e o:Expr} {es:List Expr} {ta:TE} {t:TA}
variable {pins:a7} {Q:VK}
theorem Jt{vs:List V}(F:aY X.prog X.w X.K X.mg X.base CX k f fd ps sp)(hr:de k X.A)(hb:Binds X.K fd ps ds)(hd:Vals fv ds)(hx:Passes CX X E)
  (I:Inv X pins σ H s) (r:Vals vs us) (h:sp (vs++fv) H Q E):wpAny (model X.prog X.w) X.A (call (.ref f) us) (EP X pins σ Q) X.xe s:=by
 have r2:Vals (vs++fv) (us++ds):=r.append hd;have hl:(us++ds).length=ps.length:=by rw [←r2.length];exact F.len _ _ _ _ h
 refine wpAny_call (codeAny_mono (F.run X.A X.stack s H ⟨us,[]⟩ (us++ds) (vs++fv) Q E hr I.Jr (hb s us I.dQ hl) r2 h) fun r s' hq=>?_);cases r with
 | error e=>exact hx pins σ H s e s' I hq
 | ok fl=>
  cases fl with
  | ret u=>exact I.after hq
  | next=>exact False.elim hq
  | brk=>exact False.elim hq
  | cont=>exact False.elim hq
theorem Ea(F:aY X.prog X.w X.K X.mg X.base CX k f fd ps sp)(hr:de k X.A)(hg:Gl X x)(hm:X.mg x=some (.ref f))(hk:PySem.W.keepIn X.K (.ref f)=true)(hb:Binds X.K fd ps ds)(hd:Vals fv ds)(hx:Passes CX X E)
  (ha:PA X (e::es) t) (mI:(x == ("__debug__":Str))=false:=by decide) (he:starEach (e::es) X.env=(false,eval e X.env)::starEach es X.env:=by rfl) (jW:(backTo pos (starEach es X.env)).any (·.1)=false:=by rfl) :
  PE X (.Call (.Name x p) (e::es) [] pos) (Js sp fv E t):=by
 intro pins s σ H Q I h;refine zZ (Al I hg hm ?_ mI);refine PySem.W.callWith_K (h₀:=X.base) I.ok.mod.da hk (aS (ha pos pins s σ H _ I h) fun us s1 ⟨vs,H1,I1,r,q⟩=>⟨I1.dQ,?_⟩) he jW;exact Jt F hr hb hd hx I1 r q
theorem aB{j:Nat}(F:aY X.prog X.w X.K X.mg X.base CX k f fd ps sp)(hr:de j X.A)(hm:X.mg x=some (.ref f))(hk:PySem.W.keepIn X.K (.ref f)=true)(hb:Binds X.K fd ps [])(hx:Passes CX X E)
  (ha:PA X (e::es) t) (hj:k≤j:=by decide) (hg:Gl X x:=by exact rfl) (mI:(x == ("__debug__":Str))=false:=by decide) (he:starEach (e::es) X.env=(false,eval e X.env)::starEach es X.env:=by rfl) (jW:(backTo pos (starEach es X.env)).any (·.1)=false:=by rfl) :
  PE X (.Call (.Name x p) (e::es) [] pos) (Js sp [] E t):=Ea F (hr.mono hj) hg hm hk hb .nil hx ha mI he jW
theorem jX{pl:Sem Bool}(he:PE X o ta)(c:kA X.K C)(hm:Meth X.K C m f)(F:aY X.prog X.w X.K X.mg X.base CX k f fd ps sp)(hr:de k X.A)(hb:Binds X.K fd ps ds)(hd:Vals fv ds)(hx:Passes CX X E)(ha:PA X (e::es) t)
  (DV:starEach (e::es) X.env=(false,eval e X.env)::starEach es X.env:=by rfl) (jW:(backTo pos (starEach es X.env)).any (·.1)=false:=by rfl)
  (ht:eval (.Call (.Attribute o m apos) (e::es) [] pos) X.env=(do
   let ov ←eval o X.env
   standAt apos.atName
   let (f,first) ←holding [ov] (getMethod ov m pl)
   callWith pos f first (backTo pos (starEach (e::es) X.env)) (backToKw pos (keywordEach [] X.env))):=by rfl) :
  PE X (.Call (.Attribute o m apos) (e::es) [] pos) (Qw C m sp fv E ta t):=by
 intro pins s σ H Q I h
 refine PySem.W.methodCall_KW (pl:=pl) (aS (he pins s σ H _ I h) fun u s1 ⟨x,H1,I1,rx,a,dx,fs,ex,ea,l,q⟩=>?_) ht
 subst ex
 obtain rfl:u=Value.ref a:=rx
 refine Jn I1 ea c hm l ?_
 refine PySem.W.callWith_K (first:=[.ref a]) (h₀:=X.base) I.ok.mod.da hm.kp (aS (ha pos pins s1 σ H1 _ I1 q) fun us s2 ⟨vs,H2,I2,r,q2⟩=>⟨I2.dQ,?_⟩) DV jW
 exact Jt (us:=.ref a::us) (vs:=.ref a::vs) F hr hb hd hx I2 (.cons rfl r) q2
structure Mk (K:aD) (C f:Addr):Prop where
 makes:PySem.W.makesIn K C=true
 init:PySem.W.findIn K (.ref C) "__init__"=some (some (.ref f))
 fn:PySem.W.isFn K (.ref f)=true
 kp:PySem.W.keepIn K (.ref C)=true
theorem Qy{vs:List V}(M:Mk X.K C f)(F:aY X.prog X.w X.K X.mg X.base CX k f fd ps sp)(hr:de (k+1) X.A)(hb:Binds X.K fd ps ds)(hd:Vals fv ds)
  (hx:Passes CX X E) (I:Inv X pins σ H s) (r:Vals vs us)
  (h:∀x dx,H x=none→H dx=none→dx≠x→sp (.ref x::(vs++fv)) (upd (upd H dx (.own x)) x (.ins C dx [])) (fun v H2=>v=.aU∧Q (.ref x) H2) E) :
  wpAny (model X.prog X.w) X.A (call (.ref C) us) (EP X pins σ Q) X.xe s:=by
 have hq:=h (s.heap.objs.size+1) s.heap.objs.size (I.aG.fresh (mj _)) (I.aG.fresh (aK _)) (dE (zY _));have I2:=Inv.made (C:=C) I;have r2:Vals (V.ref (s.heap.objs.size+1)::(vs++fv)) (Value.ref (s.heap.objs.size+1)::(us++ds)):=.cons rfl (r.append hd);have hl:(Value.ref (s.heap.objs.size+1)::us++ds).length=ps.length:=by have e:=r2.length;rw [F.len _ _ _ _ hq] at e;exact e.symm
 refine wpAny_call (Qi (f:=f) I.dQ M.makes M.init (ko.mp M.fn) (codeAny_mono (F.run _ X.stack _ _ ⟨Value.ref (s.heap.objs.size+1)::us,[]⟩ (Value.ref (s.heap.objs.size+1)::(us++ds)) _ _ E (hr.make C us [])
  (I2.Jr.make C us []) (hb _ (Value.ref (s.heap.objs.size+1)::us) I2.dQ hl) r2 hq) fun r s' cV=>?_))
 cases r with
 | error e=>exact hx pins σ _ _ e s' I2 cV
 | ok fl=>
  cases fl with
  | ret u=>obtain ⟨v,H',I3,rv,ev,q3⟩:=I2.after cV;subst ev;exact ⟨rv,⟨V.ref (s.heap.objs.size+1),H',I3,rfl,q3⟩⟩
  | next=>exact False.elim cV
  | brk=>exact False.elim cV
  | cont=>exact False.elim cV
theorem Qz(M:Mk X.K C f)(F:aY X.prog X.w X.K X.mg X.base CX k f fd ps sp)(hr:de (k+1) X.A)(hg:Gl X x)(hm:X.mg x=some (.ref C))(hb:Binds X.K fd ps ds)(hd:Vals fv ds)(hx:Passes CX X E)
  (ha:PA X (e::es) t) (mI:(x == ("__debug__":Str))=false:=by decide) (he:starEach (e::es) X.env=(false,eval e X.env)::starEach es X.env:=by rfl) (jW:(backTo pos (starEach es X.env)).any (·.1)=false:=by rfl) :
  PE X (.Call (.Name x p) (e::es) [] pos) (Qx C sp fv E t):=by
 intro pins s σ H Q I h;refine zZ (Al I hg hm ?_ mI);refine PySem.W.callWith_K (h₀:=X.base) I.ok.mod.da M.kp (aS (ha pos pins s σ H _ I h) fun us s1 ⟨vs,H1,I1,r,q⟩=>⟨I1.dQ,?_⟩) he jW;exact Qy M F hr hb hd hx I1 r q
end
section
variable {X:Cx} {CX:iw} {k:Nat} {f C:Addr} {fd:FuncData} {ps ks:List Str} {sp:Sp} {E:XK} {x m:Str} {p pos apos Ju:Pos} {e o:Expr} {es:List Expr} {QA:List Keyword} {te ta:TE} {t tk:TA} {nm:Option Str}
variable {g:List Value→List Value→List Value} {gV:List V→List V→List V}
end
structure a8 (N P:List Str) (sc:Scope):Prop where
 kind:sc.kind=.function
 co:sc.isCoroutine=false
 gen:sc.isGenerator=false
 nd:N.Nodup
 pre:N.take P.length=P
 par:∀x∈P,sc.names.lookup x=some .local∨sc.names.lookup x=some .cell
 QB:∀y∈sc.names,y.2≠.free
variable {N:List Str} {sc:Scope}
theorem bH{P:List Str}(h1:sc.kind=.function:=by rfl)(h2:sc.isCoroutine=false:=by rfl)(h3:sc.isGenerator=false:=by rfl)(h4:N.Nodup:=by decide +kernel)(h5:N.take P.length=P:=by rfl)(h6:∀x∈P,sc.names.lookup x=some .local∨sc.names.lookup x=some .cell:=by decide +kernel)(h7:∀y∈sc.names,y.2≠.free:=by decide +kernel):a8 N P sc:=⟨h1,h2,h3,h4,h5,h6,h7⟩
theorem Jv{kindOf:Str→Option NameKind}{x:Str}:∀{binds:List (Str×Value)} {m:dc},(∀v,(x,v)∉binds)→bindL kindOf binds m x=m x
 | [],_,_=>rfl
 | (n,v)::r,m,h=>by
  unfold bindL;rw [Jv fun w hw=>h w (fj _ hw)]
  split
  ·have:x≠n:=by rintro rfl;exact h v fQ
   simp [this]
  ·rfl
theorem Jw{kindOf:Str→Option NameKind}{x:Str}:∀{binds:List (Str×Value)} {m:dc},(∀v,(x,v)∉binds)→bindC kindOf binds m x=m x
 | [],_,_=>rfl
 | (n,v)::r,m,h=>by
  unfold bindC;rw [Jw fun w hw=>h w (fj _ hw)]
  split
  ·rfl
  ·have:x≠n:=by rintro rfl;exact h v fQ
   simp [this]
theorem Jx{kindOf:Str→Option NameKind}{x:Str}{v:Value}:∀{P:List Str} {vs:List Value} {i:Nat} {m:dc},P.Nodup→P[i]?=some x→vs[i]?=some v→kindOf x=some .local→
  bindL kindOf (P.zip vs) m x=some v
 | [],_,_,_,_,h,_,_=>by simp at h
 | _::_,[],_,_,_,_,h,_=>by simp at h
 | p::P,w::vs,0,m,nd,h1,h2,hk=>by simp at h1 h2;subst h1;subst h2;show bindL kindOf ((p,w)::P.zip vs) m p=_;unfold bindL;rw [Jv fun v hv=>(iO.mp nd).1 (List.of_mem_zip hv).1,ar hk];simp
 | p::P,w::vs,i+1,m,nd,h1,h2,hk=>by show bindL kindOf ((p,w)::P.zip vs) m x=_;unfold bindL;exact Jx (i:=i) (iO.mp nd).2 (by simpa using h1) (by simpa using h2) hk
theorem Jy{kindOf:Str→Option NameKind}{x:Str}{v:Value}:∀{P:List Str} {vs:List Value} {i:Nat} {m:dc},P.Nodup→P[i]?=some x→vs[i]?=some v→kindOf x≠some .local→
  bindC kindOf (P.zip vs) m x=some v
 | [],_,_,_,_,h,_,_=>by simp at h
 | _::_,[],_,_,_,_,h,_=>by simp at h
 | p::P,w::vs,0,m,nd,h1,h2,hk=>by simp at h1 h2;subst h1;subst h2;show bindC kindOf ((p,w)::P.zip vs) m p=_;unfold bindC;rw [Jw fun v hv=>(iO.mp nd).1 (List.of_mem_zip hv).1,ao hk];simp
 | p::P,w::vs,i+1,m,nd,h1,h2,hk=>by show bindC kindOf ((p,w)::P.zip vs) m x=_;unfold bindC;exact Jy (i:=i) (iO.mp nd).2 (by simpa using h1) (by simpa using h2) hk
def start(N:List Str)(vs:List V):St:=vs.map some++List.replicate (N.length-vs.length) none
def jv(CX:iw)(P:Program)(w:World)(K:aD)(mg:dc)(base:Heap)(N:List Str)(qual:Str)(scope:Scope)(f:Addr)(cd:Value)(A:Around)(outer:List Env)(s:Shared)(H:Hp)(E:XK):Cx where
 prog:=P
 w:=w
 K:=K
 mg:=mg
 base:=base
 A:=A.deeper (envOfC qual scope s.heap.objs.size f cd)
 N:=N
 s₀:=s
 H₀:=H
 env:=envOfC qual scope s.heap.objs.size f cd
 outer:=outer
 stack:=envOfC qual scope s.heap.objs.size f cd::outer
 ex:=[]
 calm:=true
 fn:=fun _=>true
 pn:=[]
 xe:=fun e s'=>wpAny (model P w) (A.deeper (envOfC qual scope s.heap.objs.size f cd)) (leaving (envOfC qual scope s.heap.objs.size f cd) e) (fun _ jw=>CX outer H s E e jw) (fun e' jw=>CX outer H s E e' jw) s'
theorem Jz{x:Str}(h:sc.names.lookup x=some .cell):∃c,(cellsFrom n sc.names []).lookup x=some c:=by have q:=PySem.W.cellsFrom_some sc.names n [] (.inl h);exact Dw.mp q
variable {CX:iw} {qual:Str} {scope:Scope} {f:Addr}
theorem QC{cd:Value}{s1:Shared}{E:XK}{vs:List V}
  (S:a8 N ps scope) (hd:A.handled=none) (e0:qg P w K mg base A outer s H) (hl:vs.length=ps.length) (r:Vals vs us)
  (x:InCallC s s.heap.objs.size (bindL (envOfC qual scope s.heap.objs.size f cd).kindOf (ps.zip us) fun _=>none) (cellsFrom (s.heap.objs.size+1) scope.names []) (bindC (envOfC qual scope s.heap.objs.size f cd).kindOf (ps.zip us) fun _=>none) s1) :
  Inv (jv CX P w K mg base N qual scope f cd A outer s H E) [] (start N vs) H s1:=by
 have jW:ps.length≤N.length:=by have:=hJ List.length S.pre;rw [mq] at this;lia
 obtain ⟨h1,tk,rfl,hk⟩:=x.done;have xZ:∀b:Addr,b∉(jv CX P w K mg base N qual scope f cd A outer s H E).ex:=fun b z=>absurd (show b∈([]:List Addr) from z) (by simp)
 refine ⟨⟨e0.mod,S.kind,rfl,rfl,aK _,fun y z c h1 h2=>?_,fun y hy=>?_,fun y c _ h=>?_,fun _=>hd,Around.frames_deeper e0.frames,.inr ⟨rfl,rfl⟩,fun b z=>absurd z (xZ b),e0.bs,e0.jr,fun b _ _=>xZ b,fun b z=>absurd z (xZ b),e0.jT,e0.mE⟩,
  rfl,e0.bare,Un.kept hk,⟨_,x.toInCall.ns,fun i y v h1 h2 h3=>?_⟩,fun y c h=>⟨_,x.cell y c h⟩,e0.aG.fresh (aK _),fun y c h=>?_,fun p hp=>absurd (show p∈([]:a7) from hp) (by simp),e0.aG.kept hk,?_⟩
 ·exact name_of_addr x.apart (k6 h1) (k6 h2)
 ·have hy:scope.names.lookup y=some .cell∨scope.names.lookup y=some .free:=hy
  rcases hy with hy | hy;·exact Jz hy
  ·exact absurd rfl (S.QB _ (k6 hy))
 ·exact Nat.le_of_lt (x.above y c (k6 h))
 ·have hi:i<vs.length:=by
   unfold start at h2;by_cases hi:i<vs.length;·exact hi
   ·rw [pB (by simpa using hi)] at h2
    rw [List.getElem?_replicate] at h2
    split at h2 <;> cases h2
  have ha:vs[i]?=some v:=by
   unfold start at h2;rw [pD (by simpa using hi),cz] at h2
   cases e:vs[i]? with
   | none=>rw [e] at h2;cases h2
   | some a=>rw [e] at h2;cases h2;rfl
  obtain ⟨u,hu,rv⟩:=r.get ha;have hp:ps[i]?=some y:=by rw [←S.pre,List.getElem?_take_of_lt (by lia)];exact h1
  have JA:ps.Nodup:=by rw [←S.pre];exact S.nd.sublist (pE _ _)
  refine ⟨u,rv,?_⟩;rcases S.par y (hU hp) with k | k;·exact .inl ⟨k,Jx JA hp hu k⟩
  ·obtain ⟨c,e⟩:=Jz (n:=s.heap.objs.size+1) k
   refine .inr ⟨.inl k,c,e,?_⟩;have q:=x.cell y c e;rw [Jy JA hp hu (by show scope.names.lookup y≠_;rw [k];decide)] at q
   exact q
 ·exact e0.aG.fresh (Nat.le_of_lt (x.above y c (k6 h)))
 ·unfold start
  show _=N.length;rw [fo,aR,List.length_replicate];lia
theorem Eb{name:Str}{params:Arguments}{body:List Stmt}{dV kV doc pm bf ct oc:Value}{an od:Option Addr}
  {fX:Array (Option Value)} {sp:Sp} (lk:K.lookup f=some ⟨oc,od,.func (PySem.W.fnOf name qual params body scope dV kV doc pm an bf ct),fX⟩) (fV:PySem.W.codeIn K bf qual=true) (S:a8 N ps scope)
  (len:∀vs H Q E,sp vs H Q E→vs.length=ps.length)
  (kD:∀(A:Around) (outer:List Env) (s:Shared) (H:Hp) (vs:List V) (Q:VK) (E:XK),de k (A.deeper (envOfC qual scope s.heap.objs.size f bf))→sp vs H Q E→
   ∃t,eP (jv CX P w K mg base N qual scope f bf A outer s H E) body t∧t {nx:=fun _ H'=>Q .aU H',rt:=Q} (start N vs) H) :
  aY P w K mg base CX (k+1) f (PySem.W.fnOf name qual params body scope dV kV doc pm an bf ct) ps sp:=by
 refine ⟨len,fun A outer s H args us vs Q E hr e0 hb r jY=>?_⟩;have hl:=len _ _ _ _ jY;have KX:K.In s.heap:=e0.mod.da.keeps fun b o e=>(e0.bs b o e).1;have lim:s.heap.NoLimit:=e0.mod.nolimit.keeps fun b o e=>(e0.bs b o e).1;have QD:∀y∈ps.zip us,scope.names.lookup y.1=some .local∨(scope.names.lookup y.1=some .cell∧((cellsFrom (s.heap.objs.size+1) scope.names []).lookup y.1).isSome=true):=fun⟨n,v⟩ hy=>by
  rcases S.par n (List.of_mem_zip hy).1 with q | q;·exact .inl q
  ·exact .inr ⟨q,PySem.W.cellsFrom_some _ _ _ (.inl q)⟩
 refine codeAny_call_function hr.depth (KX _ _ lk) rfl S.co S.gen rfl (PySem.W.codeRec_of KX fV) (hb _ _ _ _ ?_);refine wpAny_newFunctionEnv_cells S.kind QD fun env he s1 x=>?_;subst he;refine ⟨lim.keeps x.toInCall.keep,codeAny_func ?_⟩;obtain ⟨t,ht,hq⟩:=kD A outer s H vs Q E (hr.deeper _) jY;have I:Inv (jv CX P w K mg base N qual scope f bf A outer s H E) [] (start N vs) H s1:=QC S hr.hd e0 hl r x;refine dJ (ht [] s1 (start N vs) H _ I hq) (fun fl s' hs=>?_) fun e s' hs=>hs;have fin:∀{σ':St} {H':Hp} {v:V} {u:Value},Inv (jv CX P w K mg base N qual scope f bf A outer s H E) [] σ' H' s'→RelV v u→Q v H'→CE outer P w H s Q u s':=
  fun{σ' H' v u} J rv q=>⟨v,H',J.os,J.bare,J.base,J.aG,rv,q⟩
 cases fl with
 | ret u=>obtain ⟨v,σ',H',J,rv,q⟩:=hs;exact fin J rv q
 | next=>obtain ⟨σ',H',J,q⟩:=hs;exact fin (v:=V.aU) (u:=Value.none) J rfl q
 | brk=>obtain ⟨_,_,_,q⟩:=hs;exact False.elim q
 | cont=>obtain ⟨_,_,_,q⟩:=hs;exact False.elim q
section
variable {X:Cx} {x:Str} {p pos:Pos} {e:Expr} {es:List Expr} {t:TA} {id T:String} {r:List V→Hp→VK→Prop}
def AF(r:List V→Hp→VK→Prop)(t:TA):TE:=fun σ H Q=>t σ H fun vs H1=>r vs H1 Q
theorem bW(hc:gr X (.builtin id) r)(hg:Gl X x)(hm:X.mg x=none)(hv:bootBuiltins x=some (.builtin id))(ha:PA X (e::es) t)(hn:x ≠ "__name__":=by decide)(mI:(x == ("__debug__":Str))=false:=by decide)
  (he:starEach (e::es) X.env=(false,eval e X.env)::starEach es X.env:=by rfl) (jW:(backTo pos (starEach es X.env)).any (·.1)=false:=by rfl):PE X (.Call (.Name x p) (e::es) [] pos) (AF r t):=by
 intro pins s σ H Q I h;refine zZ (n8 I hg hm hv ?_ hn mI);exact PyProof.Rows.callWith_builtin1 (aS (ha pos pins s σ H _ I h) fun us s1 ⟨vs,H1,I1,r1,q1⟩=>hc pins s1 σ H1 vs us Q I1 r1 q1) he jW
theorem gY(hc:gr X (.type T) r)(hg:Gl X x)(hm:X.mg x=none)(hv:bootBuiltins x=some (.type T))(ha:PA X (e::es) t)(hn:x ≠ "__name__":=by decide)(mI:(x == ("__debug__":Str))=false:=by decide)
  (he:starEach (e::es) X.env=(false,eval e X.env)::starEach es X.env:=by rfl) (jW:(backTo pos (starEach es X.env)).any (·.1)=false:=by rfl):PE X (.Call (.Name x p) (e::es) [] pos) (AF r t):=by
 intro pins s σ H Q I h;refine zZ (n8 I hg hm hv ?_ hn mI);exact tS (aS (ha pos pins s σ H _ I h) fun us s1 ⟨vs,H1,I1,r1,q1⟩=>hc pins s1 σ H1 vs us Q I1 r1 q1) he jW
end
end L2
namespace HT
open PySem PyProof.Rows
section
open PySem.SeqAt
open PySem.AutoSeq1 (wpAny_loadPart')
open PySem.MeetsSeq PySem.MeetsSeq2 PySem.MeetsSeq3
end
section
variable {prog:Program} {w:World} {A:Around} {E:aX} {s:Shared}
def fY(n d:Nat):Option Int→Nat
 | none=>d
 | some v=>if v<0 then (v+(n:Int)).toNat else min v.toNat n
theorem QE(n d:Nat):fY n d none=d:=rfl
theorem QF(n d k:Nat):fY n d (some (k:Int))=min k n:=by
 show (if (k:Int)<0 then ((k:Int)+(n:Int)).toNat else min (k:Int).toNat n)=min k n
 rw [ao (by lia),dM]
end
end HT
namespace L2
open PySem PySem.Spec PyProof.Rows
abbrev TO:=St→Hp→(Option Int→Hp→Prop)→Prop
def PO(X:Cx)(e:Option Expr)(t:TO):Prop:=
 ∀(pins:a7) (s:Shared) (σ:St) (H:Hp) (Q:Option Int→Hp→Prop),Inv X pins σ H s→t σ H Q→
  wpAny (model X.prog X.w) X.A (evalPart e X.env) (fun u s'=>∃o H',Inv X pins σ H' s'∧IsPart u o∧Q o H') X.xe s
def QG:TO:=fun _ H Q=>Q none H
def QH(t:TE):TO:=fun σ H Q=>t σ H fun x H1=>∃i,x=.int i∧Q (some i) H1
theorem intsAre_of{ns:List Int}:∀{us:List Value},Vals (ns.map V.int) us→IntsAre us ns:=by
 induction ns with
 | nil=>intro us r;rw [List.map_nil] at r;cases r;exact .nil
 | cons n ns ih=>
  intro us r;rw [cy] at r;cases r with
  | cons r1 r2=>obtain ⟨t,e⟩:=r1;subst e;exact .cons n t (ih r2)
section
variable {X:Cx} {e:Expr} {te:TE} {lo hi:Option Expr} {tl th:TO} {pos p2:Pos}
theorem AG:PO X none QG:=by intro pins s σ H Q I h;rw [evalPart_none];exact fR ⟨none,H,I,.none,h⟩
theorem AH(h:PE X e te):PO X (some e) (QH te):=by intro pins s σ H Q I hw;rw [evalPart_some];refine aS (h pins s σ H _ I hw) fun u s1 ⟨x,H1,I1,r1,q1⟩=>?_;obtain ⟨i,rfl,q⟩:=q1;obtain ⟨t,rfl⟩:=r1;exact ⟨some i,H1,I1,.int i t,q⟩
def JB(X:Cx)(r:V→Option Int→Option Int→Hp→VK→Prop):Prop:=
 ∀(pins:a7) (s:Shared) (σ:St) (H:Hp) (x:V) (v vl vu:Value) (lo hi:Option Int) (sl:Addr) (Q:VK),Inv X pins σ H s→RelV x v→s.heap.IsSliceOf sl vl vu .none→IsPart vl lo→IsPart vu hi→r x lo hi H Q→
  ∃T id,typeLookup (.type T) "__getitem__"=pure (some (.builtin id))∧s.TypeIs v T∧wpAny (model X.prog X.w) X.A (getItem v (.ref sl)) (EP X pins σ Q) X.xe s
def QI(r:V→Option Int→Option Int→Hp→VK→Prop)(te:TE)(tl th:TO):TE:=fun σ H Q=>te σ H fun x H1=>tl σ H1 fun l H2=>th σ H2 fun u H3=>r x l u H3 Q
theorem AI{r:V→Option Int→Option Int→Hp→VK→Prop}(hr:JB X r)(he:PE X e te)(hl:PO X lo tl)(hu:PO X hi th):PE X (.Subscript e (.Slice lo hi none p2) pos) (QI r te tl th):=by intro pins s σ H Q I h;refine Subscript_ (aS (he pins s σ H _ I h) fun v s1 ⟨x,H1,I1,r1,q1⟩=>?_);refine wpAny_Slice (aS (hl pins s1 σ H1 _ I1 q1) fun vl s2 ⟨l,H2,I2,pl,q2⟩=>aS (hu pins s2 σ H2 _ I2 q2) fun vu s3 ⟨u,H3,I3,pu,q3⟩=>?_);rw [evalPart_none];refine fR ?_;have I4:Inv X pins σ H3 {s3 with heap:=s3.heap.push {cls:=.type "slice",data:=.fields #[vl,vu,.none]}}:=I3.kept (t':=s3.toks) fun b ob q=>cL _ q;obtain ⟨T,id,hT,ht,hg⟩:=hr pins {s3 with heap:=s3.heap.push {cls:=.type "slice",data:=.fields #[vl,vu,.none]}} σ H3 x v vl vu l u s3.heap.objs.size Q I4 r1 (Heap.IsSliceOf.new ..) pl pu q3;show wpAny (model X.prog X.w) X.A (subscriptTail e (.Slice lo hi none p2) v (.ref s3.heap.objs.size)) (EP X pins σ Q) X.xe {s3 with heap:=s3.heap.push {cls:=.type "slice",data:=.fields #[vl,vu,.none]}};exact tail_any (ops:=[.ref s3.heap.objs.size,v]) ht hT hg (by with_unfolding_all rfl)
def iS(xs:List V)(lo hi:Option Int):List V:=(xs.drop (HT.fY xs.length 0 lo)).take (HT.fY xs.length xs.length hi-HT.fY xs.length 0 lo)
theorem QJ(xs:List V)(lo hi:Option Int):(iS xs lo hi).length≤xs.length:=by unfold iS;rw [mq,xD];lia
end
def mJ(n:Nat)(i:Int):Option Nat:=if 0≤i then (if i<n then some i.toNat else none) else if -(n:Int)≤i then some (i+n).toNat else none
def gZ{α:Type}(xs:List α)(i:Int):Option α:=(mJ xs.length i).bind fun j=>xs[j]?
variable {i:Int} {j:Nat}
theorem JD{n:Nat}(h:mJ n i=some j):seqIndex? i n=some j∧j<n∧-(n:Int)≤i∧i<n:=by
 unfold mJ at h;by_cases h0:0≤i
 ·rw [ar h0] at h
  by_cases h1:i<n
  ·rw [ar h1] at h
   have e:i.toNat=j:=Option.some.inj h;exact ⟨by rw [seqIndex_of h0 h1,e],by lia,by lia,h1⟩
  ·rw [ao h1] at h;cases h
 ·rw [ao h0] at h
  by_cases h1:-(n:Int)≤i
  ·rw [ar h1] at h
   have e:(i+n).toNat=j:=Option.some.inj h;exact ⟨by rw [seqIndex_neg (by lia) h1,e],by lia,h1,by lia⟩
  ·rw [ao h1] at h;cases h
theorem JE{α:Type}{xs:List α}{v:α}(h:gZ xs i=some v):∃j,seqIndex? i xs.length=some j∧xs[j]?=some v∧j<xs.length∧-(xs.length:Int)≤i∧i<xs.length:=by
 unfold gZ at h;cases e:mJ xs.length i with
 | none=>rw [e] at h;cases h
 | some j=>rw [e] at h;obtain ⟨h1,h2,h3,h4⟩:=JD e;exact ⟨j,h1,h,h2,h3,h4⟩
theorem gJ{α:Type}{xs:List α}{v:α}(h:xs[j]?=some v):gZ xs (j:Int)=some v:=by
 have hj:j<xs.length:=(bQ.mp h).1;have e:mJ xs.length (j:Int)=some j:=by unfold mJ;rw [ar (by lia),ar (by lia)];simp
 unfold gZ;rw [e];exact h
def JF(b:Expr):Prop:=∀o i,subscripted b false o i=operate [o,i] (getItem o i)
def x4(X:Cx)(r:R2):Prop:=
 ∀(value slice:Expr) (pins:a7) (s:Shared) (σ:St) (H:Hp) (x y:V) (v u:Value) (Q:VK),Inv X pins σ H s→RelV x v→RelV y u→r x y H Q→
  subscripted slice false v u=operate [v,u] (getItem v u)→wpAny (model X.prog X.w) X.A (subscriptTail value slice v u) (EP X pins σ Q) X.xe s
def Ec(X:Cx)(id:String)(r:V→List V→Hp→VK→Prop):Prop:=
 ∀(pins:a7) (s:Shared) (σ:St) (H:Hp) (x:V) (xs:List V) (v:Value) (us:List Value) (Q:VK),Inv X pins σ H s→RelV x v→Vals xs us→r x xs H Q→
  wpAny (model X.prog X.w) X.A (call (.builtin id) (v::us)) (EP X pins σ Q) X.xe s
section
variable {X:Cx} {a b:Expr} {ta tb:TE} {pos:Pos}
theorem x5{r:R2}(hr:x4 X r)(ha:PE X a ta)(hb:PE X b tb)(hs:JF b):PE X (.Subscript a b pos) (oi r ta tb):=by intro pins s σ H Q I h;exact Subscript_ (DY ha hb I h fun v u s2 x y H2 I2 rx ry q=>hr a b pins s2 σ H2 x y v u Q I2 rx ry q (hs _ _))
theorem ai{r:R2}(hr:x4 X r)(ha:PE X a ta)(hb:PE X b tb)(hs:JF b:=by exact fun _ _=>rfl):PE X (.Subscript a b pos) (oi r ta tb):=x5 hr ha hb hs
def JG(K:aD):R2:=fun x y H Q=>∃p xs i v,x=.ref p∧y=.int i∧bU K H p xs∧gZ xs i=some v∧Q v H
def QK(K:aD):R2:=fun x y H Q=>∃p xs i v,x=.ref p∧y=.int i∧eC K H p xs∧gZ xs i=some v∧Q v H
theorem aV:x4 X (JG X.K):=by
 intro value slice pins s σ H x y v u Q I rx ry h hs;obtain ⟨p,xs,i,z,rfl,rfl,hq,he,q⟩:=h;cases rx;obtain ⟨t,rfl⟩:=ry;obtain ⟨aj,r,pl,hz⟩:=I.list hq;obtain ⟨j,h1,h2,h3,h4,h5⟩:=JE he;obtain ⟨w,ew,p7⟩:=r.get h2;have hl:=r.length;have hn:=AB;have fin:EP X pins σ Q w s:=⟨z,H,I,p7,q⟩;by_cases h0:0≤i
 ·have hj:i.toNat=j:=by rw [seqIndex_of h0 h5] at h1;exact Option.some.inj h1
  exact item_listR pl.isList h0 (by lia) (by rw [hj];simpa using ew) fin hs
 ·have hj:(i+(aj.toArray.size:Int)).toNat=j:=by
   rw [seqIndex_neg (by lia) h4] at h1
   rw [cY,←hl];exact Option.some.inj h1
  exact subscriptTail_builtinR (x:=w) pl.isList.typeIs slot_list_getitem.lookup
   (wpAny_getItem_list_neg (Q:=fun r s'=>r=w∧EP X pins σ Q r s') pl.isList (by lia) (by rw [cY] <;> lia) (by lia) (by rw [hj];simpa using ew) ⟨rfl,fin⟩) hs
theorem aC:x4 X (QK X.K):=by
 intro value slice pins s σ H x y v u Q I rx ry h hs;obtain ⟨p,xs,i,z,rfl,rfl,hq,he,q⟩:=h;cases rx;obtain ⟨t,rfl⟩:=ry;obtain ⟨aj,r,pl,hz⟩:=I.tuple hq;obtain ⟨j,h1,h2,h3,h4,h5⟩:=JE he;obtain ⟨w,ew,p7⟩:=r.get h2;have hl:=r.length;have hn:=AB;have fin:EP X pins σ Q w s:=⟨z,H,I,p7,q⟩
 exact subscriptTail_builtinR (x:=w) pl.typeIs slot_tuple_getitem.lookup
  (getItem_tuple (j:=j) (Q:=fun r s'=>r=w∧EP X pins σ Q r s') pl (by lia) (by lia) (by rw [cY,←hl];exact h1) (by simpa using ew) ⟨rfl,fin⟩) hs
theorem QL(aj:List Value)(n j:Nat)(u:Value):Obj.mapSeq (·.setIfInBounds j u) {cls:=.type "list",data:=.seq aj.toArray n}={cls:=.type "list",data:=.seq (aj.set j u).toArray n}:=by simp [Obj.mapSeq]
theorem Inv.lst{pins:a7}{σ:St}{H:Hp}{s:Shared}{p:Addr}{xs:List V}(I:Inv X pins σ H s)(h:H p=some (.lst xs)) :
  ∃(aj:List Value) (n:Nat),Vals xs aj∧s.heap.get? p=some {cls:=.type "list",data:=.seq aj.toArray n}∧xs.length≤sizeLine:=by
 obtain ⟨z,aj,n,r,e⟩:=I.aG p _ h;exact ⟨aj,n,r,e,z⟩
variable {pins:a7} {σ:St} {H:Hp} {s:Shared}
theorem Inv.QM{p:Addr}{xs ys:List V}{aj its':List Value}{n n':Nat}{f:Obj→Obj}(I:Inv X pins σ H s)(h:H p=some (.lst xs))
  (ho:s.heap.get? p=some {cls:=.type "list",data:=.seq aj.toArray n}) (hf:f {cls:=.type "list",data:=.seq aj.toArray n}={cls:=.type "list",data:=.seq its'.toArray n'}) (r:Vals ys its') (hz:ys.length≤sizeLine) (t:Nat) :
  Inv X pins σ (upd H p (.lst ys)) {s with heap:=s.heap.update p f,toks:=t}:=by
 have e:(s.heap.update p f).get? p=some {cls:=.type "list",data:=.seq its'.toArray n'}:=by rw [Heap.get?_update_self f ho (by rw [hf] <;> rfl),hf]
 refine I.write (x:=p) (e:=p) (by rw [h];trivial) (.inl rfl) (fun b u hb q=>(Heap.get?_update_other _ _ (Ne.symm hb)).trans q) ⟨_,e⟩ ?_
 exact ⟨hz,its',n',r,e⟩
def QN:V→V→V→Hp→(Hp→Prop)→Prop:=fun o i v H Q=>∃p xs k j,o=.ref p∧i=.int k∧H p=some (.lst xs)∧mJ xs.length k=some j∧Q (upd H p (.lst (xs.set j v)))
theorem set_list:IV X QN:=by
 intro pins s σ H o i v ov iv u Q I ro ri rv h;obtain ⟨p,xs,k,j,rfl,rfl,hp,hj,q⟩:=h;cases ro;obtain ⟨t,rfl⟩:=ri;obtain ⟨aj,n,r,ho,hz⟩:=I.lst hp;obtain ⟨h1,h2,h3,h4⟩:=JD hj;have hl:=r.length;have hn:=AB;have I':Inv X pins σ (upd H p (.lst (xs.set j v))) {s with heap:=s.heap.update p (Obj.mapSeq (·.setIfInBounds j u))}:=
  I.QM hp ho (QL aj n j u) (r.set rv j) (by rw [List.length_set];exact hz) s.toks
 by_cases h0:0≤k
 ·have hk:k.toNat=j:=by rw [seqIndex_of h0 h4] at h1;exact Option.some.inj h1
  exact PySem.W.ki_setAt ho h0 (by lia) (by rw [cY,←hl];exact h4) (by rw [hk];exact ⟨_,I',q⟩)
 ·have hk:(k+(aj.toArray.size:Int)).toNat=j:=by
   rw [seqIndex_neg (by lia) h3] at h1
   rw [cY,←hl];exact Option.some.inj h1
  exact PySem.W.ki_setBack ho (by lia) (by rw [cY,←hl];exact h3) (by lia) (by rw [hk];exact ⟨_,I',q⟩)
theorem QO(lo hi:Option Int)(n:Nat):(sliceBounds lo hi none n).1=((HT.fY n 0 lo:Nat):Int)∧(sliceBounds lo hi none n).2.1=((HT.fY n n hi:Nat):Int)∧(sliceBounds lo hi none n).2.2=1:=by
 refine ⟨?_,?_,rfl⟩
 ·cases lo with
  | none=>simp [sliceBounds,HT.fY]
  | some i=>
   simp only [sliceBounds,HT.fY,Option.getD_none,show (1:Int)>0 by decide,if_true]
   by_cases h:i<0;·simp only [h,if_true] <;> lia
   ·simp only [h,if_false] <;> lia
 ·cases hi with
  | none=>simp [sliceBounds,HT.fY]
  | some i=>
   simp only [sliceBounds,HT.fY,Option.getD_none,show (1:Int)>0 by decide,if_true]
   by_cases h:i<0;·simp only [h,if_true] <;> lia
   ·simp only [h,if_false] <;> lia
theorem QP(aj:List Value)(lo hi:Option Int):slicePick aj.toArray lo hi none=((aj.drop (HT.fY aj.length 0 lo)).take (HT.fY aj.length aj.length hi-HT.fY aj.length 0 lo)).toArray:=by obtain ⟨h1,h2,h3⟩:=QO lo hi aj.toArray.size;unfold slicePick;rw [h1,h2,h3];simp only [sliceRange_one,pick_run,cY] <;> rfl
def QQ(K:aD):V→Option Int→Option Int→Hp→VK→Prop:=fun x lo hi H Q=>∃a xs,x=.ref a∧bU K H a xs∧∀p,H p=none→Q (.ref p) (upd H p (.lst (iS xs lo hi)))
theorem AJ:JB X (QQ X.K):=by
 intro pins s σ H x v vl vu lo hi sl Q I rx hs pl pu h;obtain ⟨a,xs,rfl,hx,q⟩:=h;cases rx;obtain ⟨aj,r,ht,hz⟩:=I.list hx;have hlen:=r.length;refine ⟨"list",_,slot_list_getitem.lookup,ht.isList.typeIs,?_⟩;refine wpAny_getItem_list_slice ht.isList hs pl pu .none (by simp) ?_ (by rw [cY] <;> lia)
 rw [QP,←hlen];refine ⟨.ref s.heap.objs.size,_,I.laid (t':=s.toks) (o:=.lst (iS xs lo hi)) (fun b ob q=>cL _ q) (aK _) ?_,rfl,q _ (I.aG.fresh (aK _))⟩;exact ⟨aH (QJ xs lo hi) hz,_,0,(r.drop (HT.fY xs.length 0 lo)).take (HT.fY xs.length xs.length hi-HT.fY xs.length 0 lo),fm _ rfl⟩
def gK:V→Bool
 | .aU=>true
 | .bl _=>true
 | .int _=>true
 | .str _=>true
 | _=>false
def g6:V→V→Bool
 | .aU,.aU=>true
 | .bl a,.bl b=>a == b
 | .bl a,.int b=>(if a then 1 else 0) == b
 | .int a,.bl b=>a == (if b then 1 else 0)
 | .int a,.int b=>a == b
 | .str a,.str b=>a == b
 | _,_=>false
variable {y x:V} {u v:Value}
theorem x8{A:Around}(ry:RelV y u)(rx:RelV x v)(fy:gK y=true)(fx:gK x=true):SeqAt.EqAt A s u v (g6 y x):=by
 cases y with
 | aU=>
  cases ry;cases x with
  | aU=>cases rx;exact SeqAt.EqAt.same _
  | bl b=>cases rx;exact SeqAt.EqAt.none_bool b
  | int b=>obtain ⟨t,rfl⟩:=rx;exact SeqAt.EqAt.none_int b t
  | str b=>obtain ⟨t,rfl⟩:=rx;exact SeqAt.EqAt.none_str b t
  | _=>exact absurd (show false=true from fx) dA
 | bl a=>
  cases ry;cases x with
  | aU=>cases rx;exact SeqAt.EqAt.bool_none a
  | bl b=>cases rx;exact SeqAt.EqAt.bool_bool a b
  | int b=>obtain ⟨t,rfl⟩:=rx;exact SeqAt.EqAt.bool_int a b t
  | str b=>obtain ⟨t,rfl⟩:=rx;exact SeqAt.EqAt.bool_str a b t
  | _=>exact absurd (show false=true from fx) dA
 | int a=>
  obtain ⟨t',rfl⟩:=ry;cases x with
  | aU=>cases rx;exact SeqAt.EqAt.int_none a t'
  | bl b=>cases rx;exact SeqAt.EqAt.int_bool a t' b
  | int b=>obtain ⟨t,rfl⟩:=rx;exact SeqAt.EqAt.int_int a t' b t
  | str b=>obtain ⟨t,rfl⟩:=rx;exact SeqAt.EqAt.int_str a t' b t
  | _=>exact absurd (show false=true from fx) dA
 | str a=>
  obtain ⟨t',rfl⟩:=ry;cases x with
  | aU=>cases rx;exact SeqAt.EqAt.str_none a t'
  | bl b=>cases rx;exact SeqAt.EqAt.str_bool a t' b
  | int b=>obtain ⟨t,rfl⟩:=rx;exact SeqAt.EqAt.str_int a t' b t
  | str b=>obtain ⟨t,rfl⟩:=rx;exact SeqAt.EqAt.str_str a t' b t
  | _=>exact absurd (show false=true from fx) dA
 | _=>exact absurd (show false=true from fy) dA
def iy(x:V)(u:Value):Bool:=match u with
 | .none=>g6 .aU x
 | .bool b=>g6 (.bl b) x
 | .int i _=>g6 (.int i) x
 | .str z _=>g6 (.str z) x
 | _=>false
theorem JH(r:RelV y u)(f:gK y=true):iy x u=g6 y x:=by
 cases y with
 | aU=>cases r;rfl
 | bl b=>cases r;rfl
 | int i=>obtain ⟨t,rfl⟩:=r;rfl
 | str z=>obtain ⟨t,rfl⟩:=r;rfl
 | _=>exact absurd (show false=true from f) dA
theorem x9{x:V}:∀{xs:List V} {us:List Value},Vals xs us→xs.all gK=true→us.any (iy x)=xs.any fun y=>g6 y x
 | _,_,.nil,_=>rfl
 | y::xs,u::us,.cons r t,f=>by rw [tU,xE] at f;rw [pF,pF,JH r f.1,x9 t f.2]
theorem x_{A:Around}{s:Shared}{x:V}{v:Value}(rx:RelV x v)(fx:gK x=true):∀{xs:List V} {us:List Value},Vals xs us→xs.all gK=true→∀u∈us,SeqAt.EqAt A s u v (iy x u)
 | _,_,.nil,_=>fun u hu=>by cases hu
 | y::xs,u::us,.cons r t,f=>fun u' hu=>by
  rw [tU,xE] at f;rcases cx.mp hu with rfl | hu;·rw [JH r f.1];exact x8 r rx f.1 fx
  ·exact x_ rx fx t f.2 u' hu
def lG(x:V)(xs:List V):Bool:=xs.any fun y=>g6 y x
def AK(K:aD)(neg:Bool):R2:=fun x y H Q=>∃p xs,y=.ref p∧(bU K H p xs∨eC K H p xs)∧gK x=true∧xs.all gK=true∧Q (.bl (if neg then !lG x xs else lG x xs)) H
theorem QR:cg X (compareOp .In) (AK X.K false):=by
 intro pins s σ H x y v u Q I rx ry h;obtain ⟨p,xs,rfl,hq,fx,fs,q⟩:=h;cases ry;rcases hq with hq | hq
 ·obtain ⟨aj,r,pl,hz⟩:=I.list hq
  refine SeqAt.in_listAt (iy x) pl.isList (fun w hw=>x_ rx fx r fs w (by simpa using hw)) ⟨.bl _,H,I,rfl,?_⟩
  rw [show aj.toArray.any (iy x)=aj.any (iy x) by simp,x9 r fs]
  exact q
 ·obtain ⟨aj,r,pl,hz⟩:=I.tuple hq
  refine SeqAt.in_tupleAt (iy x) pl (fun w hw=>x_ rx fx r fs w (by simpa using hw)) ⟨.bl _,H,I,rfl,?_⟩
  rw [show aj.toArray.any (iy x)=aj.any (iy x) by simp,x9 r fs]
  exact q
theorem JI:cg X (compareOp .NotIn) (AK X.K true):=by
 intro pins s σ H x y v u Q I rx ry h;obtain ⟨p,xs,rfl,hq,fx,fs,q⟩:=h;cases ry;rcases hq with hq | hq
 ·obtain ⟨aj,r,pl,hz⟩:=I.list hq
  refine SeqAt.notIn_listAt (iy x) pl.isList (fun w hw=>x_ rx fx r fs w (by simpa using hw)) ⟨.bl _,H,I,rfl,?_⟩
  rw [show aj.toArray.any (iy x)=aj.any (iy x) by simp,x9 r fs]
  exact q
 ·obtain ⟨aj,r,pl,hz⟩:=I.tuple hq
  refine SeqAt.notIn_tupleAt (iy x) pl (fun w hw=>x_ rx fx r fs w (by simpa using hw)) ⟨.bl _,H,I,rfl,?_⟩
  rw [show aj.toArray.any (iy x)=aj.any (iy x) by simp,x9 r fs]
  exact q
theorem e8:gr X (.builtin "len") (fun xs H Q=>∃p ys,xs=[.ref p]∧(bU X.K H p ys∨eC X.K H p ys)∧Q (.int ys.length) H):=by
 intro pins s σ H xs us Q I r h;obtain ⟨p,ys,rfl,hq,q⟩:=h;obtain ⟨u,rfl,rx⟩:=vals1 r;cases rx;have hn:=AB;rcases hq with hq | hq
 ·obtain ⟨aj,r',pl,hz⟩:=I.list hq
  have hlen:=r'.length;exact Calls.call_len_list pl.isList (by simp only [cY] <;> lia) ⟨.int ys.length,H,I.tok _,⟨s.toks+1,by rw [cY,hlen]⟩,q⟩
 ·obtain ⟨aj,r',pl,hz⟩:=I.tuple hq
  have hlen:=r'.length;exact len_tuple pl (by simp only [cY] <;> lia) ⟨.int ys.length,H,I.tok _,⟨s.toks+1,by rw [cY,hlen]⟩,q⟩
theorem oo:gr X (.type "list") (fun xs H Q=>∃p ys,xs=[.ref p]∧(bU X.K H p ys∨eC X.K H p ys)∧∀l,H l=none→Q (.ref l) (upd H l (.lst ys))):=by
 intro pins s σ H xs us Q I r h;obtain ⟨p,ys,rfl,hq,q⟩:=h;obtain ⟨u,rfl,rx⟩:=vals1 r;cases rx
 have fin:∀(aj:List Value),Vals ys aj→ys.length≤sizeLine→∀(h':Heap) (c':Nat),(∀b o',s.heap.get? b=some o'→h'.get? b=some o')→
   h'.get? s.heap.objs.size=some {cls:=.type "list",dict:=none,data:=.seq aj.toArray c',slots:=#[]}→EP X pins σ Q (.ref s.heap.objs.size) {s with heap:=h'}:=fun aj r' hz h' c' kp e=>
  ⟨.ref s.heap.objs.size,_,I.laid (t':=s.toks) kp (aK _) (show cT X.prog X.w _ h' _ (.lst ys) from ⟨hz,aj,c',r',e⟩),rfl,q _ (I.aG.fresh (aK _))⟩
 rcases hq with hq | hq
 ·obtain ⟨aj,r',pl,hz⟩:=I.list hq
  have hlen:=r'.length;obtain ⟨o,ho,hc,n,hd⟩:=pl.isList;exact call_list_seq p (.inl rfl) ho hc hd (fun h' c' kp e=>fin aj r' hz h' c' kp e) (by simp only [cY] <;> lia)
 ·obtain ⟨aj,r',pl,hz⟩:=I.tuple hq
  have hlen:=r'.length;obtain ⟨o,ho,hc,n,hd⟩:=pl;exact call_list_seq p (.inr rfl) ho hc hd (fun h' c' kp e=>fin aj r' hz h' c' kp e) (by simp only [cY] <;> lia)
theorem QS:gr X (.type "tuple") (fun xs H Q=>∃p ys,xs=[.ref p]∧((bU X.K H p ys∧∀l,H l=none→Q (.ref l) (upd H l (.tup ys)))∨(eC X.K H p ys∧Q (.ref p) H))):=by
 intro pins s σ H xs us Q I r h;obtain ⟨p,ys,rfl,h⟩:=h;obtain ⟨u,rfl,rx⟩:=vals1 r;cases rx;rcases h with ⟨hq,q⟩ | ⟨hq,q⟩
 ·obtain ⟨aj,r',pl,hz⟩:=I.list hq
  have hlen:=r'.length;refine call_tuple_list pl.isList (fun h' kp=>?_) (by simp only [cY] <;> lia)
  have I1:Inv X pins σ H {s with heap:=h'}:=I.kept (t':=s.toks) kp;have I2:Inv X pins σ (upd H h'.objs.size (.tup ys)) {s with heap:=h'.push {cls:=.type "tuple",data:=.seq aj.toArray}}:=
   I1.laid (t':=s.toks) (fun b o e=>cL _ e) (aK _) (show cT X.prog X.w _ _ _ (.tup ys) from ⟨hz,aj,r',IsTup.new _ _⟩)
  exact ⟨.ref h'.objs.size,_,I2,rfl,q _ (I1.aG.fresh (aK _))⟩
 ·obtain ⟨aj,r',pl,hz⟩:=I.tuple hq
  exact call_tuple_same pl ⟨.ref p,H,I,rfl,q⟩
def Ed(K:aD)(T:String)(x:V)(H:Hp):Prop:=match x with
 | .str _=>T="str"
 | .int _=>T="int"
 | .ref p=>(T="list"∧∃xs,bU K H p xs)∨(T="tuple"∧∃o,K.lookup p=some o∧o.cls=.type "tuple"∧o.dict=none) ∨
   (T="dict"∧((∃au,H p=some (.dK au))∨∃au,H p=some (.dT au)))∨(T="set"∧∃S n,H p=some (.set S n))
 | _=>False
theorem JJ{T:String}(I:Inv X pins σ H s)(r:RelV x v)(ty:Ed X.K T x H) :
  s.TypeIs v T∧∀a,v=.ref a→∃ob,s.heap.get? a=some ob∧ob.dict=none:=by
 cases x with
 | str z=>obtain ⟨t,rfl⟩:=r;cases (show T="str" from ty);exact ⟨typeIs_str s z t,fun _ e=>nomatch e⟩
 | int i=>obtain ⟨t,rfl⟩:=r;cases (show T="int" from ty);exact ⟨typeIs_int s i t,fun _ e=>nomatch e⟩
 | ref p=>
  cases r;rcases ty with ⟨rfl,xs,hq⟩ | ⟨rfl,o,hk,hc,hd⟩ | ⟨rfl,hk⟩ | ⟨rfl,S,n,hk⟩
  ·obtain ⟨aj,_,pl,_⟩:=I.list hq
   refine ⟨pl.isList.typeIs,fun a e=>?_⟩;cases e;obtain ⟨o,n,e,c,hd,_⟩:=pl;exact ⟨o,e,hd⟩
  ·refine ⟨⟨o,I.dQ p o hk,hc⟩,fun a e=>?_⟩
   cases e;exact ⟨o,I.dQ _ o hk,hd⟩
  ·have z:∃o,s.heap.get? p=some o∧o.ExactDict:=by
    rcases hk with ⟨au,hk⟩ | ⟨au,hk⟩
    ·obtain ⟨_,_,_,_,o,_,_,e,ex,_⟩:=I.aG p _ hk
     exact ⟨o,e,ex⟩
    ·obtain ⟨_,_,_,_,o,_,_,e,ex,_⟩:=I.aG p _ hk
     exact ⟨o,e,ex⟩
   obtain ⟨o,e,ex⟩:=z;refine ⟨⟨o,e,ex.1⟩,fun a e2=>?_⟩;cases e2;exact ⟨o,e,ex.2.1⟩
  ·obtain ⟨o,_,_,_,e,ex,_⟩:=I.aG p _ hk
   refine ⟨⟨o,e,ex.1⟩,fun a e2=>?_⟩;cases e2;exact ⟨o,e,ex.2.1⟩
 | _=>exact False.elim ty
def QT(K:aD)(T:String)(r:V→List V→Hp→VK→Prop)(to:TE):TE:=fun σ H Q=>to σ H fun x H1=>Ed K T x H1∧r x [] H1 Q
def QU(K:aD)(T:String)(r:V→List V→Hp→VK→Prop)(to:TE)(t:TA):TE:=fun σ H Q=>to σ H fun x H1=>Ed K T x H1∧t σ H1 fun xs H2=>r x xs H2 Q
variable {o e:Expr} {es:List Expr} {to:TE} {t:TA} {name:Str} {apos iz:Pos} {T id:String} {r:V→List V→Hp→VK→Prop}
theorem AL(pa:PlainAttrs T)(slot:Slot T name id)(Ee:typeOf (.builtin id)=pure (.type "method_descriptor"))(hm:Ec X id r)(ho:PE X o to)
  (Ef:attributeBase o name X.env (eval o X.env)=eval o X.env:=by rfl) (Eg:(apos.endLine == iz.line)=true:=by rfl):PE X (.Call (.Attribute o name apos) [] [] iz) (QT X.K T r to):=by
 intro pins s σ H Q I h;refine wpAny_Call_method0_late Ef Eg (aS (ho pins s σ H _ I h) fun v s1 ⟨x,H1,I1,r1,ty,q1⟩=>?_);obtain ⟨h1,h2⟩:=JJ I1 r1 ty;exact ⟨T,id,pa,slot,Ee,h1,h2,Calls.callWith_builtin rfl (PySem.evalArgs_none (hm pins s1 σ H1 x [] v [] Q I1 r1 .nil q1))⟩
theorem lH(pa:PlainAttrs T)(slot:Slot T name id)(Ee:typeOf (.builtin id)=pure (.type "method_descriptor"))(hm:Ec X id r)(ho:PE X o to)(ha:PA X (e::es) t)
  (Ef:attributeBase o name X.env (eval o X.env)=eval o X.env:=by rfl)
  (QV:((backTo iz (starEach (e::es) X.env)).all (fun x=>!x.1) && (backToKw iz (keywordEach [] X.env)).all (fun x=>x.1.isSome)
   && decide ((e::es).length+([]:List Keyword).length+(if ([]:List Keyword).isEmpty then 0 else 1)<30))=true:=by rfl)
  (Eg:(apos.endLine == iz.line)=true:=by rfl) (hs:starEach (e::es) X.env=(false,eval e X.env)::starEach es X.env:=by rfl) (QW:(backTo iz (starEach es X.env)).any (·.1)=false:=by rfl) :
  PE X (.Call (.Attribute o name apos) (e::es) [] iz) (QU X.K T r to t):=by
 intro pins s σ H Q I h;refine wpAny_Call_method_late Ef QV Eg rfl (aS (ho pins s σ H _ I h) fun v s1 ⟨x,H1,I1,r1,ty,q1⟩=>?_);obtain ⟨h1,h2⟩:=JJ I1 r1 ty;refine ⟨T,id,pa,slot,Ee,h1,h2,?_⟩;have hA:=ha iz pins s1 σ H1 _ I1 q1;rw [hs] at hA ⊢;refine Calls.callWith_builtin (by show (false || (backTo iz (starEach es X.env)).any (·.1))=false;rw [QW] <;> rfl) (Calls.evalArgs_plain ?_)
 exact aS hA fun us s2 ⟨vs,H2,I2,r2,q2⟩=>hm pins s2 σ H2 x vs v us Q I2 r1 r2 q2
end
def ya(X:Cx)(id:String)(r:V→List V→Hp→VK→Prop):Prop:=
 ∀(pins:a7) (s:Shared) (σ:St) (H:Hp) (x:V) (xs:List V) (v:Value) (us:List Value) (Q:VK),Inv X pins σ H s→RelV x v→Vals xs us→r x xs H Q→
  wpAny (model X.prog X.w) X.A (call (.builtin id) (v::us)) (EP X pins σ Q) X.xe s
theorem Vals.one:∀{x:V} {us:List Value},Vals [x] us→∃u,us=[u]∧RelV x u
 | _,_,.cons r .nil=>⟨_,rfl,r⟩
theorem Vals.two:∀{x y:V} {us:List Value},Vals [x,y] us→∃u v,us=[u,v]∧RelV x u∧RelV y v
 | _,_,_,.cons r (.cons q .nil)=>⟨_,_,rfl,r,q⟩
theorem Vals.zero:∀{us:List Value},Vals [] us→us=[]
 | _,.nil=>rfl
theorem Vals.dropLast{xs:List V}{us:List Value}(h:Vals xs us):Vals xs.dropLast us.dropLast:=by
 induction h with
 | nil=>exact .nil
 | cons r t ih=>
  cases t with
  | nil=>exact .nil
  | cons q t'=>exact .cons r ih
theorem Vals.rep{xs:List V}{us:List Value}(h:Vals xs us):∀k:Nat,Vals (List.replicate k xs).flatten (List.replicate k us).flatten
 | 0=>.nil
 | k+1=>by rw [tV,tV,xF,xF];exact Vals.append h (Vals.rep h k)
variable {α:Type}
theorem QX(l:List α):l.eraseIdx (l.length-1)=l.dropLast:=by
 induction l with
 | nil=>rfl
 | cons a r ih=>
  cases r with
  | nil=>rfl
  | cons b r=>
   have e:(a::b::r).length-1=((b::r).length-1)+1:=by have h1:(a::b::r).length=r.length+2:=rfl;have h2:(b::r).length=r.length+1:=rfl;lia
   rw [e,List.eraseIdx_cons_succ,ih]
   all_goals rfl
theorem foldl_rep(aj:List Value):∀(k:Nat) (acc:List Value),
  List.foldl (fun x1 x2=>x1++x2) acc.toArray (List.replicate k aj.toArray)=(acc++(List.replicate k aj).flatten).toArray
 | 0,acc=>by simp
 | k+1,acc=>by
  have e:acc.toArray++aj.toArray=(acc++aj).toArray:=by simp
  have e2:(acc++aj)++(List.replicate k aj).flatten=acc++(List.replicate (k+1) aj).flatten:=by rw [tV,xF,xG]
  rw [←e2,←foldl_rep aj k (acc++aj),←e,tV,List.foldl_cons]
section
variable {X:Cx} {pins:a7} {σ:St} {H:Hp} {s:Shared} {l b:Addr} {xs ys zs:List V}
variable {aj:List Value} {n t':Nat}
theorem Inv.yb{its':List Value}{f:Array Value→Array Value}(I:Inv X pins σ H s)(hH:H l=some (.lst xs))
  (e:s.heap.get? l=some {cls:=.type "list",data:=.seq aj.toArray n}) (hf:f aj.toArray=its'.toArray) (hv:Vals ys its') (hz:ys.length≤sizeLine) :
  Inv X pins σ (upd H l (.lst ys)) {s with heap:=s.heap.update l (Obj.mapSeq f),toks:=t'}:=by
 have q:=PySem.IsL.update e f;rw [hf] at q;refine I.write (x:=l) (e:=l) (by rw [hH];exact trivial) (.inl rfl) (fun b' u hb hu=>(Heap.get?_update_other s.heap (Obj.mapSeq f) (Ne.symm hb)).trans hu) ⟨_,q⟩ ?_
 exact ⟨hz,its',_,hv,q⟩
theorem Inv.JK(I:Inv X pins σ H s)(hv:Vals ys aj)(hz:ys.length≤sizeLine) :
  Inv X pins σ (upd H s.heap.objs.size (.lst ys)) {s with heap:=s.heap.push {cls:=.type "list",data:=.seq aj.toArray},toks:=t'}:=
 I.laid (fun _ _ q=>cL _ q) (aK _) ⟨hz,aj,0,hv,fm _ rfl⟩
theorem Inv.fresh(I:Inv X pins σ H s):H s.heap.objs.size=none:=I.aG.fresh (aK _)
theorem Inv.mK(I:Inv X pins σ H s)(hH:H l=some (.lst xs)):xs.length≤sizeLine∧∃(aj:List Value) (n:Nat),Vals xs aj∧xs.length=aj.length∧s.heap.get? l=some {cls:=.type "list",data:=.seq aj.toArray n}:=by obtain ⟨z,aj,n,r,e⟩:=I.aG l _ hH;exact ⟨z,aj,n,r,r.length,e⟩
theorem JL(h:n≤sizeLine):Builtin.List.listTooLong n=false:=by unfold Builtin.List.listTooLong;exact c_ (by lia)
end
section
variable {X:Cx}
def QY:V→List V→Hp→VK→Prop:=fun x vs H Q=>∃l xs y,x=.ref l∧vs=[y]∧H l=some (.lst xs)∧xs.length<sizeLine∧Q .aU (upd H l (.lst (xs++[y])))
theorem kG:ya X "list.append" QY:=by
 intro pins s σ H x vs v us Q I rx rv h;obtain ⟨l,xs,y,rfl,rfl,hH,hz,q⟩:=h;cases rx;obtain ⟨u,rfl,ru⟩:=rv.one;obtain ⟨z,aj,n,r,hl,e⟩:=I.mK hH;refine pG F.slot_list_append ⟨_,e,rfl⟩ F.entry_list_append (F.args_list_append_2 _ _) (PySem.list_append l aj.toArray n u (by rw [cY];lia)) ⟨e,?_⟩
 refine ⟨.aU,_,I.yb (its':=aj++[u]) hH e (by simp) (r.append (.cons ru .nil)) ?_,rfl,q⟩
 rw [fo,nK];lia
def QZ:V→List V→Hp→VK→Prop:=fun x vs H Q=>∃l b xs zs,x=.ref l∧vs=[.ref b]∧H l=some (.lst xs)∧H b=some (.lst zs)∧xs.length+zs.length≤sizeLine∧Q .aU (upd H l (.lst (xs++zs)))
theorem Q0:ya X "list.extend" QZ:=by
 intro pins s σ H x vs v us Q I rx rv h;obtain ⟨l,b,xs,zs,rfl,rfl,hH,hB,hz,q⟩:=h;cases rx;obtain ⟨u,rfl,ru⟩:=rv.one;cases ru;obtain ⟨z,aj,n,r,hl,e⟩:=I.mK hH;obtain ⟨z2,qh,n2,r2,JM,e2⟩:=I.mK hB;have hsz:aj.toArray.size+qh.toArray.size≤sizeLine:=by rw [cY,cY];lia
 have Eh:¬(!aj.toArray.isEmpty && Builtin.List.listTooLong (aj.toArray.size+qh.toArray.size))=true:=by rw [JL hsz,Bool.and_false];exact dA
 refine pG F.slot_list_extend ⟨_,e,rfl⟩ F.entry_list_extend (F.args_list_extend_2 _ _)
  (AutoSeq1.list_extend_list_list_0 l aj.toArray n b qh.toArray n2 Eh (by rw [cY];lia) (by lia)) ⟨e,e2,?_⟩
 refine ⟨.aU,_,I.yb (its':=aj++qh) hH e (by simp) (r.append r2) ?_,rfl,q⟩
 rw [fo];lia
def Q1:V→List V→Hp→VK→Prop:=fun x vs H Q=>∃l xs y,x=.ref l∧vs=[]∧H l=some (.lst xs)∧xs[xs.length-1]?=some y∧Q y (upd H l (.lst xs.dropLast))
theorem Q2:ya X "list.pop" Q1:=by
 intro pins s σ H x vs v us Q I rx rv h;obtain ⟨l,xs,y,rfl,rfl,hH,hy,q⟩:=h;cases rx;have qi:=rv.zero;subst qi;obtain ⟨z,aj,n,r,hl,e⟩:=I.mK hH;obtain ⟨u,hu,ru⟩:=r.get hy;have JN:aj.toArray[aj.toArray.size-1]?=some u:=by show aj.toArray[aj.length-1]?=some u;rw [←Array.getElem?_toList,←hl];exact hu
 refine pG F.slot_list_pop ⟨_,e,rfl⟩ F.entry_list_pop (F.args_list_pop_1 _) (MeetsSeq.list_pop_last l aj.toArray n u JN (by rw [cY];lia)) ⟨e,?_⟩
 refine ⟨y,_,I.yb (its':=aj.dropLast) hH e ?_ r.dropLast ?_,ru,q⟩
 ·show aj.toArray.eraseIdxIfInBounds (aj.toArray.size-1)=aj.dropLast.toArray
  rw [cY,List.eraseIdxIfInBounds_toArray,QX]
 ·rw [List.length_dropLast]
  lia
def Q3:V→List V→Hp→VK→Prop:=fun x vs H Q=>∃l xs,x=.ref l∧vs=[]∧H l=some (.lst xs)∧Q .aU (upd H l (.lst []))
theorem JO:ya X "list.clear" Q3:=by
 intro pins s σ H x vs v us Q I rx rv h;obtain ⟨l,xs,rfl,rfl,hH,q⟩:=h;cases rx;have qi:=rv.zero;subst qi;obtain ⟨z,aj,n,r,hl,e⟩:=I.mK hH;refine pG F.slot_list_clear ⟨_,e,rfl⟩ F.entry_list_clear (F.args_list_clear_1 _) (AutoSeq1.list_clear_list_0 l aj.toArray n (by rw [cY];lia)) ⟨e,?_⟩
 exact ⟨.aU,_,I.yb (its':=[]) (ys:=[]) hH e rfl .nil (ck _),rfl,q⟩
def Q4:R2:=fun x y H Q=>∃l b xs zs,x=.ref l∧y=.ref b∧H l=some (.lst xs)∧H b=some (.lst zs)∧xs.length+zs.length≤sizeLine∧∀p,H p=none→Q (.ref p) (upd H p (.lst (xs++zs)))
theorem Q5:cg X (binaryOp .Add) Q4:=by
 intro pins s σ H x y v u Q I rx ry h;obtain ⟨l,b,xs,zs,rfl,rfl,hH,hB,hz,q⟩:=h;cases rx;cases ry;obtain ⟨z,aj,n,r,hl,e⟩:=I.mK hH;obtain ⟨z2,qh,n2,r2,JM,e2⟩:=I.mK hB;refine PySem.P.add_list e e2 ?_ (by rw [cY,cY];lia)
 have ea:aj.toArray++qh.toArray=(aj++qh).toArray:=by simp
 rw [ea];exact ⟨.ref _,_,I.JK (t':=s.toks) (r.append r2) (by rw [fo];lia),rfl,q _ I.fresh⟩
def Q6:R2:=fun x y H Q=>∃l k xs,x=.ref l∧y=.int k∧H l=some (.lst xs)∧-(2 ^ 63)≤k∧k<2 ^ 63∧xs.length*k.toNat≤sizeLine ∧
 ∀p,H p=none→Q (.ref p) (upd H p (.lst (List.replicate k.toNat xs).flatten))
theorem len_rep(xs:List α)(k:Nat):(List.replicate k xs).flatten.length=k*xs.length:=by
 induction k with
 | zero=>simp
 | succ k ih=>rw [tV,xF,fo,ih,Nat.succ_mul,Nat.add_comm]
theorem JP:cg X (binaryOp .Mult) Q6:=by
 intro pins s σ H x y v u Q I rx ry h;obtain ⟨l,k,xs,rfl,rfl,hH,h1,h2,hz,q⟩:=h;cases rx;obtain ⟨t,rfl⟩:=ry;obtain ⟨z,aj,n,r,hl,e⟩:=I.mK hH;have hlen:aj.toArray.size*k.toNat≤sizeLine:=by rw [cY,←hl];exact hz
 have Q7:¬aj.toArray.size*k.toNat>(2 ^ 63-1) / 8:=by
  have:(sizeLine:Nat)≤(2 ^ 63-1) / 8:=by decide
  lia
 have Q8:¬(!Builtin.List.listFitsIndex k)=true:=by rw [fitsIndex_both h1 h2];exact dA
 have Eh:¬Builtin.List.listTooLong (aj.toArray.size*k.toNat)=true:=by rw [JL hlen];exact dA
 have Q9:List.foldl (fun x1 x2=>x1++x2) #[] (List.replicate (if aj.toArray.isEmpty=true then 0 else k.toNat) aj.toArray)=(List.replicate k.toNat aj).flatten.toArray:=by
  have f0:∀m:Nat,List.foldl (fun x1 x2=>x1++x2) #[] (List.replicate m aj.toArray)=(List.replicate m aj).flatten.toArray:=fun m=>by have:=foldl_rep aj m [];rw [List.nil_append] at this;exact this
  rw [f0];cases aj with
  | nil=>simp
  | cons a r'=>rw [ao (by simp)]
 refine wpAny_binaryOp_repeat_ref (T:="list") (U:="int") (by decide) ⟨_,e,rfl⟩ (fun s'=>typeIs_int s' k t) noFill_list_mul F.fills_int_mul F.slot_int_rmul repeat_list F.slot_int_index.lookup
  (pG F.slot_int_rmul (typeIs_int s k t) F.entry_int_rmul (F.args_int_rmul_2 _ _) (int___rmul___int_list k t l aj.toArray n)
   ⟨e,rfl,⟨_,e,rfl⟩,pG F.slot_list_mul ⟨_,e,rfl⟩ F.entry_list_mul (F.args_list_mul_2 _ _) (AutoListH.list___mul___list_int_3 l aj.toArray n k t Q8 Q7 Eh) ⟨e,?_⟩⟩)
 rw [Q9];exact ⟨.ref _,_,I.JK (t':=s.toks) (r.rep k.toNat) (by rw [len_rep,Nat.mul_comm];exact hz),rfl,q _ I.fresh⟩
end
section
variable {prog:Program} {w:World} {A:Around} {E:aX} {s:Shared}
end
section
variable {X:Cx}
end
end L2
namespace Att
open PySem PySem.W PySem.Calls PyProof.Rows
variable {P:Params} {h:Heap}
theorem Q_:∀(ns:List Int) (vs:List Value),WellAll P h vs (ns.map WData.int)→IntsAre vs ns:=by
 intro ns
 induction ns with
 | nil=>intro vs w;rw [List.map_nil] at w;cases w;exact .nil
 | cons n ns ih=>
  intro vs w;rw [cy] at w;cases w with
  | cons a b=>cases a;exact .cons _ _ (ih _ b)
variable {l:OpenLaw} {n:Nat}
theorem Ra(hn:l.most=some n){args:List WData}{vals:List Value}
  (AM:l.row.toRowW.claim.pre args=true) (Ei:WellAll P h vals args) :
  ∃a vs ns,vals=[Value.ref a]∧args=[WData.list (ns.map WData.int)]∧h.get? a=some {cls:=.type "list",data:=.seq vs.toArray}∧IntsAre vs ns∧ns.length≤n:=by
 have Rb:WShape.hasAll [] args [.list .int]=true:=(pre_splitW AM).1;have hc:l.pre.holds [] {args:=args}=true:=(pre_splitW AM).2;obtain ⟨d,r,rfl,h1,h2⟩:=hasAllW_cons Rb;obtain rfl:=hasAllW_nil h2;obtain ⟨xs,rfl,h3⟩:=hasW_list h1;obtain ⟨ns,rfl⟩:=items_int h3;have hlen:ns.length≤n:=by
  unfold OpenLaw.pre at hc;have h4:(WTm.not (.lt (.lit (.int (n:Int))) (.len (.arg 0)))).holds [] {args:=[.list (ns.map .int)]}=true:=by have h4:=(holds_andW hc).1;rw [hn] at h4;exact h4
  have h5:=condW_of h4 (w_not (w_lt w_lit (w_len_list (w_arg rfl))));rw [aR] at h5;refine Nat.le_of_not_lt fun q=>?_;have q':(n:Int)<((ns.length:Nat):Int):=by lia
  first
   | (rw [cA q'] at h5;exact absurd h5 (by decide))
   | (simp at h5;lia)
 cases Ei with
 | cons w1 w2=>
  cases w2;cases w1 with
  | list ho Rc=>exact ⟨_,_,ns,rfl,rfl,ho,Q_ ns _ Rc,hlen⟩
theorem Rf(l:OpenLaw)(args:List WData):l.row.toRowW.claim.post args (.bool true) args=true:=
 postW_of (r:=l.row.toRowW) (X:=(true == true))
  (show WShape.has [] (.bool true) .bool=true by first | rfl | decide | simp [WShape.has,WShape.arms,WShape.armsAll])
  (show (WTm.eq .res (.lit (.bool true))).value [] {args:=args,res:=some (.bool true),after:=args}=some (.bool (true == true)) from w_eq_bool (w_res rfl) w_lit) rfl
theorem Rg{q:Program}{loose:List Str}{XP:(Str→Option Value)→Heap→Prop}{YP:World→Heap→Prop}{d:DefRec}
  (hn:l.most=some n) (yc:d.params.defaults=[])
  (call:∀(w:World) (s₀ s₁:Shared) (mg mb:dc) (fa:Addr) (o:Obj) (pm cd doc:Value) (a:Addr) (vs:List Value) (ns:List Int),
   Ground q loose [] XP w s₀ mg mb s₁.heap→YP w s₁.heap→
   s₁.heap.get? fa=some o→o.data=.func (docDef d.name d.params d.body d.scope pm cd doc)→s₁.heap.CodeRec cd d.name→mg d.name=some (.ref fa)→
   s₁.heap.get? a=some {cls:=.type "list",data:=.seq vs.toArray}→IntsAre vs ns→ns.length≤n→s₁.gens = #[]→
   codeAny (model l.prog w) callerA (.call (.ref fa) ⟨[.ref a],[]⟩) (fun r s'=>r=.ok (.ret (.bool true))∧OldK s₁.heap s'.heap∧s'.os=s₁.os∧AllBare s'.gens) s₁) :
  WalkO q loose XP YP l.row.toRowW d [] (fun f vs=>PySem.call f vs):=by
 intro w s₀ s₁ mg mb G Y fa o pm cd doc dV kV ho hd fV hD yd hg args vals as AM afM hrd Ei hlo;obtain rfl:dV=.none:=Dflts.none hD yc;obtain rfl:kV=.none:=Dflts.noKw hD;obtain ⟨a,vs,ns,rfl,rfl,Ej,hints,hlen⟩:=Ra hn AM Ei;refine enter_call (codeAny_mono (call w s₀ s₁ mg mb fa o pm cd doc a vs ns G Y ho (fd_plain hd) fV yd Ej hints hlen hg) fun r s' hq=>?_);obtain ⟨rfl,h2,h3,h4⟩:=hq;exact ⟨.inl ⟨.bool true,.bool true,[],rfl,fun _=>rfl,.bool true,Rf l _,fun _=>⟨List.Pairwise.nil,fun _ hm=>(nomatch hm)⟩⟩,h2,h3,h4⟩
section
variable {prog:Program} {w:World} {A:Around} {E:aX} {s:Shared} {K:Frag}
end
end Att
namespace L2
open PySem PySem.Spec PyProof.Rows
theorem JQ:∀{vs:List Value} {ns:List Int},IntsAre vs ns→Vals (ns.map V.int) vs
 | _,_,.nil=>.nil
 | _,_,.cons n t h=>.cons ⟨t,rfl⟩ (JQ h)
def Ek(H:Hp):Prop:=∀b,H b=none∨∃o xs,H b=some (.cI o (.lst xs))
variable {K:aD} {k:Nat} {a:Addr} {x:Str}
theorem Rh{P:Program}{w:World}{mg mb:dc}{CX:iw}{fa:Addr}{fd:FuncData}{sp:Sp}{s₁:Shared}{vs:List Value}{ns:List Int}
  (KX:K.In s₁.heap) (JR:s₁.heap.Ns mainGlobals mg) (hb:s₁.heap.Ns builtinsNs mb) (Ri:∀x:Str,x ≠ "__name__"→mb x=bootBuiltins x) (Rj:s₁.heap.NoLimit) (hg:s₁.gens = #[])
  (ha:s₁.heap.get? a=some {cls:=.type "list",data:=.seq vs.toArray}) (hi:IntsAre vs ns) (hl:ns.length≤sizeLine) (hr:de k callerA)
  (F:∀base:Heap,K.In base→base.Ns mainGlobals mg→aY P w K mg base CX k fa fd [x] sp) (Rk:∀(s:Shared) (u:Value),BindsTo s fd ⟨[u],[]⟩ [(x,u)])
  (jY:∀H:Hp,Ek H→bU K H a (ns.map V.int)→sp [.ref a] H (fun v _=>v=.bl true) fun _ _ _=>False)
  (El:∀H e s',CX [] H s₁ (fun _ _ _=>False) e s'→False) :
  codeAny (model P w) callerA (.call (.ref fa) ⟨[.ref a],[]⟩) (fun r s'=>r=.ok (.ret (.bool true))∧OldK s₁.heap s'.heap∧s'.os=s₁.os∧AllBare s'.gens) s₁:=by
 have rv:=JQ hi;have Rl:=hi.length
 have core:∀H:Hp,Ek H→bU K H a (ns.map V.int)→cH P w H s₁.heap→(∀b,H b≠none→b=a)→(H a≠none→K.lookup a=none)→
   codeAny (model P w) callerA (.call (.ref fa) ⟨[.ref a],[]⟩) (fun r s'=>r=.ok (.ret (.bool true))∧OldK s₁.heap s'.heap∧s'.os=s₁.os∧AllBare s'.gens) s₁:=by
  intro H hO hS aG hA hK;have JS:∀{b:Addr} {o:Obj},s₁.heap.get? b=some o→H b=none→(mD s₁.heap H).get? b=some o:=fun e n=>O_ e n;have xZ:∀{b:Addr} {o:Obj} {es:Array DictEntry} {ep:Nat},s₁.heap.get? b=some o→o.data=.dict es ep→H b=none:=fun{b o es ep} e d=>by
   cases q:H b with
   | none=>rfl
   | some u=>
    have e':b=a:=hA b (by rw [q];simp)
    subst e';rw [ha] at e;cases e;have d':Data.seq vs.toArray _=Data.dict es ep:=d;cases d'
  have AN:∀{b:Addr} {m:dc},s₁.heap.Ns b m→(mD s₁.heap H).Ns b m:=fun{b m} ⟨o,es,ep,e,d,r⟩=>⟨o,es,ep,JS e (xZ e d),d,r⟩;have JT:K.In (mD s₁.heap H):=fun b o e=>JS (KX b o e) (by
   cases q:H b with
   | none=>rfl
   | some u=>
    have e':b=a:=hA b (by rw [q];simp)
    subst e';rw [hK (by rw [q];simp)] at e;cases e)
  have hM:Mod K mg (mD s₁.heap H):=⟨JT,AN JR,⟨mb,AN hb,Ri⟩,let ⟨mc,h1,h2⟩:=Rj;⟨mc,AN h1,h2⟩⟩
  have e0:qg P w K mg (mD s₁.heap H) callerA [] s₁ H:=⟨rfl,hM,fun b o e=>Pa e,Nat.le_of_eq (O9 _ _),trivial,fun b hb=>absurd (show b∈([]:List Addr) from hb) (by simp),aG,.of_eq hg⟩
  refine codeAny_mono ((F _ JT (AN JR)).run callerA [] s₁ H ⟨[.ref a],[]⟩ [.ref a] [.ref a] _ _ hr e0 (Rk s₁ (.ref a)) (.cons rfl .nil) (jY H hO hS)) fun r s' h=>?_;cases r with
  | error e=>exact (El H e s' h).elim
  | ok fl=>
   cases fl with
   | next=>exact False.elim h
   | brk=>exact False.elim h
   | cont=>exact False.elim h
   | ret u=>
    obtain ⟨v,H',os,bare,un,Rm,r',q⟩:=h;have q':v=.bl true:=q;subst q';obtain rfl:u=Value.bool true:=r';refine ⟨rfl,OldK.of_keep fun b o e=>?_,os,bare⟩;cases q:H b with
    | none=>exact un.keep b o e q (by intro z;exact absurd (show b∈([]:List Addr) from z) (by simp)) (by simp)
    | some u=>
     rcases hO b with z | ⟨ob,xs,z⟩;·rw [q] at z;cases z
     ·have z2:=un.gR b ob _ z
      obtain ⟨e1,_⟩:=aG b _ z;obtain ⟨e2,_⟩:=Rm b _ z2;rw [e] at e1;cases e1;exact e2
 cases hk:K.lookup a with
 | some o=>have e:=KX a o hk;rw [ha] at e;cases e;refine core (fun _=>none) (fun _=>.inl rfl) (.inr ⟨_,vs.toArray,_,hk,rfl,rfl,rfl,by rw [cY,Rl];exact hl,by simpa using rv⟩) (fun b u z=>by have z':(none:Option HO)=some u:=z;cases z') (fun b z=>absurd rfl z) fun z=>absurd rfl z
 | none=>
  refine core (fun b=>if b=a then some (.cI {cls:=.type "list",data:=.seq vs.toArray} (.lst (ns.map V.int))) else none) (fun b=>?_) (.inl (.inr ⟨{cls:=.type "list",data:=.seq vs.toArray},ar rfl⟩)) (fun b u z=>?_) (fun b z=>?_) fun _=>hk
  ·by_cases hb:b=a
   ·exact .inr ⟨_,_,ar hb⟩
   ·exact .inl (ao hb)
  ·by_cases hb:b=a
   ·have z':=(ar hb).symm.trans z
    cases z';subst hb;exact ⟨ha,by rw [aR];exact hl,vs,_,rv,ha⟩
   ·have z':=(ao hb).symm.trans z
    cases z'
  ·by_cases hb:b=a
   ·exact hb
   ·exact absurd (ao hb) z
abbrev JU {K:aD} {h:Heap} (_:K.In h):PySem.W.Frag:=K
variable {n:Nat}
theorem Rn{l:PySem.W.OpenLaw}{q:Program}{loose:List Str}{XP:(Str→Option Value)→Heap→Prop}{YP:World→Heap→Prop}{d:DefRec}{K:Params→PySem.W.Frag}{CX:World→iw}{sp:World→Sp}
  (hn:l.most=some n) (ub:n≤sizeLine) (yc:d.params.defaults=[]) (hr:de k callerA)
  (hY:∀(w:World) (h:Heap),YP w h→(K w.params).In h)
  (F:∀(w:World) (mg:dc) (fa:Addr) (h:Heap),(K w.params).In h→h.Ns mainGlobals mg→mg d.name=some (.ref fa)→
   ∃fd:FuncData,(∀(s:Shared) (u:Value),BindsTo s fd ⟨[u],[]⟩ [(x,u)]) ∧
    ∀base:Heap,(K w.params).In base→base.Ns mainGlobals mg→aY l.prog w (K w.params) mg base (CX w) k fa fd [x] (sp w))
  (jY:∀(w:World) (H:Hp) (a:Addr) (ns:List Int),ns.length≤n→Ek H→bU (K w.params) H a (ns.map V.int)→sp w [.ref a] H (fun v _=>v=.bl true) fun _ _ _=>False)
  (El:∀(w:World) (H:Hp) (s:Shared) (e:Value) (s':Shared),CX w [] H s (fun _ _ _=>False) e s'→False) :
  PySem.W.WalkO q loose XP YP l.row.toRowW d [] (fun f vs=>PySem.call f vs):=by
 refine Att.Rg hn yc fun w s₀ s₁ mg mb fa o pm cd doc a vs ns G Y ho hd fV yd Ej hints hlen hg=>?_;have KX:=hY w _ Y;obtain ⟨fd,hb,hF⟩:=F w mg fa _ KX G.T.g yd;exact Rh KX G.T.g G.T.b G.T.builtins G.T.nolimit hg Ej hints (aH hlen ub) hr hF hb (fun H hO hS=>jY w H a ns hlen hO hS) fun H e s'=>El w H s₁ e s'
def inClass(s:Stmt)(j:Nat):Stmt:=match s with
 | .ClassDef _ _ _ body _ _ _ _ _ _ _=>body.getD j (.Pass ⟨0,0,0,0⟩)
 | _=>.Pass ⟨0,0,0,0⟩
def jx(s:Stmt):Arguments:=match s with
 | .FunctionDef _ a _ _ _ _ _ _ _ _=>a
 | _=>{posonlyargs:=[],args:=[],vararg:=none,kwonlyargs:=[],kw_defaults:=[],kwarg:=none,defaults:=[]}
def gs(s:Stmt):List Stmt:=match s with
 | .FunctionDef _ _ b _ _ _ _ _ _ _=>b
 | _=>[]
def aM(s:Stmt):Scope:=match s with
 | .FunctionDef _ _ _ _ _ _ sc _ _ _=>sc
 | _=>{kind:=.function,names:=[],isGenerator:=false,isCoroutine:=false}
abbrev bI:iw:=fun _ _ _ _ _ _=>False
abbrev E0:XK:=fun _ _ _=>False
theorem aE{X:Cx}:Passes bI X E0:=fun _ _ _ _ _ _ _ h=>h.elim
structure eE (K:aD) (x qual:Str) (st:Stmt) (f:Addr) (fd:FuncData):Prop where
 ex:∃(oc:Value) (od:Option Addr) (kV doc pm:Value) (an:Option Addr) (bf ct:Value) (fX:Array (Option Value)),
  fd=PySem.W.fnOf x qual (jx st) (gs st) (aM st) .none kV doc pm an bf ct∧K.lookup f=some ⟨oc,od,.func fd,fX⟩∧PySem.W.codeIn K bf qual=true
 kp:PySem.W.keepIn K (.ref f)=true
abbrev ay (K:aD) (x:Str) (st:Stmt) (f:Addr) (fd:FuncData):Prop:=eE K x x st f fd
section
variable {P:Program} {w:World} {K:aD} {mg:dc} {base:Heap}
variable {qual:Str} {st:Stmt} {f:Addr} {fd:FuncData} {N ps:List Str} {sp:Sp}
theorem eE.ok(F:eE K x qual st f fd)(S:a8 N ps (aM st))(len:∀vs H Q E,sp vs H Q E→vs.length=ps.length)
  (kD:∀(bf:Value) (A:Around) (outer:List Env) (s:Shared) (H:Hp) (vs:List V) (Q:VK) (E:XK),de k (A.deeper (envOfC qual (aM st) s.heap.objs.size f bf))→sp vs H Q E→
   ∃t,eP (jv bI P w K mg base N qual (aM st) f bf A outer s H E).lC (gs st) t∧t {nx:=fun _ H'=>Q .aU H',rt:=Q} (start N vs) H):aY P w K mg base bI (k+1) f fd ps sp:=by
 obtain ⟨oc,od,kV,doc,pm,an,bf,ct,fX,rfl,lk,fV⟩:=F.ex;refine Eb lk fV S len fun A outer s H vs Q E hr jY=>?_;obtain ⟨t,h,q⟩:=kD bf A outer s H vs Q E hr jY;exact ⟨t,h.lC,q⟩
theorem eE.bS(F:eE K x qual st f fd)(S:a8 N ps (aM st))
  (kD:∀(bf:Value) (A:Around) (outer:List Env) (s:Shared) (H:Hp) (vs:List V) (Q:VK) (E:XK),de k (A.deeper (envOfC qual (aM st) s.heap.objs.size f bf))→sp vs H Q E→
   ∃t,eP (jv bI P w K mg base N qual (aM st) f bf A outer s H E).lC (gs st) t∧t {nx:=fun _ H'=>Q .aU H',rt:=Q} (start N vs) H)
  (len:∀vs H Q E,sp vs H Q E→vs.length=ps.length:=by intro vs H Q E h;repeat first | (obtain ⟨rfl,_⟩:=h;rfl) | (subst h;rfl) | obtain ⟨_,h⟩:=h):aY P w K mg base bI (k+1) f fd ps sp:=F.ok S len kD
theorem eE.binds(F:eE K x qual st f fd)
  (h:∀(kV doc pm:Value) (an:Option Addr) (bf ct:Value) (us:List Value),us.length=ps.length→bindArgs (PySem.W.fnOf x qual (jx st) (gs st) (aM st) .none kV doc pm an bf ct) ⟨us,[]⟩=pure (ps.zip us)):Binds K fd ps []:=by
 obtain ⟨oc,od,kV,doc,pm,an,bf,ct,fX,rfl,lk,fV⟩:=F.ex;exact .all (h kV doc pm an bf ct)
theorem eE.bC(F:eE K x qual st f fd)
  (h:∀(kV doc pm:Value) (an:Option Addr) (bf ct:Value) (us:List Value),us.length=ps.length→bindArgs (PySem.W.fnOf x qual (jx st) (gs st) (aM st) .none kV doc pm an bf ct) ⟨us,[]⟩=pure (ps.zip us):=by intro _ _ _ _ _ _ us hl;rcases us with _ | ⟨_,_ | ⟨_,_ | ⟨_,_ | ⟨_,_ | ⟨_,_ | ⟨_,_ | ⟨_,_⟩⟩⟩⟩⟩⟩⟩ <;> first | rfl | (simp at hl;done)):Binds K fd ps []:=F.binds h
theorem bD{oc:Value}{od an:Option Addr}{fX:Array (Option Value)}{kV doc pm bf ct:Value}(l:K.lookup f=some ⟨oc,od,.func (PySem.W.fnOf x qual (jx st) (gs st) (aM st) .none kV doc pm an bf ct),fX⟩)
  (c:PySem.W.codeIn K bf qual=true) (k:PySem.W.keepIn K (.ref f)=true):eE K x qual st f (PySem.W.fnOf x qual (jx st) (gs st) (aM st) .none kV doc pm an bf ct):=⟨⟨oc,od,kV,doc,pm,an,bf,ct,fX,rfl,l,c⟩,k⟩
end
theorem dq(h:n≤1000):n<sizeLine:=jQ h (by decide)
section
variable {X:Cx}
theorem pv(i:Nat){pos:Pos}(hN:X.N[i]?=some x:=by rfl)(hv:n4 X.env.scope x:=by first | exact Or.inl rfl | exact Or.inr (Or.inl rfl) | exact Or.inr (Or.inr rfl))(hd:(x == ("__debug__":Str))=false:=by decide)
  (fV:(x == ("__classdict__":Str))=false:=by decide):PE X (.Name x pos) (IM i):=Pj hN hv hd fV
end
variable {A B:Prop}
theorem bM(h:B):if false=true then A else B:=by rw [ao dA];exact h
theorem dZ(h:A):if true=true then A else B:=by rw [ar rfl];exact h
theorem b7{c:Prop}[Decidable c](h1:c→A)(h2:¬c→B):if c then A else B:=by
 by_cases h:c
 ·rw [ar h]
  exact h1 h
 ·rw [ao h]
  exact h2 h
def af(H H':Hp):Prop:=∀b o,H b=some o→H' b=some o
theorem af.refl(H:Hp):af H H:=fun _ _ h=>h
variable {H:Hp}
theorem af.trans{H1 H2:Hp}(a:af H H1)(b:af H1 H2):af H H2:=fun c o h=>b c o (a c o h)
theorem af.seq{H':Hp}{xs:List V}(e:af H H')(h:bU K H a xs):bU K H' a xs:=by
 rcases h with (h | ⟨o,h⟩) | h;·exact .inl (.inl (e _ _ h))
 ·exact .inl (.inr ⟨o,e _ _ h⟩)
 ·exact .inr h
end L2
set_option maxHeartbeats 4000000
namespace L2
open PySem PySem.Spec PyProof.Rows
structure AO (P:Program) (w:World) (outer:List Env) (H:Hp) (s:Shared) (H':Hp) (ea C:Addr) (B:Heap) (t:Addr) (s':Shared):Prop where
 os:s'.os=s.os
 bare:AllBare s'.gens
 fl:Heap.FlyingW B outer ea (.ref C) (.ref t) s'.heap
 aG:cH P w H' B
 kb:∀b o,s.heap.get? b=some o→H b=none→b∉cU outer→B.get? b=some o
 tb:∀b o,s.heap.get? b=some o→b∉cU outer→∃o',B.get? b=some o'
 sl:∀b o,s.heap.get? b=some o→H b=none→b∈cU outer→∃l,s'.heap.get? b=some {o with slots:=l}
 frh:∀b∈cU outer,H b=none
 Ro:∀b o,s.heap.get? b=some o→H b=none→H' b=none
 ic:∀b xs,H b=some (.tup xs)→H' b=some (.tup xs)
 gR:∀b o u,H b=some (.cI o u)→H' b=some (.cI o u)
 ie:∀b ps,H b=some (.mC ps)→∃more,H' b=some (.mC (ps++more))
def dW(P:Program)(w:World):iw:=fun outer H s E e s'=>∃ea C H' B t,e=.ref ea∧AO P w outer H s H' ea C B t s'∧E (.ref C) none H'
section
variable {P:Program} {w:World} {outer:List Env} {H H':Hp} {s s':Shared} {ea C t:Addr} {B:Heap}
def ExcAt(ea C:Addr)(h:Heap):Prop:=∃oe,h.get? ea=some oe∧oe.cls=.ref C∧PySem.W.notCls oe=true
def Rp(ea C:Addr):HO:=.ext (ExcAt ea C)
end
section
variable {X:Cx} {pins:a7} {σ:St} {H H':Hp} {s s':Shared} {ea C t:Addr} {B:Heap}
structure uc (X:Cx) (E:XK):Prop where
 jq:X.stack=X.env::X.outer
 fr:X.env.frame=some X.env.locals
 ex:X.ex=[]
 xe:X.xe=fun e s'=>wpAny (model X.prog X.w) X.A (leaving X.env e) (fun _ jw=>dW X.prog X.w X.outer X.H₀ X.s₀ E e jw) (fun e' jw=>dW X.prog X.w X.outer X.H₀ X.s₀ E e' jw) s'
theorem AQ{env:Env}{outer:List Env}{L:Addr}(h:env.frame=some L):cU (env::outer)=L::cU outer:=by unfold cU;rw [zT,h]
variable {E:XK}
theorem AO.leave(L:uc X E)(I:Inv X pins σ H s)(f:AO X.prog X.w X.stack H s H' ea C B t s'){h:Heap}(x:Heap.FlyingW B X.outer ea (.ref C) (.ref t) h)(up:s'.heap.UpToSlots h):AO X.prog X.w X.outer X.H₀ X.s₀ H' ea C B t {s' with heap:=h}:=by
 have nL:∀b o,X.s₀.heap.get? b=some o→b≠X.env.locals:=fun b o e=>dE (eV (bZ e) I.ok.above);have ns:∀b o,X.s₀.heap.get? b=some o→b∉cU X.outer→b∉cU X.stack:=fun b o e nb z=>by
  rw [L.jq,AQ L.fr] at z;rcases cx.mp z with z | z;·exact nL b o e z
  ·exact nb z
 have nx:∀b:Addr,b∉X.ex:=fun b z=>by rw [L.ex] at z;cases z
 refine ⟨f.os.trans I.os,f.bare,x,f.aG,fun b o e n nb=>?_,fun b o e nb=>?_,fun b o e n hb=>?_,I.ok.mE,fun b o e n=>?_,fun b xs e=>f.ic b xs (I.base.ic b xs e),fun b o u e=>f.gR b o u (I.base.gR b o u e),fun b ps e=>?_⟩;·exact f.kb b o (I.base.keep b o e n nb (nx b)) (I.base.free b o e n (nx b)) (ns b o e nb)
 ·obtain ⟨o',e'⟩:=I.base.there b o e (nx b)
  exact f.tb b o' e' (ns b o e nb)
 ·obtain ⟨l,q⟩:=I.base.slot b o e n hb (nx b)
  have hs:b∈cU X.stack:=by rw [L.jq,AQ L.fr];exact fj _ hb
  obtain ⟨l2,q2⟩:=f.sl b _ q (I.base.free b o e n (nx b)) hs;obtain ⟨_,o2,q3,nf⟩:=f.fl.2.2.1.mem hs;rw [q2] at q3;cases q3;obtain ⟨l3,q4⟩:=up b _ q2 nf;exact ⟨l3,q4⟩
 ·obtain ⟨o',e'⟩:=I.base.there b o e (nx b)
  exact f.Ro b o' e' (I.base.free b o e n (nx b))
 ·obtain ⟨m1,e1⟩:=I.base.ie b ps e
  obtain ⟨m2,e2⟩:=f.ie b _ e1;exact ⟨m1++m2,by rw [e2,Array.append_assoc]⟩
theorem lI:Passes (dW X.prog X.w) X (fun _ _ _=>False):=fun pins σ H s e s' I h=>by obtain ⟨_,_,_,_,_,_,_,q⟩:=h;exact q.elim
theorem oq(L:uc X E):Passes (dW X.prog X.w) X E:=fun pins σ H s e s' I h=>by
 obtain ⟨ea,C,H',B,t,rfl,f,q⟩:=h;rw [L.xe];refine wpAny_leaves_onW (by rw [I.ok.frames,L.jq]) L.fr (by have z:=f.fl;rw [L.jq] at z;exact z) fun h' x up=>?_
 exact ⟨ea,C,H',B,t,rfl,f.leave L I x up,q⟩
end
variable {K:aD} {h:Heap}
theorem Rq{C:Addr}{ud:List Value}{newId:String}(da:K.In h)(hq:PySem.W.excIn K C ud newId=true) :
  ∃bm N nm qn bs hdct sn sub ab col dd k0 k1 k2 k3 k5 mN,h.get? C=some (excClassObj nm qn C N bs bm hdct sn sub ab col dd k0 k1 k2 k3 k5 newId)∧h.Ns N mN∧mN "__init__"=none∧OwnTail h ud bm∧PySem.W.mroIn K C=fun b=>some ((Value.ref C::bm).contains b):=by
 unfold PySem.W.excIn at hq
 split at hq
 ·rename_i ue cls slt look
  split at hq
  ·rename_i CC rest a0 a1 a2 a3 nn a5 em es
   simp only [xE,ko,Bool.not_eq_true'] at hq;obtain ⟨⟨⟨⟨⟨e1,e2⟩,e3⟩,e4⟩,e5⟩,e6⟩:=hq;subst e1 e2;have Rt:PySem.W.mroIn K CC=fun b=>some ((Value.ref CC::rest).contains b):=by
    funext b
    unfold PySem.W.mroIn PySem.W.clsIn;rw [look];simp [em]
   obtain ⟨c1,c2,c3,c4,c5,c6,c7,c8,c9,Ru,c11⟩:=cls;dsimp only at em e3 e5 e6;subst em e3;have Rv:slt = #[a0,a1,a2,a3,some (.builtin nn),a5]:=by obtain ⟨ll⟩:=slt;simp only at es;rw [es]
   subst Rv;exact ⟨rest,c4,c1,c5,c2,c6,c7,c8,c9,Ru,ue,a0,a1,a2,a3,a5,_,da _ _ look,.of_isNs (PySem.W.isNs_of_in da e5),PySem.W.nsMap_none_of_in da e5 e6,PySem.W.tail_of_in da e4,Rt⟩
  ·cases hq
 ·cases hq
section
variable {X:Cx} {E:XK} {x:Str} {C:Addr} {np iz pos:Pos} {e:Expr} {es:List Expr} {ta:TA} {B newId Rx:String} {ud:List Value}
def Ry(C:Addr)(E:XK)(ta:TA):TS:=fun _ σ H=>ta σ H fun vs H1=>vs.length≤sizeLine∧E (.ref C) none H1
theorem ou(L:uc X E)(hc:X.calm=true)(FB:ExcBaseFacts B newId Rx ud)(hq:PySem.W.excIn X.K C ud newId=true)(hg:Gl X x)(hm:X.mg x=some (.ref C))(ha:PA X (e::es) ta)
  (hs:starEach (e::es) X.env=(false,eval e X.env)::starEach es X.env:=by rfl) (hp:(backTo iz (starEach es X.env)).any (·.1)=false:=by rfl) (hd:(x == ("__debug__":Str))=false:=by decide) :
  PS X (.Raise (some (.Call (.Name x np) (e::es) [] iz)) none pos) (Ry C E ta):=by
 intro pins s σ H D I h;obtain ⟨bm,N,nm,qn,bs,hdct,sn,sub,ab,col,dd,k0,k1,k2,k3,k5,mN,hC,hN,Rz,T,_⟩:=Rq I.ok.mod.da hq
 refine wpAny_Raise_call_subT (C:=C) (nm:=nm) (q:=qn) (N:=N) (bs:=bs) (bm:=bm) (hdct:=hdct) (sn:=sn) (sub:=sub) (ab:=ab) (col:=col) (dd:=dd) (k0:=k0) (k1:=k1) (k2:=k2) (k3:=k3) (k5:=k5) FB (mN:=mN) (T.hasType FB.hasBase) (I.ok.hd hc)
  (by rw [hs];show (false || (backTo iz (starEach es X.env)).any (·.1))=false;rw [hp];rfl) Rz (Al I hg hm ⟨rfl,?_⟩ hd)
 have h1:=ha iz pins s σ H _ I h;rw [hs] at h1 ⊢;refine Calls.evalArgs_plain (aS h1 fun us s2 ⟨vs,H1,I1,r,hl,q⟩=>⟨rfl,by rw [←r.length];exact hl,I1.bk _ _ hC,hN.keeps I1.bk,T.keeps I1.bk,fun h' ea mk=>?_⟩)
 rw [L.xe];have nL:∀b o,X.s₀.heap.get? b=some o→b≠X.env.locals:=fun b o q=>dE (eV (bZ q) I1.ok.above);have ns:∀b o,X.s₀.heap.get? b=some o→b∉cU X.outer→b∉cU X.stack:=fun b o q nb z=>by
  rw [L.jq,AQ L.fr] at z;rcases cx.mp z with z | z;·exact nL b o q z
  ·exact nb z
 have nx:∀b:Addr,b∉X.ex:=fun b z=>by rw [L.ex] at z;cases z
 have ff:s2.heap.FunFrames (PySem.W.hideAll s2.heap (cU X.stack)) (X.env::X.outer):=by have z:=I1.stack;rw [←L.jq];exact PySem.W.funFrames_hide z fun env he a hf=>List.mem_filterMap.mpr ⟨env,he,hf⟩
 refine wpAny_leaves_madeW (base:=PySem.W.hideAll s2.heap (cU X.stack)) (h:=s2.heap) (by rw [I1.ok.frames,L.jq]) L.fr (fun b o q=>PySem.W.of_hideAll _ q) ff mk fun h2 t fl _ _ up=>?_
 refine ⟨ea,C,H1,_,t,rfl,⟨I1.os,I1.bare,fl,fun a o e1=>?_,fun b o e1 n nb=>?_,fun b o e1 nb=>?_,fun b o e1 n hb=>?_,I1.ok.mE,fun b o e1 n=>?_,I1.base.ic,I1.base.gR,I1.base.ie⟩,q⟩
 ·refine (I1.aG a o e1).kx (fun b u hb e2=>zS _ e2 fun z=>?_) (fun _ z=>z) fun _ _ z=>z
  have n0:=I1.xT b z;rcases hb with hb | hb
  ·subst hb
   rw [e1] at n0;cases n0
  ·rw [hb] at n0
   cases n0
 ·exact zS _ (I1.base.keep b o e1 n nb (nx b)) (ns b o e1 nb)
 ·obtain ⟨o',e2⟩:=I1.base.there b o e1 (nx b)
  exact ⟨o',zS _ e2 (ns b o e1 nb)⟩
 ·obtain ⟨l,e2⟩:=I1.base.slot b o e1 n hb (nx b)
  have lD:b∈cU X.stack:=by rw [L.jq,AQ L.fr];exact fj _ hb
  obtain ⟨_,o2,e3,nf⟩:=I1.stack.mem lD;rw [e2] at e3;cases e3;obtain ⟨l2,e4⟩:=up b _ (mk.keeps _ _ e2) nf;exact ⟨l2,e4⟩
 ·obtain ⟨o',e2⟩:=I1.base.there b o e1 (nx b)
  exact I1.base.free b o e1 n (nx b)
end
section
variable {X:Cx} {k:Nat} {f C:Addr} {fd:FuncData} {ps:List Str} {sp:Sp} {fv:List V} {ds:List Value} {x m:Str} {p pos apos:Pos} {e o:Expr} {es:List Expr} {ta:TE} {t:TA}
variable {te:TX} {i:Nat} {pos':Pos}
end
section
variable {X:Cx} {pins:a7} {σ:St} {H:Hp} {s:Shared} {ea:Addr}
end
section
variable {M:Model} {A:Around} {E:aX} {h:Heap} {g:Array GenState} {d:Drawn} {t:Nat} {os:OsState} {e:Addr} {oe:Obj} {Q:Bool→Shared→Prop}
variable {nm q nm' q':Str} {C N D N':Addr} {bs bm bs' qj:List Value} {hdct afT:Bool} {sn ox:List Str} {sub afU:List Value} {ab ab':Bool} {col afW:Option Bool} {dd ye:Option Addr} {k0 k1 k2 k3 k5 j0 j1 j2 j3 j5:Option Value} {newId afX:String}
end
section
variable {X:Cx} {body:List Stmt} {b₀:Stmt} {afY:List Stmt} {np afZ pos:Pos} {x n:Str} {D:Addr} {tb:TSX} {ts:TS} {ud:List Value} {newId:String} {i:Nat}
end
section
variable {P:Program} {w:World} {K:aD} {mg:dc} {base:Heap}
variable {x qual:Str} {st:Stmt} {f:Addr} {fd:FuncData} {N ps:List Str} {k:Nat} {sp:Sp}
theorem eE.Em(F:eE K x qual st f fd)(S:a8 N ps (aM st))(len:∀vs H Q E,sp vs H Q E→vs.length=ps.length)
  (kD:∀(bf:Value) (A:Around) (outer:List Env) (s:Shared) (H:Hp) (vs:List V) (Q:VK) (E:XK),de k (A.deeper (envOfC qual (aM st) s.heap.objs.size f bf))→sp vs H Q E→
   uc (jv (dW P w) P w K mg base N qual (aM st) f bf A outer s H E) E→
   ∃t,eP (jv (dW P w) P w K mg base N qual (aM st) f bf A outer s H E) (gs st) t∧t {nx:=fun _ H'=>Q .aU H',rt:=Q} (start N vs) H):aY P w K mg base (dW P w) (k+1) f fd ps sp:=by
 obtain ⟨oc,od,kV,doc,pm,an,bf,ct,fX,rfl,lk,fV⟩:=F.ex;exact Eb lk fV S len fun A outer s H vs Q E hr jY=>kD bf A outer s H vs Q E hr jY ⟨rfl,rfl,rfl,rfl⟩
theorem eE.fz(F:eE K x qual st f fd)(S:a8 N ps (aM st))
  (kD:∀(bf:Value) (A:Around) (outer:List Env) (s:Shared) (H:Hp) (vs:List V) (Q:VK) (E:XK),de k (A.deeper (envOfC qual (aM st) s.heap.objs.size f bf))→sp vs H Q E→
   uc (jv (dW P w) P w K mg base N qual (aM st) f bf A outer s H E) E→
   ∃t,eP (jv (dW P w) P w K mg base N qual (aM st) f bf A outer s H E) (gs st) t∧t {nx:=fun _ H'=>Q .aU H',rt:=Q} (start N vs) H)
  (len:∀vs H Q E,sp vs H Q E→vs.length=ps.length:=by intro vs H Q E h;repeat first | (obtain ⟨rfl,_⟩:=h;rfl) | (subst h;rfl) | obtain ⟨_,h⟩:=h):aY P w K mg base (dW P w) (k+1) f fd ps sp:=F.Em S len kD
end
structure qk (K:aD) (C:Addr):Prop where
 ci:PySem.W.hasDictIn K C=true
 ga:PySem.W.findIn K (.ref C) "__getattribute__"=some (some (.builtin "BaseException.__getattribute__"))
 gn:PySem.W.findIn K (.ref C) "__getattr__"=some none
 ca:PySem.W.findIn K (.ref C) "__class__"=some (some (.builtin "object.__class__"))
 mo:PySem.W.mroIn K C (.type "object")=some true
 mb:PySem.W.mroIn K C (.type "BaseException")=some true
section
variable {prog:Program} {w:World} {A:Around} {E:aX} {h:Heap} {g:Array GenState} {d:Drawn} {t:Nat} {os:OsState} {K:aD} {a C:Addr} {o:Obj}
theorem RA{R:Result→Shared→Prop}(da:K.In h)(c:qk K C)(hx:h.get? a=some o)(hc:o.cls=.ref C)(hq:R (.ok (.ret (.ref C))) ⟨h,g,d,t,os⟩) :
  codeAny (model prog w) A (.call (.builtin "getset_descriptor.__get__") ⟨[.builtin "object.__class__",.ref a,.ref C],[]⟩) R ⟨h,g,d,t,os⟩:=by
 have JV:(⟨h,g,d,t,os⟩:Shared).TypeIs (.builtin "object.__class__") "getset_descriptor":=Dx;have L1:=PySem.W.looks_mroIn (M:=model prog w) da c.mo;have ow:=F.owner_object_class;refine codeAny_call_builtin F.slot_gs_get.plain F.entry_gs_get (F.slot_gs_get.check _ _ _ _ _ _ _ _ JV (F.args_gs_get _ _ _) ?_)
 repeat (any_goals (first | assumption | (with_reducible refine xH hx ?_;rw [hc]) | (rw [ow];with_reducible refine L1.at ?_) | wp_step))
 refine ⟨Code.quiet_builtin _ (by decide +kernel),codeAny_builtin F.entry_object_class ?_⟩
 repeat (any_goals (first | assumption | (with_reducible refine xH hx ?_;rw [hc]) | wp_step))
variable {tk:Tok}
theorem RB{Q:Fin→Shared→Prop}(da:K.In h)(c:qk K C)(hx:h.get? a=some o)(hc:o.cls=.ref C)(hq:Q (.done (.ret (.ref C))) ⟨h,g,d,t,os⟩) :
  wpAny (model prog w) A (Builtin.«object.__getattribute__» ⟨[.ref a,.str "__class__" tk],[]⟩) Q E ⟨h,g,d,t,os⟩:=by
 have JV:(⟨h,g,d,t,os⟩:Shared).TypeIs (.builtin "object.__class__") "getset_descriptor":=Dx;have L1:=zX (M:=model prog w) da c.ca;have f5:=Dx;have f6:=F.slot_gs_get.lookup;have f7:=F.slot_gs_set.lookup
 repeat (any_goals (first | assumption | (with_reducible refine xH hx ?_;rw [hc]) | with_reducible refine L1.at ?_ | wp_step))
 refine RA da c hx hc ?_
 repeat (any_goals (first | assumption | wp_step))
theorem RC{M:Model}{nv:Value}{Q:Unit→Shared→Prop}(da:K.In h)(c:qk K C)(hx:h.get? a=some o)(hc:o.cls=.ref C)(hq:Q () ⟨h,g,d,t,os⟩) :
  wpAny M A (checkBuiltinCall "BaseException.__getattribute__" ⟨[.ref a,nv],[]⟩) Q E ⟨h,g,d,t,os⟩:=by
 have hk:builtinKind "BaseException.__getattribute__"=some .slot:=by decide +kernel
 have hs:splitId "BaseException.__getattribute__"=some ("BaseException","__getattribute__"):=by decide +kernel
 have L1:=PySem.W.looks_mroIn (M:=M) da c.mb;have ha:=F.args_bexc_ga (.ref a) nv;simp only [checkBuiltinCall,hk,hs];refine cS ?_;unfold isInstance
 repeat (first | (with_reducible refine xH hx ?_;rw [hc]) | with_reducible refine L1.at ?_ | wp_step)
 exact hq
theorem RD{fill expr:Bool}{Q:aX}(da:K.In h)(c:qk K C)(hx:h.get? a=some o)(hc:o.cls=.ref C)(hq:Q (.ref C) ⟨h,g,d,t,os⟩) :
  wpAny (model prog w) A (getAttrBy (.ref a) (.str "__class__" tk) fill expr) Q E ⟨h,g,d,t,os⟩:=by
 have f3:=F.attrBase_ValueError.ga.bind (.ref a);have z0:(expr && onTheHeap (Value.builtin "BaseException.__getattribute__"))=false:=by cases expr <;> rfl
 have z2:(Value.builtin "BaseException.__getattribute__" == Value.builtin "object.__getattribute__")=false:=by decide +kernel
 have z1:(onTheHeap (Value.ref C) && Value.builtin "BaseException.__getattribute__" == Value.builtin "object.__getattribute__")=false:=by rw [z2];rfl
 have L1:=zX (M:=model prog w) da c.ga;have L2:=zX (M:=model prog w) da c.gn
 repeat (any_goals (first | assumption | (with_reducible refine xH hx ?_;rw [hc]) | with_reducible refine L1.at ?_ | with_reducible refine L2.at ?_ | wp_step))
 refine codeAny_call_builtin F.attrBase_ValueError.ga.plain F.entry_bexc_ga (RC da c hx hc (RB da c hx hc ?_))
 repeat (any_goals (first | assumption | wp_step))
theorem RE{Q:Option Value→Shared→Prop}(da:K.In h)(c:qk K C)(hx:h.get? a=some o)(hc:o.cls=.ref C)(hq:Q (some (.ref C)) ⟨h,g,d,t+1,os⟩) :
  wpAny (model prog w) A (getAttr? (.ref a) "__class__") Q E ⟨h,g,d,t,os⟩:=by
 unfold getAttr? getAttrBy?
 repeat (any_goals (first | assumption | with_reducible apply RD da c hx hc | wp_step))
theorem RF(c:qk K C):PySem.W.KitX K (.ref a) (.ref C) (ExcAt a C) where
 ty:=fun M h _ k=>by obtain ⟨oe,e1,e2,_⟩:=k;exact e2▸(PySem.W.Looks.ld e1).andThen .now
 it:=fun M h da _=>by
  obtain ⟨cd,hc,_⟩:=PySem.W.any_some c.ci;unfold PySem.W.clsIn at hc
  split at hc
  ·rename_i look
   intro A' Q' E' s' k q;unfold isType loadHead;exact cS (wpAny_loadPart (k _ _ (da _ _ look)) (fR q))
  ·cases hc
 ne:=fun h tp dd aj n sl da RG=>by
  obtain ⟨cd,hc,_⟩:=PySem.W.any_some c.ci;refine Bool.eq_false_iff.mpr fun q=>?_;have e:C=tp:=Value.ref.inj (ko.mp q);subst e;unfold PySem.W.clsIn at hc
  split at hc
  ·rename_i look
   have z:=(da _ _ look).symm.trans RG;cases z
  ·cases hc
 ca:=fun{prog w A E Q s} da k z=>by obtain ⟨oe,e1,e2,_⟩:=k;obtain ⟨h,g,d,t,os⟩:=s;exact RE da c e1 e2 z
end
def AR(a:Addr)(h:Heap):Prop:=∃o ep,h.get? a=some o∧o.ExactDict∧o.data=.dict #[] ep∧(a == sysModules)=false
theorem AR.AS{a:Addr}(e:AR a h):PySem.W.KitAt a "dict" h:=by obtain ⟨o,_,e,c,_⟩:=e;exact ⟨o,e,c.1⟩
def JW(a:Addr):HO:=.ext (AR a)
inductive yf (K:aD) (H:Hp):V→Value→Prop where
 | of {x:V} {t:Value} (h:ju K H x t):yf K H x t
 | exc {a C:Addr} (e:H a=some (Rp a C)) (c:qk K C):yf K H (.ref a) (.ref C)
 | ue {a:Addr} (e:H a=some (JW a)):yf K H (.ref a) (.type "dict")
def JX:V→Value
 | .ty n=>.type n
 | .ref a=>.ref a
 | _=>.none
def RH:V→Bool
 | .ty _=>true
 | .ref _=>true
 | _=>false
def RI(K:aD):List V→Hp→VK→Prop:=fun xs H Q=>∃x c t b,xs=[x,c]∧RH c=true∧yf K H x t∧PySem.W.kitOne K t (JX c)=some b∧Q (.bl b) H
variable {X:Cx}
theorem lJ(hK:X.K=K:=by rfl):gr X (.builtin "isinstance") (RI K):=by
 intro pins s σ H xs us Q I r h;subst hK;obtain ⟨x,c,t,b,rfl,hc,ty,e,q⟩:=h;obtain ⟨u,cv,rfl,rx,rc⟩:=vals2 r;have ec:cv=JX c:=by
  cases c with
  | ty n=>exact rc
  | ref a=>exact rc
  | _=>cases hc
 subst ec;cases ty with
 | of ty=>exact Qq I rx ty e fun tk=>⟨.bl b,H,I.tok tk,rfl,q⟩
 | @ue a ea=>cases rx;obtain ⟨k,_,_⟩:=(show cT X.prog X.w H s.heap a (.ext (AR a)) from I.aG a _ ea);exact ja PySem.W.kitx_dict I.dQ k.AS e (fun z=>nomatch z) fun tk=>⟨.bl b,H,I.tok tk,rfl,q⟩
 | @exc a C ea cc=>cases rx;obtain ⟨k,_,_⟩:=(show cT X.prog X.w H s.heap a (.ext (ExcAt a C)) from I.aG a _ ea);exact ja (RF cc) I.dQ k e (fun z=>nomatch z) fun tk=>⟨.bl b,H,I.tok tk,rfl,q⟩
def g7:List V→List V→Bool
 | [],[]=>true
 | x::xs,y::ys=>g6 x y && g7 xs ys
 | _,_=>false
def AU(K:aD)(neg:Bool):R2:=fun x y H Q=>∃a b xs ys,x=.ref a∧y=.ref b∧eC K H a xs∧eC K H b ys∧xs.all gK=true∧ys.all gK=true∧Q (.bl (if neg then !g7 xs ys else g7 xs ys)) H
theorem En{A:Around}{s:Shared}:∀{xs ys:List V} {us vs:List Value},Vals xs us→Vals ys vs→xs.all gK=true→ys.all gK=true→
  ∃e:Nat→Bool,(∀j (h1:j<us.length) (h2:j<vs.length),SeqAt.EqAt A s us[j] vs[j] (e j))∧((List.range (min us.length vs.length)).all e && us.length == vs.length)=g7 xs ys
 | [],[],_,_,.nil,.nil,_,_=>⟨fun _=>true,fun j h1=>absurd h1 (mr _),by simp [g7]⟩
 | [],_::_,_,_,.nil,.cons _ _,_,_=>⟨fun _=>true,fun j h1=>absurd h1 (mr _),by simp [g7]⟩
 | _::_,[],_,_,.cons _ _,.nil,_,_=>⟨fun _=>true,fun j _ h2=>absurd h2 (mr _),by simp [g7]⟩
 | x::xs,y::ys,u::us,v::vs,.cons r1 t1,.cons r2 t2,f1,f2=>by
  rw [tU,xE] at f1 f2;obtain ⟨e,h,q⟩:=En (A:=A) (s:=s) t1 t2 f1.2 f2.2;refine ⟨fun j=>match j with | 0=>g6 x y | k+1=>e k,fun j h1 h2=>?_,?_⟩
  ·cases j with
   | zero=>exact x8 r1 r2 f1.1 f2.1
   | succ k=>exact h k (by simpa using h1) (by simpa using h2)
  ·have em:min (u::us).length (v::vs).length=min us.length vs.length+1:=by simp only [gD];lia
   rw [em,Dy,tU,List.all_map];show (g6 x y && (List.range (min us.length vs.length)).all e && ((us.length+1) == (vs.length+1)))=(g6 x y && g7 xs ys);rw [←q];have eb:((us.length+1) == (vs.length+1))=(us.length == vs.length):=by rw [nJ,ko,ko];lia
   rw [eb,Bool.and_assoc]
theorem RJ(hu:X.A.units<cLine):cg X (compareOp .Eq) (AU X.K false):=by
 intro pins s σ H x y v u Q I rx ry h;obtain ⟨a,b,xs,ys,rfl,rfl,h1,h2,f1,f2,q⟩:=h;cases rx;cases ry;obtain ⟨us,r1,t1,_⟩:=I.tuple h1;obtain ⟨vs,r2,t2,_⟩:=I.tuple h2;obtain ⟨e,he,eq⟩:=En (A:=X.A.in1) (s:=s) r1 r2 f1 f2;refine SeqAt.eq_tupleAt (e:=e) t1 t2 hu (fun j z1 z2=>by simpa using he j (by simpa using z1) (by simpa using z2)) ⟨.bl (g7 xs ys),H,I,?_,q⟩
 show _=Value.bool (g7 xs ys);rw [←eq];simp
theorem RK(hu:X.A.units<cLine):cg X (compareOp .NotEq) (AU X.K true):=by
 intro pins s σ H x y v u Q I rx ry h;obtain ⟨a,b,xs,ys,rfl,rfl,h1,h2,f1,f2,q⟩:=h;cases rx;cases ry;obtain ⟨us,r1,t1,_⟩:=I.tuple h1;obtain ⟨vs,r2,t2,_⟩:=I.tuple h2;obtain ⟨e,he,eq⟩:=En (A:=X.A.in1) (s:=s) r1 r2 f1 f2;refine SeqAt.RcNeAt.tuples (e:=e) t1 t2 hu (fun j z1 z2=>by simpa using he j (by simpa using z1) (by simpa using z2)) _ _ _ _ ⟨.bl (!g7 xs ys),H,I,?_,q⟩
 show _=Value.bool (!g7 xs ys);rw [←eq];simp
theorem boot_isinstance:bootBuiltins "isinstance"=some (.builtin "isinstance"):=by decide +kernel
theorem boot_abs:bootBuiltins "abs"=some (.builtin "abs"):=by decide +kernel
theorem boot_min:bootBuiltins "min"=some (.builtin "min"):=by decide +kernel
theorem boot_max:bootBuiltins "max"=some (.builtin "max"):=by decide +kernel
theorem boot_int:bootBuiltins "int"=some (.type "int"):=by decide +kernel
theorem boot_bool:bootBuiltins "bool"=some (.type "bool"):=by decide +kernel
theorem boot_tuple:bootBuiltins "tuple"=some (.type "tuple"):=by decide +kernel
theorem boot_list:bootBuiltins "list"=some (.type "list"):=by decide +kernel
end L2
namespace My
open PySem L2
def fA(n:Int):Bool:=(List.range 32).all fun e=>decide (e<2) || decide (n<(e:Int)*(e:Int)) || decide (n % (e:Int)≠0)
variable {n d:Int}
theorem JY(h2:n≤997)(hd:2≤d)(hq:d*d≤n)(hm:n % d=0):fA n=false:=by
 have hd2:d<32:=by
  by_cases h:d<32;·exact h
  ·have:32*32≤d*d:=Int.mul_le_mul (by lia) (by lia) (by lia) (by lia)
   lia
 obtain ⟨k,rfl⟩:∃k:Nat,d=(k:Int):=⟨d.toNat,by lia⟩
 cases e:fA n with
 | false=>rfl
 | true=>
  have z:=pH.mp e k (eW.mpr (by lia))
  simp only [Bool.or_eq_true,decide_eq_true_eq] at z;rcases z with (z | z) | z;·lia
  ·lia
  ·exact absurd hm z
theorem RL(hq:n<d*d)(hd:2≤d)(hm:∀e:Int,2≤e→e<d→n % e≠0):fA n=true:=by
 refine pH.mpr fun k _=>?_;simp only [Bool.or_eq_true,decide_eq_true_eq];by_cases h1:k<2;·exact .inl (.inl h1)
 ·by_cases h2:n<(k:Int)*(k:Int)
  ·exact .inl (.inr h2)
  ·refine .inr (hm k (by lia) ?_)
   by_cases h3:(k:Int)<d;·exact h3
   ·have:d*d≤(k:Int)*(k:Int):=Int.mul_le_mul (by lia) (by lia) (by lia) (by lia)
    lia
inductive Td where
 | a (w:Str)
 | b (w:Str) (n:Int)
def Td.vs:Td→List V
 | .a w=>[.str w]
 | .b w n=>[.str w,.int n]
def Td.yg:Td→Bool
 | .a w=>decide (w="fractions")
 | .b _ _=>false
def Td.jZ:Td→Bool
 | .a _=>false
 | .b w n=>decide (w="wheel") && (decide (2≤n) && decide (n≤997) && fA n)
def Td.good(d:Td):Bool:=d.yg || d.jZ
def Td.prime:Td→V
 | .a _=>.aU
 | .b _ n=>.int n
end My
namespace L2
open PySem PySem.Spec PyProof.Rows
abbrev Cx.df (X:Cx) (N:List Str) (scope:Scope) (cl:List (Str×Addr)) (s₃:Shared) (H₃:Hp) (fp:List Addr):Cx:=
 {X with N:=N,s₀:=s₃,H₀:=H₃,env:=compEnvC scope cl s₃.heap.objs.size X.env,outer:=X.stack,stack:=X.stack,ex:=fp,fn:=fun _=>false,pn:=[],xe:=fun _ _=>False}
inductive oy (X:Cx):List Expr→TT→Prop where
 | nil:oy X [] (fun _ H Q=>Q true H)
 | one {c:Expr} {t:TT} (h:PT X c t):oy X [c] t
def jy(wi:TI)(ρ:St→St)(tt:TT)(te:TE):TE:=fun σ H Q=>wi σ H fun J H1=>∀D,H1 D=none→∃W:Nat→Nat→List V→Hp→Prop,(∃m,W 0 m [] (upd H1 D (.lst []))) ∧
 ∀i m ys Hc,W i m ys Hc→Hc D=some (.lst ys)∧((J.stop i Hc∧Q (.ref D) Hc)∨(J.go i Hc∧∀x H',J.gk i Hc x H'→tt (some x::ρ σ) H' fun b H2=>
  if b=true then te (some x::ρ σ) H2 fun y H3=>H3 D=some (.lst ys)∧ys.length<sizeLine∧∃m',m'<m∧W (i+1) m' (ys++[y]) (upd H3 D (.lst (ys++[y]))) else ∃m',m'<m∧W (i+1) m' ys H2))
section
variable {X:Cx} {N:List Str} {scope:Scope} {cl:List (Str×Addr)} {x:Str} {px pos:Pos} {iter elt:Expr} {ifs:List Expr} {wi:TI} {ρ:St→St} {tt:TT} {te:TE}
structure Eo (X:Cx) (N:List Str) (scope:Scope) (cl:List (Str×Addr)) (x:Str) (ρ:St→St):Prop where
 AV:closureFor scope X.env=pure cl
 kind:scope.kind=.function
 JZ:∀y∈scope.names,y.2≠.cell
 names:∀y∈scope.names,y.2=.local→scope.names.lookup y.1=some .local
 sub:∀p∈cl,X.env.cells.lookup p.1=some p.2
 has:∀y,((relabel scope X.env).names.lookup y=some .cell∨(relabel scope X.env).names.lookup y=some .free)→∃c,cl.lookup y=some c
 n0:N[0]?=some x
 nd:N.Nodup
 hx:scope.names.lookup x=some .local
 AW:∀(σ:St) (j:Nat) (v:V),(ρ σ)[j]?=some (some v)→∃(i:Nat) (y:Str),N[j+1]?=some y∧X.N[i]?=some y∧σ[i]?=some (some v)∧n4 X.env.scope y∧(X.env.kindOf y=some .cell∨X.env.kindOf y=some .free)∧((relabel scope X.env).names.lookup y=some .cell∨(relabel scope X.env).names.lookup y=some .free)
 len:∀σ:St,σ.length=X.N.length→(ρ σ).length+1=N.length
theorem RM{names:List (Str×NameKind)}(h:(names.all fun q=>(q.2 != .cell && q.2 != .free) || (cl.lookup q.1).isSome)=true) :
  ∀y,(names.lookup y=some .cell∨names.lookup y=some .free)→∃c,cl.lookup y=some c:=fun y hy=>by
 have key:∀k:NameKind,(k != .cell && k != .free)=false→names.lookup y=some k→∃c,cl.lookup y=some c:=fun k hk e=>by have z:=pH.mp h (y,k) (k6 e);rw [hk,xI] at z;exact Dw.mp z
 rcases hy with e | e;·exact key .cell rfl e
 ·exact key .free rfl e
theorem join_some{o:Option (Option V)}{v:V}(h:some o.join=some (some v)):o=some (some v):=by
 cases o with
 | none=>cases h
 | some o=>cases h;rfl
def Ep(X:Cx)(sc:Scope):List Str→List Nat→Prop
 | n::ns,i::is=>(X.N[i]?=some n∧n4 X.env.scope n∧(X.env.kindOf n=some .cell∨X.env.kindOf n=some .free)∧((relabel sc X.env).names.lookup n=some .cell∨(relabel sc X.env).names.lookup n=some .free))∧Ep X sc ns is
 | _,[]=>True
 | [],_::_=>False
theorem J0{X:Cx}{sc:Scope}:∀{ns:List Str} {is:List Nat},Ep X sc ns is→∀(σ:St) (j:Nat) (v:V),(is.map fun i=>σ[i]?.join)[j]?=some (some v)→∃(i:Nat) (n:Str),ns[j]?=some n∧X.N[i]?=some n∧σ[i]?=some (some v)∧n4 X.env.scope n∧(X.env.kindOf n=some .cell∨X.env.kindOf n=some .free)∧((relabel sc X.env).names.lookup n=some .cell∨(relabel sc X.env).names.lookup n=some .free)
 | _,[],_,_,_,_,e=>by cases e
 | [],_::_,h,_,_,_,_=>h.elim
 | n::_,i::_,h,_,0,_,e=>⟨i,n,rfl,h.1.1,join_some e,h.1.2⟩
 | _::_,_::_,h,σ,j+1,v,e=>J0 h.2 σ j v e
theorem fZ(is:List Nat)(h1:closureFor scope X.env=pure cl)(h:Ep X scope N.tail is:=by repeat' first | exact True.intro | refine And.intro ⟨rfl,Or.inr (Or.inl rfl),.inl rfl,.inl rfl⟩ ?_)(h2:scope.kind=.function:=by rfl)(h3:∀y∈scope.names,y.2≠.cell:=by decide +kernel)(h4:∀y∈scope.names,y.2=.local→scope.names.lookup y.1=some .local:=by decide +kernel)(h5:∀p∈cl,X.env.cells.lookup p.1=some p.2:=by repeat' first | exact List.forall_mem_nil _ | refine List.forall_mem_cons.mpr ⟨rfl,?_⟩)(h6:((relabel scope X.env).names.all fun q=>(q.2 != .cell && q.2 != .free) || (cl.lookup q.1).isSome)=true:=by rfl)(h7:N[0]?=some x:=by rfl)(h8:N.Nodup:=by decide +kernel)(h9:scope.names.lookup x=some .local:=by rfl)(hr:∀σ:St,ρ σ=is.map fun i=>σ[i]?.join:=by exact fun _=>rfl)(hl:is.length+1=N.length:=by rfl):Eo X N scope cl x ρ:=
 ⟨h1,h2,h3,h4,h5,RM h6,h7,h8,h9,fun σ j v e=>by rw [hr] at e;rw [←List.getElem?_tail];exact J0 h σ j v e,fun σ _=>by rw [hr,aR];exact hl⟩
theorem jz(B:Eo X N scope cl x ρ)(hc:X.calm=true)(hi:PI X (.Name x px) iter wi)(ht:∀s₃ H₃ fp,oy (X.df N scope cl s₃ H₃ fp) ifs tt)(he:∀s₃ H₃ fp,PE (X.df N scope cl s₃ H₃ fp) elt te)
  (hs:∀x,foldedSetIterable iter X.env x=pure x:=by intro _;rfl):PE X (.ListComp elt [⟨.Name x px,iter,ifs,0⟩] scope pos) (jy wi ρ tt te):=by
 intro pins s σ H Q I h
 rw [eval_ListComp]
 refine Dz (use:=none) rfl hs B.AV B.kind B.names (aS (hi pins s σ H _ I h) fun v s1 h1=>aS h1 fun xX s2 h2=>?_)
 obtain ⟨it,fp,tn,J,H2,rfl,I2,T,gH,f2,q2⟩:=h2
 have nD:H2 s2.heap.objs.size=none:=I2.aG.fresh (aK _)
 obtain ⟨W,⟨m0,w0⟩,turn⟩:=q2 _ nD
 refine zV (wpAny_newFunctionEnv B.JZ (by intro y hy;simp at hy) (fun h₁ kH mL=>?_) B.kind)
 dsimp only at kH mL ⊢
 generalize hD:s2.heap.objs.size=D at nD w0 turn kH mL ⊢
 generalize kI:({s2 with heap:=s2.heap.push {cls:=.type "list",dict:=none,data:=.seq ([]:List Value).toArray}}:Shared)=s3
 have I3:Inv X pins σ (upd H2 D (.lst [])) s3:=by
  subst hD kI
  exact I2.laid (t':=s2.toks) (fun b u e=>cL _ e) (aK _) ⟨ck _,[],_,.nil,fm _ rfl⟩
 have e3:s3.heap=s2.heap.push {cls:=.type "list",dict:=none,data:=.seq ([]:List Value).toArray}:=by rw [←kI]
 have iA:∀b o,s2.heap.get? b=some o→s3.heap.get? b=some o:=fun b o e=>by rw [e3];exact cL _ e
 rw [←e3] at kH mL ⊢
 have below:∀b o,s3.heap.get? b=some o→b≠s3.heap.objs.size:=fun b o e=>dE (bZ e)
 have fK:∀b o,s3.heap.get? b=some o→h₁.get? b=some o:=fun b o e=>mL.extBut b o (below b o e) (cL _ e)
 have j4:∀b∈fp,∃o,s2.heap.get? b=some o∧∀v,o.data≠.cell v:=T.obj _ _ gH
 have yh:∀b∈fp,b≠D:=fun b hb z=>by
  obtain ⟨o,e,_⟩:=j4 b hb
  rw [z,←hD] at e
  exact absurd (bZ e) (iM _)
 have eG:∀y c,cl.lookup y=some c→X.env.cells.lookup y=some c:=fun y c e=>B.sub (y,c) (k6 e)
 have yi:=I3.xT
 have fz:(X.df N scope cl s3 (upd H2 D (.lst [])) fp).Ok:=by
  refine ⟨I.ok.mod,B.kind,I.ok.glob,I.ok.blt,aK _,fun a b c e1 e2=>I.ok.inj a b c (eG a c e1) (eG b c e2),fun y hy=>B.has y hy,(fun _ _ z _=>absurd z dA),(fun _=>I.ok.hd hc),I.ok.frames,.inl rfl,fun b hb=>⟨?_,fun y c e z=>?_⟩,fun b o e=>?_,aH I.ok.jr I3.sz,fun b o e hb=>?_,fun b hb z=>?_,I3.stack,yi⟩
  ·obtain ⟨o,e,_⟩:=j4 b hb
   exact below b o (iA b o e)
  ·exact (f2 b hb).2.2.2.2.1 y c (eG y c e) z
  ·exact I3.bs b o e
  ·rcases (f2 b hb).2.2.2.1 with z | z
   ·exact I.ok.pU b o e z
   ·exact absurd (eV (bZ e) (aH I.ok.jr z)) (iM _)
  ·rcases cx.mp (I3.xS b z) with z | z
   ·exact (f2 b hb).2.1 z
   ·exact (f2 b hb).2.2.1 z
 have IB:∀tk:Nat,Inv (X.df N scope cl s3 (upd H2 D (.lst [])) fp) [] (none::ρ σ) (upd H2 D (.lst [])) {s3 with heap:=h₁,toks:=tk}:=fun tk=>by
  refine ⟨fz,rfl,I3.bare,Un.kept fK,⟨_,kH,fun j y v e1 e2 e3=>?_⟩,fun y c e=>?_,?_,fun y c e=>I3.jU y c (eG y c e),(fun p hp=>nomatch hp),I3.aG.kept fK,?_⟩
  ·cases j with
   | zero=>cases e2
   | succ j=>
    obtain ⟨i,y',a1,a2,a3,a4,a5,a6⟩:=B.AW σ j v e2
    have uf:N[j+1]?=some y:=e1
    rw [uf] at a1
    cases a1
    obtain ⟨m,hn,hl⟩:=I3.loc
    obtain ⟨u,r,l⟩:=hl i y v a2 a3 a4
    refine ⟨u,r,.inr ⟨a6,?_⟩⟩
    obtain ⟨c,ec⟩:=B.has y a6
    rcases l with ⟨k,_⟩ | ⟨_,c',oz,z⟩
    ·rcases a5 with q | q <;> (rw [k] at q;cases q)
    ·have:=eG y c ec
     rw [this] at oz
     cases oz
     obtain ⟨o,ho,hd⟩:=z
     exact ⟨c,ec,o,fK _ _ ho,hd⟩
  ·obtain ⟨v,o,ho,hd⟩:=I3.cell y c (eG y c e)
   exact ⟨v,o,fK _ _ ho,hd⟩
  ·exact I3.aG.fresh (aK _)
  ·show (none::ρ σ).length=N.length
   rw [gD]
   exact B.len σ I.len
 have fin:∀{σ':St} {H':Hp} {s':Shared},Inv (X.df N scope cl s3 (upd H2 D (.lst [])) fp) [] σ' H' s'→Q (.ref D) H'→compPost (model X.prog X.w) X.A X.xe none (EP X pins σ Q) (.ref D) s3.heap.objs.size (.ok .next) s':=fun{σ' H' s'} J q=>by
  obtain ⟨m,hn,_⟩:=J.loc
  refine ⟨m,hn,fun h' iT=>⟨.ref D,H',?_,rfl,q⟩⟩
  have old:∀b o,s3.heap.get? b=some o→b≠s3.heap.objs.size:=below
  have u1:Un (cU X.stack) fp (upd H2 D (.lst [])) H' s3.heap h':=by
   refine ⟨fun b o e n hb hx=>?_,fun b o e n hb hx=>?_,J.base.free,fun b o e hx=>?_,J.base.ic,J.base.gR,J.base.ie⟩
   ·exact (iT.2 b (old b o e)).trans (J.base.keep b o e n hb hx)
   ·obtain ⟨sl,z⟩:=J.base.slot b o e n hb hx
    exact ⟨sl,(iT.2 b (old b o e)).trans z⟩
   ·obtain ⟨o',z⟩:=J.base.there b o e hx
    exact ⟨o',(iT.2 b (old b o e)).trans z⟩
  have yj:cH X.prog X.w H' h':=fun b u e=>by
   refine (J.aG b u e).kx (fun c v hc z=>(iT.2 c fun y=>?_).trans z) (fun _ z=>z) fun _ _ z=>z
   have fr:=J.free
   have y':c=s3.heap.objs.size:=y
   rcases hc with hc | hc
   ·rw [←hc,y'] at e
    exact absurd (fr.symm.trans e) (by simp)
   ·rw [y'] at hc
    exact absurd (fr.symm.trans hc) (by simp)
  refine I3.pX (s':={s' with heap:=h'}) (ch:=fp) (J.os) u1 yj J.bare fun b hb=>?_
  obtain ⟨g0,g1,g2,g3,g4,g5⟩:=f2 b hb
  exact ⟨g3,g1,g4,g5⟩
 have iq:∀{H':Hp},(∀b∈fp,H' b=none)→∀b∈fp,mG (X.df N scope cl s3 (upd H2 D (.lst [])) fp) [] H' b:=fun hn b hb=>by
  refine ⟨hn b hb,?_,?_,.inl hb,fun y c e z=>(f2 b hb).2.2.2.2.1 y c (eG y c e) z,fun p hp=>nomatch hp⟩
  ·obtain ⟨o,e,_⟩:=j4 b hb
   exact below b o (iA b o e)
  ·exact fz.pV b hb
 have loop:∀tk:Nat,codeAny (model X.prog X.w) X.A (.compLoop (.ListComp elt [⟨.Name x px,iter,ifs,0⟩] scope pos) 0 (.ref it) (.ref D) (compEnvC scope cl s3.heap.objs.size X.env))
   (compPost (model X.prog X.w) X.A X.xe none (EP X pins σ Q) (.ref D) s3.heap.objs.size) {s3 with heap:=h₁,toks:=tk}:=fun tk=>by
  refine DA (fun n s'=>∃i ys o H',Inv (X.df N scope cl s3 (upd H2 D (.lst [])) fp) [] (o::ρ σ) H' s'∧tn i s'.heap∧(∀b∈fp,H' b=none)∧W i n ys H') ?_ m0
   ⟨0,[],none,_,IB tk,T.keep _ _ _ gH fun b hb o e=>fK _ _ (iA _ _ e),fun b hb=>by rw [aP (yh b hb)];exact (f2 b hb).1,w0⟩
  rintro n s4 ⟨i,ys,o,H4,I4,oA,oB,w4⟩
  obtain ⟨J1,yk⟩:=turn i n ys H4 w4
  rcases yk with ⟨stop,qn⟩ | ⟨go,step⟩
  ·refine dJ (T.done (X.df N scope cl s3 (upd H2 D (.lst [])) fp) rfl rfl rfl hc i [] s4 _ H4 (fun _ _=>False) I4 (iq oB) oA stop) (fun r s5 ⟨hr,I5⟩=>?_) fun _ _ z=>z.elim
   subst hr
   exact fin I5 qn
  ·refine dJ (T.item (X.df N scope cl s3 (upd H2 D (.lst [])) fp) rfl rfl rfl hc i [] s4 _ H4 (fun _ _=>False) I4 (iq oB) oA go) (fun r s5 ⟨u,hr,h5⟩=>?_) fun _ _ z=>z.elim
   subst hr
   have z:letOwnedTupleGo (.Name x px) (.ref it) u=pure ():=rfl
   rw [z] at h5
   show wpAny _ _ ((pure ():Sem Unit) >>= fun _=>assign (.Name x px) (compEnvC scope cl s3.heap.objs.size X.env) u) _ _ s5
   refine cS (dJ h5 (fun _ s5 ⟨y,H5,I5,r5,y5,ir,p_⟩=>?_) fun _ _ z=>z.elim)
   have qa:=I5.pinned (iq p_) (T.obj _ _ ir)
   have pg:PG (X.df N scope cl s3 (upd H2 D (.lst [])) fp) (.Name x px) (b6 0):=bV (i:=0) B.nd B.n0 (.inl (z5 B.hx)) (.inr (z5 B.hx))
   have again:∀{σ7:St} {H7:Hp} {s7:Shared},Inv (X.df N scope cl s3 (upd H2 D (.lst [])) fp) ([]++lE fp s5.heap) σ7 H7 s7→Inv (X.df N scope cl s3 (upd H2 D (.lst [])) fp) [] σ7 H7 s7∧tn (i+1) s7.heap∧∀b∈fp,H7 b=none:=fun{σ7 H7 s7} I7=>by
    refine ⟨I7.t_,T.keep _ _ _ ir fun b hb o e=>(I7.pin (b,o) (eB _ (eB _ (oh hb e)))).1,fun b hb=>?_⟩
    obtain ⟨o,e,d⟩:=T.obj _ _ ir b hb
    exact (I7.pin (b,o) (eB _ (eB _ (oh hb e)))).2.1
   refine dJ (pg _ s5 _ H5 y u (fun σ2 H6=>σ2=some y::ρ σ∧H6=H5) qa r5 ⟨rfl,rfl⟩) (fun _ s6 ⟨σ6,H6,I6,q6⟩=>?_) fun _ _ z=>z.elim
   obtain ⟨rfl,rfl⟩:=q6
   have yl:=step y _ y5
   have tests:∀{kJ:TT},oy (X.df N scope cl s3 (upd H2 D (.lst [])) fp) ifs kJ→∀{R:Bool→Hp→Prop},kJ (some y::ρ σ) H6 R→wpAny (model X.prog X.w) X.A
     (forIn ifs true fun c r=>if r=true then do let ok ←isTrue c (compEnvC scope cl s3.heap.objs.size X.env) (eval c (compEnvC scope cl s3.heap.objs.size X.env));pure (ForInStep.yield ok) else pure (ForInStep.yield r))
     (fun ok s7=>∃H7,Inv (X.df N scope cl s3 (upd H2 D (.lst [])) fp) ([]++lE fp s5.heap) (some y::ρ σ) H7 s7∧R ok H7) (fun _ _=>False) s6:=fun{kJ} p {R} hR=>by
    cases p with
    | nil=>exact wpAny_tests_nil ⟨_,I6,hR⟩
    | one p=>exact wpAny_tests_one (p _ s6 _ _ _ I6 hR)
   refine dJ (tests (ht s3 _ fp) yl) (fun ok s7 ⟨H7,I7,q7⟩=>?_) fun _ _ z=>z.elim
   cases ok with
   | false=>
    obtain ⟨m',iU,w7⟩:=q7
    obtain ⟨a1,a2,a3⟩:=again I7
    exact ⟨m',iU,i+1,ys,_,H7,a1,a2,a3,w7⟩
   | true=>
    refine dJ (he s3 _ fp _ s7 _ H7 _ I7 q7) (fun ev s8 ⟨z,H8,I8,r8,ym,hz,m',iU,w8⟩=>?_) fun _ _ z=>z.elim
    refine dJ (kG (X:=X.df N scope cl s3 (upd H2 D (.lst [])) fp) _ s8 _ H8 (.ref D) [z] (.ref D) [ev] (fun _ H9=>H9=upd H8 D (.lst (ys++[z]))) I8 rfl (.cons r8 .nil) ⟨D,ys,z,rfl,rfl,ym,hz,rfl⟩) (fun _ s9 ⟨_,H9,I9,_,q9⟩=>?_) fun _ _ z=>z.elim
    subst q9
    obtain ⟨a1,a2,a3⟩:=again I9
    exact ⟨m',iU,i+1,ys++[z],_,_,a1,a2,a3,w8⟩
 have start:=loop (s3.toks+([]:List (Str×Value)).length)
 have es:({s3 with heap:=h₁,toks:=s3.toks+([]:List (Str×Value)).length}:Shared)={s2 with heap:=h₁,toks:=s2.toks+([]:List (Str×Value)).length}:=by rw [←kI]
 rw [es] at start
 exact DB start (T.self _ 0 _ _ _ (T.keep _ _ _ gH fun b hb o e=>fK _ _ (iA _ _ e)) start)
end
def eS(i:Int):Prop:=i.natAbs<2 ^ 2048
variable {i:Int}
theorem eS.log(h:eS i):i.natAbs.log2<2048:=by
 by_cases z:i.natAbs=0;·rw [z];decide
 ·exact (Nat.log2_lt z).mpr h
def Er(i j:Int):Prop:=j≠0∧eS j
def Es(i j:Int):Prop:=eS i∧eS j
theorem Es.ok{j:Int}(h:Es i j):IntMulOk i j:=by
 have b:∀{k:Int},eS k→Builtin.Int.intBits k≤2048:=fun{k} hk=>by
  have z:=hk.log;unfold Builtin.Int.intBits
  split <;> lia
 unfold IntMulOk;have e:Builtin.Int.intTooBig ((Builtin.Int.intBits i:Int)+(Builtin.Int.intBits j:Int))=false:=by
  unfold Builtin.Int.intTooBig;have h1:=b h.1;have h2:=b h.2;have h3:(4096:Int)≤bitsLine:=by decide +kernel
  exact c_ (by lia)
 intro z;rw [xE] at z;have z2:=z.2;rw [show Builtin.Int.intTooBig ((Builtin.Int.intBits i:Int)+(Builtin.Int.intBits j:Int))=false from e] at z2;cases z2
theorem J2:∀{xs:List V} {us:List Value},xs.length=us.length→(∀(i:Nat) (x:V) (u:Value),xs[i]?=some x→us[i]?=some u→RelV x u)→Vals xs us
 | [],[],_,_=>.nil
 | [],_::_,h,_=>by simp at h
 | _::_,[],h,_=>by simp at h
 | x::xs,u::us,h,k=>.cons (k 0 x u rfl rfl) (J2 (by simpa using h) fun i a b h1 h2=>k (i+1) a b (by simpa using h1) (by simpa using h2))
section
variable {X:Cx}
theorem AX:cg X (binaryOp .FloorDiv) (rI Er fun i j=>.int (i.fdiv j)):=qb fun _ _ _ _ _ _ _ hc q=>floordiv_int hc.1 q (.inl (PyProof.noPylong_of_log2 (eV hc.2.log (by decide))))
theorem gu:cg X (binaryOp .Mult) (rI Es fun i j=>.int (i*j)):=qb fun _ _ _ _ _ _ _ hc q=>mul_int q hc.ok
def RN(i j:Int):Prop:=0<j∧eS j
theorem mM:cg X (binaryOp .FloorDiv) (rI RN fun i j=>.int (i / j)):=qb fun i j _ _ _ _ _ hc q=>floordiv_int (xJ hc.1) (by rw [Int.fdiv_eq_ediv_of_nonneg i (Int.le_of_lt hc.1)];exact q) (.inl (PyProof.noPylong_of_log2 (eV hc.2.log (by decide))))
def allR(K:aD):List V→Hp→VK→Prop:=fun xs H Q=>∃(p:Addr) (bs:List Bool),xs=[.ref p]∧bU K H p (bs.map V.bl)∧Q (.bl (bs.all id)) H
theorem RO{K:aD}(hc:X.calm=true)(hK:X.K=K:=by rfl):gr X (.builtin "all") (allR K):=by
 intro pins s σ H xs us Q I r h;subst hK;obtain ⟨p,bs,rfl,hq,q⟩:=h;obtain ⟨u,rfl,ru⟩:=vals1 r;cases ru;obtain ⟨aj,rv,pl,hz⟩:=I.list hq;have fB:p≠s.heap.objs.size:=by obtain ⟨o,e,_⟩:=pl.isList;exact dE (bZ e)
 have hl:aj.length=bs.length:=by rw [←rv.length,aR]
 refine call_all_walk (zW pl.isList ?_);refine ⟨s.heap.objs.size,_,_,_,_,_,fun i=>bs.getD i true,rfl,Walks.list (A:=X.A.in1) (show X.A.in1.handled=none from I.ok.hd hc) s.heap.objs.size p fB aj.toArray,⟨⟨_,fm _ rfl,rfl,rfl⟩,pl.isList.push _⟩,fun i v s' Q' E' hv cV=>?_,fun h' tk hk=>?_⟩
 ·have gW:aj[i]?=some v:=by simpa using hv
  cases eb:bs[i]? with
  | none=>
   have:=rv.none_of (i:=i) (by rw [cz,eb];rfl)
   rw [this] at gW;cases gW
  | some b=>
   obtain ⟨u,hu,ru⟩:=rv.get (i:=i) (x:=V.bl b) (by rw [cz,eb];rfl)
   rw [hu] at gW;cases gW;cases ru;have e:bs.getD i true=b:=by rw [jb,eb];rfl
   have ql:Q' (bs.getD i true) s':=cV;rw [e] at ql;exact nH ql
 ·refine ⟨.bl (bs.all id),H,I.kept fun b o e=>hk b o (fun z=>?_) (cL _ e),?_,q⟩
  ·exact absurd (bZ e) (by rw [dj.mp z];exact iM _)
  ·show Value.bool _=Value.bool _
   congr 1
   rw [cY,hl];clear hk q rv pl hz hl hq
   induction bs with
   | nil=>rfl
   | cons b bs ih=>rw [gD,Dy,tU,List.all_map,tU];show (b && (List.range bs.length).all fun i=>bs.getD i true)=(b && bs.all id);rw [ih]
def RP:List V→Hp→VK→Prop:=fun xs H Q=>∃j:Int,xs=[.int j]∧∀p,H p=none→Q (.ref p) (upd H p (.pQ 0 j))
theorem RQ:gr X (.type "range") RP:=by intro pins s σ H xs us Q I r h;obtain ⟨j,rfl,q⟩:=h;obtain ⟨u,rfl,ru⟩:=vals1 r;obtain ⟨t,rfl⟩:=ru;refine call_range_1 ⟨.ref s.heap.objs.size,_,I.laid (o:=.pQ 0 j) (fun b o e=>cL _ e) (aK _) ⟨_,_,_,fm _ rfl⟩,rfl,q _ (I.aG.fresh (aK _))⟩
def ug(n:Nat):List V:=(List.range n).map fun i:Nat=>V.int (i:Int)
def RR:List V→Hp→VK→Prop:=fun xs H Q=>∃p n,xs=[.ref p]∧H p=some (.pQ 0 (n:Nat))∧n≤10000∧∀l,H l=none→Q (.ref l) (upd H l (.lst (ug n)))
theorem RS(hc:X.calm=true):gr X (.type "list") RR:=by
 intro pins s σ H xs us Q I r h;obtain ⟨p,n,rfl,hp,hn,q⟩:=h;obtain ⟨u,rfl,ru⟩:=vals1 r;cases ru;obtain ⟨t,u,v,e⟩:=(show cT X.prog X.w H s.heap p (.pQ 0 n) from I.aG p _ hp);refine call_list_range (n:=n) (I.ok.hd hc) e (small_one (by lia) (by lia) (by lia) (by lia)) (by rw [rangeSize_one];split <;> lia) (by lia) fun h' tk acc c hk hD hit=>?_
 refine ⟨.ref s.heap.objs.size,_,I.laid (o:=.lst (ug n)) (fun b o e=>hk b o e) (aK _) ⟨?_,acc.toList,c,?_,?_⟩,rfl,q _ (I.aG.fresh (aK _))⟩
 ·unfold ug
  rw [aR,cC];exact aH hn (by decide)
 ·refine J2 ?_ fun i x u h1 h2=>?_
  ·unfold ug
   rw [aR,cC,Array.length_toList,hit.1]
  ·have mO:acc[i]?=some u:=by simpa using h2
   obtain ⟨uh,e'⟩:=hit.2 i u mO;unfold ug at h1;rw [cz] at h1;have hi:i<n:=by have z:=(Array.getElem?_eq_some_iff.mp mO).1;rw [hit.1] at z;exact z
   rw [hV hi] at h1;cases h1;exact ⟨uh,by rw [e'];simp⟩
 ·rw [hD]
end
theorem boot_all:bootBuiltins "all"=some (.builtin "all"):=by decide +kernel
theorem RT:bootBuiltins "range"=some (.type "range"):=by decide +kernel
def Et:Expr→Bool
 | .Starred _ _=>false
 | _=>true
variable {e:Expr} {es:List Expr}
theorem RU{env:Env}(h:Et e=true):starEach (e::es) env=(false,eval e env)::starEach es env:=by cases e <;> first | rfl | cases h
theorem e9{X:Cx}{e:Expr}{es:List Expr}{te:TE}{t:TA}(hs:Et e=true)(ha:PE X e te)(hr:PA X es t):PA X (e::es) (qf te t):=
 Qt ha hr (RU hs)
variable {X:Cx} {te:TE}
theorem aa{t:TA}(ha:PE X e te)(hr:PA X es t)(hs:Et e=true:=by rfl):PA X (e::es) (qf te t):=e9 hs ha hr
theorem AY{X:Cx}{pos:Pos}{i:Nat}{x:Str}{e:Expr}{te:TE}{pos':Pos}(hs:swapsWith e (some (.Name x pos')) pos.line X.env=pure false)(hf:X.fn x=true∨X.env.scope.names.lookup x=some .local)(hN:X.N.Nodup)(hi:X.N[i]?=some x)(hx:Loc X.env.scope x)(he:PE X e te) :
  PS X (.Assign [.Name x pos'] e pos) (og te (b6 i)):=PD hN hi hx he hs hf
variable {pos pos':Pos} {x:Str}
theorem putL(i:Nat)(hN:X.N.Nodup)(he:PE X e te)(hs:swapsWith e (some (.Name x pos')) pos.line X.env=pure false:=by rfl)(hi:X.N[i]?=some x:=by rfl)(hx:X.env.scope.names.lookup x=some .local:=by rfl) :
  PS X (.Assign [.Name x pos'] e pos) (og te (b6 i)):=AY hs (.inr hx) hN hi (.inl hx) he
theorem Eu(i:Nat)(hN:X.N.Nodup)(he:PE X e te)(hs:swapsWith e (some (.Name x pos')) pos.line X.env=pure false:=by rfl)(hf:X.fn x=true∨X.env.scope.names.lookup x=some .local:=by first | exact .inl rfl | exact .inr rfl | assumption)(hi:X.N[i]?=some x:=by rfl)(hx:X.env.scope.names.lookup x=some .cell:=by rfl) :
  PS X (.Assign [.Name x pos'] e pos) (og te (b6 i)):=AY hs hf hN hi (.inr hx) he
def RV:V→List V→Hp→VK→Prop:=fun x xs H Q=>∃i:Int,x=.int i∧xs=[]∧Q (.int ((Builtin.Int.intBits i:Nat):Int)) H
theorem RW:Ec X "int.bit_length" RV:=by intro pins s σ H x xs v us Q I rx rv h;obtain ⟨i,rfl,rfl,q⟩:=h;have qi:=rv.zero;subst qi;obtain ⟨t,rfl⟩:=rx;exact call_int_bit_length ⟨.int ((Builtin.Int.intBits i:Nat):Int),H,I.tok _,⟨_,rfl⟩,q⟩
theorem RX(h:eS i):Builtin.Int.intBits i≤2048:=by
 have z:=h.log;unfold Builtin.Int.intBits
 split <;> lia
end L2
namespace My
open PySem L2
theorem Ew(a b:Str):decide (V.str a=V.str b)=decide (a=b):=by
 by_cases h:a=b;·subst h;simp
 ·rw [c_ h];exact c_ fun e=>h (V.str.inj e)
theorem gv(a b:Int):decide (V.int a=V.int b)=decide (a=b):=by
 by_cases h:a=b;·subst h;simp
 ·rw [c_ h];exact c_ fun e=>h (V.int.inj e)
variable {K:aD}
theorem qm{T:String}:PySem.W.kitOne K (.type T) (.type T)=some true:=by unfold PySem.W.kitOne;rw [ar (beq_self_eq_true _)]
variable {H:Hp}
theorem aT{p:Addr}{o:HO}(h:H p=none):af H (upd H p o):=fun b u e=>by rw [aP (jo e h)];exact e
theorem lK(v:V):([(("prime":Str),v)]:List (Str×V)).lookup ("prime":Str)=some v:=by simp [List.lookup]
inductive Any (H:Hp):V→Prop where
 | aU:Any H .aU
 | bl (b:Bool):Any H (.bl b)
 | int (i:Int):Any H (.int i)
 | str (x:Str):Any H (.str x)
 | lst {a:Addr} {xs:List V} (e:H a=some (.lst xs)):Any H (.ref a)
 | tup {a:Addr} {xs:List V} (e:H a=some (.tup xs)):Any H (.ref a)
 | ue {a:Addr} (e:H a=some (JW a)):Any H (.ref a)
def mP:V→Bool
 | .int _=>true
 | _=>false
def mQ:V→Bool
 | .bl _=>true
 | _=>false
def AZ(H:Hp):V→Bool
 | .ref a=>(match H a with | some (.tup _)=>true | _=>false)
 | _=>false
variable {v:V}
theorem Any.AS(h:Any H v):∃T:String,yf K H v (.type T)∧PySem.W.kitOne K (.type T) (.type "int")=some (mP v || mQ v)∧PySem.W.kitOne K (.type T) (.type "bool")=some (mQ v) ∧
  PySem.W.kitOne K (.type T) (.type "tuple")=some (AZ H v):=by
 cases h with
 | aU=>exact ⟨"NoneType",.of .aU,rfl,rfl,rfl⟩
 | bl b=>exact ⟨"bool",.of (.bl b),rfl,rfl,rfl⟩
 | int i=>exact ⟨"int",.of (.int i),rfl,rfl,rfl⟩
 | str x=>exact ⟨"str",.of (.str x),rfl,rfl,rfl⟩
 | lst e=>exact ⟨"list",.of (.lst e),rfl,rfl,by unfold AZ;dsimp only;rw [e];rfl⟩
 | tup e=>exact ⟨"tuple",.of (.tup e),rfl,rfl,by unfold AZ;dsimp only;rw [e];rfl⟩
 | ue e=>exact ⟨"dict",.ue e,rfl,rfl,by unfold AZ;dsimp only;rw [e];rfl⟩
theorem J3(h:mQ v=true):mP v=false:=by cases v <;> first | rfl | cases h
theorem j6{m:Str}(e:(m == ("prime":Str))=false):([(("prime":Str),v)]:List (Str×V)).lookup m=none:=by simp [List.lookup,e]
theorem RY(m n:Nat):Nat.gcd n (m % n)=Nat.gcd m n:=by rw [Nat.gcd_comm n,←Nat.gcd_rec,Nat.gcd_comm]
theorem Ex(a:Int):(if a<0 then -a else a)=(a.natAbs:Int):=by split <;> lia
def lowG(a b:Int):Int:=if b<0 then 0-(Int.gcd a b:Int) else (Int.gcd a b:Int)
variable {a b:Int}
theorem Ey(h:b≠0):0<Int.gcd a b:=pI _ (mw.mpr h)
theorem RZ(h:b≠0)(m:eS b):Int.gcd a b<2 ^ 2048:=jQ (Nat.gcd_le_right _ (mw.mpr h)) m
theorem R0(h:b≠0)(m:eS b):Er 0 (lowG a b):=by
 have h1:=Ey (a:=a) h;have h2:=RZ (a:=a) h m;unfold lowG;refine ⟨by split <;> lia,?_⟩
 unfold eS
 split
 ·rw [show (0-(Int.gcd a b:Int)).natAbs=Int.gcd a b by lia];exact h2
 ·rw [xK];exact h2
theorem eS.of_lt{i:Int}(h1:-(10 ^ 70)<i)(h2:i<10 ^ 70):eS i:=by
 have h3:i.natAbs<2 ^ 240:=by lia
 exact eV h3 (Nat.pow_le_pow_right (by decide) (by decide))
def J4:Sp:=fun vs H Q _=>∃v:V,vs=[v]∧Any H v∧Q (.bl (mP v)) H
def R1:Sp:=fun vs H Q _=>∃a b:Int,vs=[.int a,.int b]∧eS b∧Q (.int (Int.gcd a b:Int)) H
def R3:Sp:=fun vs H Q _=>∃n:Int,vs=[.int n]∧2≤n∧n≤997∧Q (.bl (fA n)) H
def R4:Sp:=fun vs H Q _=>∃(p:Addr) (d:Td),vs=[.ref p]∧H p=some (.tup d.vs)∧Q (.bl d.yg) H
def R5:Sp:=fun vs H Q _=>∃(p:Addr) (d:Td),vs=[.ref p]∧H p=some (.tup d.vs)∧Q (.bl d.jZ) H
def R6(C N:Addr):Sp:=fun vs H Q E=>∃(x dx p:Addr) (d:Td),vs=[.ref x,.ref p]∧H x=some (.ins C dx [])∧H p=some (.tup d.vs) ∧
 (d.good=true→Q .aU (upd H x (.ins C dx [("prime",d.prime)])))∧(d.good=false→E (.ref N) none H)
def eK(C:Addr)(H:Hp)(x:Addr)(q:Int):Prop:=∃dx,H x=some (.ins C dx [("prime",if q=0 then .aU else .int q)])
variable {H':Hp} {q:Int}
theorem eK.mono{C:Addr}{x:Addr}(h:eK C H x q)(s:af H H'):eK C H' x q:=by obtain ⟨dx,e⟩:=h;exact ⟨dx,s _ _ e⟩
def A0(K:aD):Sp:=fun vs H Q _=>∃(a:Addr) (ns:List Int),vs=[.ref a]∧bU K H a (ns.map V.int)∧ns.length≤63∧∀H',Q (.bl true) H'
theorem Ez(xs:List V)(k:Nat):iS xs none (some (k:Int))=xs.take k:=by unfold iS;rw [HT.QE,HT.QF,List.drop_zero,Nat.sub_zero];rw [List.take_eq_take_iff];lia
variable {u:Int}
theorem uj{v:Int}(hu:0<u)(h:0<u*v):0<v:=by
 by_cases z:0<v;·exact z
 ·have y:=tW (show v≤0 by lia) (show 0≤u by lia)
  rw [gE] at y;lia
theorem oC(h:∀d:Nat,(d:Int)∣a→(d:Int)∣b→d=1):Int.gcd a b=1:=h _ (kq ..) (jR ..)
variable {d:Nat}
theorem oE(h:Int.gcd a b=1)(h1:(d:Int)∣a)(h2:(d:Int)∣b):d=1:=by have z:(d:Int)∣((Int.gcd a b:Nat):Int):=Int.dvd_coe_gcd h1 h2;rw [h] at z;exact Nat.dvd_one.mp (Int.natCast_dvd_natCast.mp z)
variable {c:Int}
theorem qo(h:Int.gcd b c=1)(h1:(d:Int)∣b)(h2:(d:Int)∣a*c):(d:Int)∣a:=by
 have hc:Nat.Coprime d c.natAbs:=by have z:Nat.Coprime b.natAbs c.natAbs:=h;exact Nat.Coprime.coprime_dvd_left (Int.ofNat_dvd_left.mp h1) z
 have z:d∣a.natAbs*c.natAbs:=by rw [←fH];exact Int.ofNat_dvd_left.mp h2
 exact Int.ofNat_dvd_left.mpr (hc.dvd_of_dvd_mul_right z)
theorem um(h1:Int.gcd a b=1)(h2:Int.gcd a c=1):Int.gcd a (b*c)=1:=by refine oC fun d x y=>?_;exact oE h1 x (qo (a:=b) (b:=a) (c:=c) h2 x y)
theorem iB(h:Int.gcd a b=1):Int.gcd b a=1:=by rw [Int.gcd_comm];exact h
theorem uo(h:Int.gcd a b=1)(h1:c∣a):Int.gcd c b=1:=oC fun d x y=>oE h (kr x h1) y
theorem yo(h:b≠0):Int.gcd (a / (Int.gcd a b:Int)) (b / (Int.gcd a b:Int))=1:=by have z:0<Int.gcd a b:=pI _ (mw.mpr h);exact Int.gcd_ediv_gcd_ediv_gcd z
structure cj (x m:Int):Prop where
 pos:1≤m
 f9:Int.gcd x m=1
variable {x m y n:Int}
theorem R7(a:cj x m)(b:cj y n) :
  cj ((x / (Int.gcd x n:Int))*(y / (Int.gcd y m:Int))) ((m / (Int.gcd y m:Int))*(n / (Int.gcd x n:Int))) ∧
   (x / (Int.gcd x n:Int))*(y / (Int.gcd y m:Int))*(m*n)=x*y*((m / (Int.gcd y m:Int))*(n / (Int.gcd x n:Int))):=by
 have m0:=a.pos;have n0:=b.pos;have p1:0<Int.gcd x n:=pI _ (mw.mpr (by lia))
 have p2:0<Int.gcd y m:=pI _ (mw.mpr (by lia))
 have c1:=yo (a:=x) (b:=n) (by lia)
 have c2:=yo (a:=y) (b:=m) (by lia)
 obtain ⟨x',ex⟩:=kq (a:=x) (b:=n);obtain ⟨n',en⟩:=jR (a:=x) (b:=n);obtain ⟨y',ey⟩:=kq (a:=y) (b:=m);obtain ⟨m',em⟩:=jR (a:=y) (b:=m);have ac:=a.f9;have bc:=b.f9;generalize Int.gcd x n=g at *;generalize Int.gcd y m=k at *;have g0:(g:Int)≠0:=by lia
 have k0:(k:Int)≠0:=by lia
 have gx:x / (g:Int)=x':=by rw [ex];exact jc _ g0
 have gn:n / (g:Int)=n':=by rw [en];exact jc _ g0
 have gy:y / (k:Int)=y':=by rw [ey];exact jc _ k0
 have gm:m / (k:Int)=m':=by rw [em];exact jc _ k0
 rw [gx,gn] at c1;rw [gy,gm] at c2;rw [gx,gn,gy,gm];have mp:0<m':=by
  have z:0<(k:Int)*m':=by rw [←em];lia
  exact uj (by lia) z
 have np:0<n':=by
  have z:0<(g:Int)*n':=by rw [←en];lia
  exact uj (by lia) z
 have xm:Int.gcd x' m'=1:=uo (iB (uo (iB ac) ⟨k,by rw [em,dX]⟩)) ⟨g,by rw [ex,dX]⟩
 have yn:Int.gcd y' n'=1:=uo (iB (uo (iB bc) ⟨g,by rw [en,dX]⟩)) ⟨k,by rw [ey,dX]⟩
 refine ⟨⟨nM mp np,?_⟩,?_⟩;·exact um (iB (um (iB xm) (iB c2))) (iB (um (iB c1) (iB yn)))
 ·rw [ex,en,ey,em]
  simp only [k7,dX,z6]
theorem R8(a:cj x m)(b:cj y n)(h:Int.gcd m n=1):cj (x*n+y*m) (m*n):=by
 have m0:=a.pos;have n0:=b.pos;refine ⟨nM (by lia) (by lia),um (oC fun d h1 h2=>?_) (oC fun d h1 h2=>?_)⟩
 ·have z:(d:Int)∣x*n:=(Int.dvd_add_left (kr h2 (z7 ..))).mp h1
  exact oE a.f9 (qo h h2 z) h2
 ·have z:(d:Int)∣y*m:=(Int.dvd_add_right (kr h2 (z7 ..))).mp h1
  exact oE b.f9 (qo (iB h) h2 z) h2
theorem R9(a:cj x m)(b:cj y n)(g k:Nat)(eg:g=Int.gcd m n)(top:Int)(et:top=x*(n / (g:Int))+y*(m / (g:Int)))(ek:k=Int.gcd top (g:Int)) :
  cj (top / (k:Int)) (m / (g:Int)*(n / (k:Int)))∧top / (k:Int)*(m*n)=(x*n+y*m)*(m / (g:Int)*(n / (k:Int))):=by
 have m0:=a.pos
 have n0:=b.pos
 have gp:0<g:=by rw [eg];exact pI _ (mw.mpr (by lia))
 have kp:0<k:=by rw [ek];exact pI _ (mw.mpr (by lia))
 have c1:=yo (a:=m) (b:=n) (by lia)
 have c2:=yo (a:=top) (b:=(g:Int)) (by lia)
 rw [←eg] at c1
 rw [←ek] at c2
 obtain ⟨m',em⟩:=kq (a:=m) (b:=n)
 obtain ⟨n',en⟩:=jR (a:=m) (b:=n)
 obtain ⟨t',e1⟩:=kq (a:=top) (b:=(g:Int))
 obtain ⟨g',e2⟩:=jR (a:=top) (b:=(g:Int))
 rw [←eg] at em en
 rw [←ek] at e1 e2
 have g0:(g:Int)≠0:=by lia
 have k0:(k:Int)≠0:=by lia
 have dm:m / (g:Int)=m':=by rw [em];exact jc _ g0
 have dn:n / (g:Int)=n':=by rw [en];exact jc _ g0
 have dt:top / (k:Int)=t':=by rw [e1];exact jc _ k0
 have dg:(g:Int) / (k:Int)=g':=by rw [e2];exact jc _ k0
 have dk:n / (k:Int)=g'*n':=by rw [en,e2,k7];exact jc _ k0
 rw [dm,dn] at c1 et
 rw [dt,dg] at c2
 rw [dt,dm,dk]
 have pos:∀{u v:Int},0<u→0<u*v→0<v:=fun hu hz=>uj hu hz
 have mp:0<m':=pos (u:=(g:Int)) (by lia) (by rw [←em];lia)
 have np:0<n':=pos (u:=(g:Int)) (by lia) (by rw [←en];lia)
 have R_:0<g':=pos (u:=(k:Int)) (by lia) (by rw [←e2];lia)
 have tm:Int.gcd top m'=1:=oC fun d h1 h2=>by
  rw [et] at h1
  have z:(d:Int)∣x*n':=(Int.dvd_add_left (kr h2 (z7 ..))).mp h1
  exact oE a.f9 (qo c1 h2 z) (kr h2 ⟨g,by rw [em,dX]⟩)
 have tn:Int.gcd top n'=1:=oC fun d h1 h2=>by
  rw [et] at h1
  have z:(d:Int)∣y*m':=(Int.dvd_add_right (kr h2 (z7 ..))).mp h1
  exact oE b.f9 (qo (iB c1) h2 z) (kr h2 ⟨g,by rw [en,dX]⟩)
 have tt:t'∣top:=⟨k,by rw [e1,dX]⟩
 refine ⟨⟨nM mp (nM R_ np),um (uo tm tt) (um c2 (uo tn tt))⟩,?_⟩
 have q:(k:Int)*t'=x*n'+y*m':=by rw [←e1,et]
 have l:t'*(m*n)=(k:Int)*t'*(m'*(g'*n')*(g:Int)):=by
  rw [em,en]
  conv=>lhs;rw [show (g:Int)*n'=(k:Int)*g'*n' by rw [←e2]]
  simp only [k7,dX,z6]
 rw [l,q,em,en]
 simp only [Int.add_mul,k7,dX,z6]
def b8(x:Int):Prop:=x.natAbs≤10 ^ 300
theorem Sa:(10:Nat) ^ 300<2 ^ 2048:=by decide +kernel
theorem b8.mid(h:b8 x):eS x:=jQ h Sa
theorem b8.over{g:Int}(h:b8 x):b8 (x / g):=aH (DC x g) h
theorem b8.neg(h:b8 x):b8 (-x):=by unfold b8;rw [mB];exact h
theorem b8.gcd(h:b8 y)(z:y≠0):b8 (Int.gcd x y:Int):=by unfold b8;rw [xK];exact aH (Nat.gcd_le_right _ (mw.mpr z)) h
theorem A1(z:y≠0):(0:Int)<(Int.gcd x y:Int):=by have:=Ey (a:=x) z;lia
def Sb:Sp:=fun vs H Q _=>∃(p q:Addr) (x m y n:Int),vs=[.ref p,.ref q]∧H p=some (.tup [.int x,.int m])∧H q=some (.tup [.int y,.int n])∧cj x m∧cj y n∧b8 x∧b8 m∧b8 y∧b8 n ∧
 ∀(r:Addr) (H':Hp) (u d:Int),af H H'→H' r=some (.tup [.int u,.int d])→cj u d→u*(m*n)=(x*n+y*m)*d→Q (.ref r) H'
def Sd:Sp:=fun vs H Q _=>∃(p q:Addr) (x m y n:Int),vs=[.ref p,.ref q]∧H p=some (.tup [.int x,.int m])∧H q=some (.tup [.int y,.int n])∧cj x m∧cj y n∧b8 x∧b8 m∧b8 y∧b8 n ∧
 ∀(r:Addr) (H':Hp) (u d:Int),af H H'→H' r=some (.tup [.int u,.int d])→cj u d→u*(m*n)=(x*n-y*m)*d→Q (.ref r) H'
def Se:Sp:=fun vs H Q _=>∃(p q:Addr) (x m y n:Int),vs=[.ref p,.ref q]∧H p=some (.tup [.int x,.int m])∧H q=some (.tup [.int y,.int n])∧cj x m∧cj y n∧b8 x∧b8 m∧b8 y∧b8 n ∧
 ∀(r:Addr) (H':Hp) (u d:Int),af H H'→H' r=some (.tup [.int u,.int d])→cj u d→u*(m*n)=x*y*d→Q (.ref r) H'
theorem cj.neg(h:cj x m):cj (-x) m:=⟨h.pos,by rw [Int.neg_gcd];exact h.f9⟩
def kK(C:Addr)(fr:Int→Int→Int→Int→Int)(rm:Int→Int→Int):Sp:=fun vs H Q _=>∃(z:Addr) (q:Int) (v u:V),vs=[.ref z,v,u]∧eK C H z q ∧
  ((q=0∧∃(p r:Addr) (x m y n:Int),v=.ref p∧u=.ref r∧H p=some (.tup [.int x,.int m])∧H r=some (.tup [.int y,.int n])∧cj x m∧cj y n∧b8 x∧b8 m∧b8 y∧b8 n ∧
    ∀(r':Addr) (H':Hp) (a d:Int),af H H'→H' r'=some (.tup [.int a,.int d])→cj a d→a*(m*n)=fr x m y n*d→Q (.ref r') H') ∨
   (2≤q∧∃i j:Int,v=.int i∧u=.int j∧0≤i∧i<1000∧Q (.int (rm i j % q)) H))
def a9(p:Int):Prop:=p=0∨(2≤p∧p≤997∧fA p=true)
inductive a_ (B:Nat) (H:Hp):Int→V→Int→Int→Prop where
 | ba {p:Addr} {x m:Int} (e:H p=some (.tup [.int x,.int m])) (l:cj x m) (bx:x.natAbs≤B) (bm:m.natAbs≤B):a_ B H 0 (.ref p) x m
 | rem {q i:Int} (h0:0≤i) (h1:i<q) (h2:q≤997):a_ B H q (.int i) i 1
theorem a_.mono{B:Nat}(h:a_ B H q v x m)(s:af H H'):a_ B H' q v x m:=by
 cases h with
 | ba e l bx bm=>exact .ba (s _ _ e) l bx bm
 | rem h0 h1 h2=>exact .rem h0 h1 h2
theorem ur{d T B:Int}(l:cj u d)(hB:0<B)(e:u*B=T*d):d≤B∧u.natAbs≤T.natAbs:=by
 have h0:=l.pos;have hd:d∣B:=by
  have z:((d.natAbs:Nat):Int)∣B:=qo (a:=B) (b:=d) (c:=u) (iB l.f9) (Int.natAbs_dvd.mpr (jd d)) ⟨T*(d / (d.natAbs:Int)),by
   have q:(d.natAbs:Int)=d:=by lia
   rw [q,Int.ediv_self (by lia),fS,dX B u,e,dX]⟩
  exact Int.natAbs_dvd.mp z
 have hle:=Int.le_of_dvd hB hd;refine ⟨hle,?_⟩;have z:u.natAbs*B.natAbs=T.natAbs*d.natAbs:=by rw [←fH,e,fH]
 have z2:T.natAbs*d.natAbs≤T.natAbs*B.natAbs:=z8 _ (by lia)
 rw [←z] at z2;exact Nat.le_of_mul_le_mul_right z2 (by lia)
theorem EA(h1:2≤q)(h2:q≤997)(hp:fA q=true)(b1:1≤b)(b2:b<q):Int.gcd q b=1:=by
 have gp:0<Int.gcd q b:=pI _ (mw.mpr (by lia))
 by_cases g1:Int.gcd q b=1;·exact g1
 exfalso
 obtain ⟨k,ek⟩:=kq (a:=q) (b:=b);have hb:=Int.le_of_dvd (by lia) (jR (a:=q) (b:=b))
 generalize Int.gcd q b=g at *;have kp:0<k:=uj (u:=(g:Int)) (by lia) (by rw [←ek];lia)
 have k2:k≠1:=fun z=>by rw [z,fS] at ek;lia
 have no:∀d:Int,2≤d→d*d≤q→q % d=0→False:=fun d x y z=>by rw [JY h2 x y z] at hp;cases hp
 by_cases c:(g:Int)≤k;·exact no g (by lia) (by rw [ek];exact tW c (by lia)) (by rw [ek];exact Int.mul_emod_right ..)
 ·exact no k (by lia) (by rw [ek];exact Int.mul_le_mul_of_nonneg_right (by lia) (by lia)) (by rw [ek];exact Int.mul_emod_left ..)
structure mT (q b last lt now nt:Int):Prop where
 l:∃s,last=lt*b+s*q
 n:∃s,now=nt*b+s*q
 f9:Int.gcd last now=1
 pos:1≤now
 less:now≤last
variable {last nt:Int}
theorem mT.step{lt now:Int}(h:mT q b last lt now nt)(h1:1<now):mT q b now nt (last-last / now*now) (lt-last / now*nt)∧last-last / now*now<now:=by
 obtain ⟨⟨s,es⟩,⟨r,er⟩,c,p,le⟩:=h;have e:last-last / now*now=last % now:=by have z:=DD last now;rw [dX] at z;lia
 have lt1:=fT last (show 0<now by lia)
 have ge:=fI last (show now≠0 by lia)
 have c':Int.gcd now (last % now)=1:=oC fun d x y=>oE c (by have z:=DD last now;rw [←z];exact tX y (kr x (Int.dvd_mul_right ..))) x
 have nz:last % now≠0:=fun z=>by rw [z,Int.gcd_zero_right] at c';lia
 refine ⟨⟨⟨r,er⟩,⟨s-last / now*r,?_⟩,by rw [e];exact c',by lia,by lia⟩,by lia⟩
 generalize last / now=f;rw [es,er,Int.sub_mul,Int.sub_mul,Int.mul_add,k7,k7];lia
theorem mT.done{lt:Int}(h:mT q b last lt 1 nt)(hq:2≤q):(nt % q*b) % q=1:=by
 obtain ⟨s,e⟩:=h.n;have z:nt*b=1+(-s)*q:=by rw [tY];lia
 have y:nt % q*b % q=nt*b % q:=by rw [xM (nt % q) b,Int.emod_emod,←xM]
 rw [y,z,Int.add_mul_emod_self_right];exact pJ (by lia) (by lia)
theorem mT.start(h1:2≤q)(h2:q≤997)(hp:fA q=true)(b1:1≤b)(b2:b<q):mT q b q 0 b 1:=
 ⟨⟨1,by lia⟩,⟨0,by lia⟩,EA h1 h2 hp b1 b2,b1,by lia⟩
end My
namespace L2
open PySem PySem.Spec PyProof.Rows
def J5(K:aD):R2:=fun x y H Q=>(∃a xs i,x=.ref a∧y=.int i∧eC K H a xs∧Q (.bl false) H)∨(∃a xs i,x=.int i∧y=.ref a∧eC K H a xs∧Q (.bl false) H)∨AU K false x y H Q∨Jc x y H Q
theorem EB{X:Cx}(hu:X.A.units<cLine):cg X (compareOp .Eq) (J5 X.K):=by
 intro pins s σ H x y v u Q I rx ry h;rcases h with ⟨a,xs,i,rfl,rfl,h1,q⟩ | ⟨a,xs,i,rfl,rfl,h1,q⟩ | h | h
 ·cases rx
  obtain ⟨t,rfl⟩:=ry;obtain ⟨us,r1,t1,_⟩:=I.tuple h1;exact SeqAt.RcAt.tuple_int i t t1 hu _ _ _ _ ⟨.bl false,H,I,rfl,q⟩
 ·cases ry
  obtain ⟨t,rfl⟩:=rx;obtain ⟨us,r1,t1,_⟩:=I.tuple h1;exact SeqAt.RcAt.int_tuple i t t1 hu _ _ _ _ ⟨.bl false,H,I,rfl,q⟩
 ·exact RJ hu pins s σ H x y v u Q I rx ry h
 ·exact dU pins s σ H x y v u Q I rx ry h
end L2
namespace My
open PySem L2
def Sf(N:Addr):Sp:=fun vs H Q E=>∃q b:Int,vs=[.int q,.int b]∧2≤q∧q≤997∧fA q=true∧0≤b∧b<q∧(b=0→E (.ref N) none H)∧(b≠0→∀r:Int,0≤r→r<q→(r*b) % q=1→Q (.int r) H)
def Sg(N:Addr):Sp:=fun vs H Q E=>∃(p q:Addr) (x m y n:Int),vs=[.ref p,.ref q]∧H p=some (.tup [.int x,.int m])∧H q=some (.tup [.int y,.int n])∧cj x m∧cj y n∧b8 x∧b8 m∧b8 y∧b8 n ∧
 (y=0→E (.ref N) none H)∧(y≠0→∀(r:Addr) (H':Hp) (u d:Int),af H H'→H' r=some (.tup [.int u,.int d])→cj u d→u*(m*y)=x*n*d→Q (.ref r) H')
def Sh(N:Addr):Sp:=fun vs H Q E=>∃q i j:Int,vs=[.int q,.int i,.int j]∧2≤q∧q≤997∧fA q=true∧0≤i∧i<q∧0≤j∧j<q∧(j=0→E (.ref N) none H)∧(j≠0→∀r:Int,0≤r→r<q→(r*j) % q=i→Q (.int r) H)
variable {y n:Int}
theorem Si(l:cj y n)(h:0<y):cj n y:=⟨h,iB l.f9⟩
theorem Sj(l:cj y n)(h:y<0):cj (-n) (-y):=⟨by lia,by rw [Int.neg_gcd,Int.gcd_neg];exact iB l.f9⟩
theorem Sk{q i j r:Int}(hq:2≤q)(i0:0≤i)(i1:i<q)(h:(r*j) % q=1):(i*r % q*j) % q=i:=by
 have y:i*r % q*j % q=i*(r*j) % q:=by rw [xM (i*r % q) j,Int.emod_emod,←xM,k7]
 rw [y,xM,h,pJ i0 i1,fS,pJ i0 i1]
def A2(C N:Addr):Sp:=fun vs H Q E=>∃(z:Addr) (q:Int) (v u:V),vs=[.ref z,v,u]∧eK C H z q ∧
  ((q=0∧∃(p r:Addr) (x m y n:Int),v=.ref p∧u=.ref r∧H p=some (.tup [.int x,.int m])∧H r=some (.tup [.int y,.int n])∧cj x m∧cj y n∧b8 x∧b8 m∧b8 y∧b8 n ∧
    (y=0→E (.ref N) none H)∧(y≠0→∀(r':Addr) (H':Hp) (a d:Int),af H H'→H' r'=some (.tup [.int a,.int d])→cj a d→a*(m*y)=x*n*d→Q (.ref r') H')) ∨
   (2≤q∧∃i j:Int,v=.int i∧u=.int j∧q≤997∧fA q=true∧0≤i∧i<q∧0≤j∧j<q∧(j=0→E (.ref N) none H)∧(j≠0→∀r:Int,0≤r→r<q→(r*j) % q=i→Q (.int r) H)))
end My
namespace L2
open PySem PySem.Spec PyProof.Rows
structure jA (K:aD) (x qual:Str) (st:Stmt) (i:Int) (f:Addr) (fd:FuncData):Prop where
 ex:∃(oc:Value) (od:Option Addr) (kV doc pm:Value) (an:Option Addr) (bf ct:Value) (fX:Array (Option Value)) (dT:Addr) (tk:Tok) (oF:Value) (lL:Option Addr) (n:Nat) (oG:Array (Option Value)),
  fd=PySem.W.fnOf x qual (jx st) (gs st) (aM st) (.ref dT) kV doc pm an bf ct∧K.lookup f=some ⟨oc,od,.func fd,fX⟩∧PySem.W.codeIn K bf qual=true∧K.lookup dT=some ⟨oF,lL,.seq #[.int i tk] n,oG⟩
 kp:PySem.W.keepIn K (.ref f)=true
section
variable {P:Program} {w:World} {K:aD} {mg:dc} {base:Heap}
variable {x qual:Str} {st:Stmt} {i:Int} {f:Addr} {fd:FuncData} {ps:List Str}
theorem jA.Em{N:List Str}{k:Nat}{sp:Sp}(F:jA K x qual st i f fd)(S:a8 N ps (aM st))(len:∀vs H Q E,sp vs H Q E→vs.length=ps.length)
  (kD:∀(bf:Value) (A:Around) (outer:List Env) (s:Shared) (H:Hp) (vs:List V) (Q:VK) (E:XK),de k (A.deeper (envOfC qual (aM st) s.heap.objs.size f bf))→sp vs H Q E→
   uc (jv (dW P w) P w K mg base N qual (aM st) f bf A outer s H E) E→
   ∃t,eP (jv (dW P w) P w K mg base N qual (aM st) f bf A outer s H E) (gs st) t∧t {nx:=fun _ H'=>Q .aU H',rt:=Q} (start N vs) H):aY P w K mg base (dW P w) (k+1) f fd ps sp:=by
 obtain ⟨oc,od,kV,doc,pm,an,bf,ct,fX,dT,tk,oF,lL,n,oG,rfl,lk,fV,ld⟩:=F.ex;exact Eb lk fV S len fun A outer s H vs Q E hr jY=>kD bf A outer s H vs Q E hr jY ⟨rfl,rfl,rfl,rfl⟩
theorem A3{dT:Addr}{oc:Value}{od an:Option Addr}{fX:Array (Option Value)}{kV doc pm bf ct:Value}{tk:Tok}{oF:Value}{lL:Option Addr}{n:Nat}{oG:Array (Option Value)}
  (l:K.lookup f=some ⟨oc,od,.func (PySem.W.fnOf x qual (jx st) (gs st) (aM st) (.ref dT) kV doc pm an bf ct),fX⟩)
  (c:PySem.W.codeIn K bf qual=true) (k:PySem.W.keepIn K (.ref f)=true) (ld:K.lookup dT=some ⟨oF,lL,.seq #[.int i tk] n,oG⟩):jA K x qual st i f (PySem.W.fnOf x qual (jx st) (gs st) (aM st) (.ref dT) kV doc pm an bf ct):=
 ⟨⟨oc,od,kV,doc,pm,an,bf,ct,fX,dT,tk,oF,lL,n,oG,rfl,l,c,ld⟩,k⟩
theorem jA.binds(F:jA K x qual st i f fd)
  (h:∀(s:Shared) (dT:Addr) (kV doc pm:Value) (an:Option Addr) (bf ct:Value) (tk:Tok) (o:Obj) (n:Nat) (us:List Value),s.heap.get? dT=some o→o.data=.seq #[.int i tk] n→us.length=ps.length→
   BindsTo s (PySem.W.fnOf x qual (jx st) (gs st) (aM st) (.ref dT) kV doc pm an bf ct) ⟨us,[]⟩ (ps.zip us)):Binds K fd ps []:=by
 obtain ⟨oc,od,kV,doc,pm,an,bf,ct,fX,dT,tk,oF,lL,n,oG,rfl,lk,fV,ld⟩:=F.ex;intro s us X hl;rw [tT] at hl ⊢;exact h s dT kV doc pm an bf ct tk _ n us (X _ _ ld) rfl hl
theorem jA.Sl(F:jA K x qual st i f fd)
  (h:∀(s:Shared) (dT:Addr) (kV doc pm:Value) (an:Option Addr) (bf ct:Value) (tk:Tok) (o:Obj) (n:Nat) (us:List Value),s.heap.get? dT=some o→o.data=.seq #[.int i tk] n→us.length+1=ps.length→
   BindsTo s (PySem.W.fnOf x qual (jx st) (gs st) (aM st) (.ref dT) kV doc pm an bf ct) ⟨us,[]⟩ (ps.zip (us++[.int i tk]))):∃v,Vals [V.int i] [v]∧Binds K fd ps [v]:=by
 obtain ⟨oc,od,kV,doc,pm,an,bf,ct,fX,dT,tk,oF,lL,n,oG,rfl,lk,fV,ld⟩:=F.ex;refine ⟨.int i tk,.cons ⟨tk,rfl⟩ .nil,fun s us X hl=>?_⟩;exact h s dT kV doc pm an bf ct tk _ n us (X _ _ ld) rfl (by simpa using hl)
theorem jA.Sm{y:Str}(F:jA K x qual st i f fd)
  (h:∀(s:Shared) (dT:Addr) (kV doc pm:Value) (an:Option Addr) (bf ct:Value) (tk:Tok) (o:Obj) (n:Nat) (us ws:List Value),s.heap.get? dT=some o→o.data=.seq #[.int i tk] n→ws.length=1→us.length+1=ps.length→
   BindsTo s (PySem.W.fnOf x qual (jx st) (gs st) (aM st) (.ref dT) kV doc pm an bf ct) ⟨us,[y].zip ws⟩ (ps.zip (us++ws))) :
  ∀(s:Shared) (us ws:List Value),K.In s.heap→ws.length=1→us.length+1=ps.length→BindsTo s fd ⟨us,[y].zip ws⟩ (ps.zip (us++ws)):=by
 obtain ⟨oc,od,kV,doc,pm,an,bf,ct,fX,dT,tk,oF,lL,n,oG,rfl,lk,fV,ld⟩:=F.ex;intro s us ws X hw hl;exact h s dT kV doc pm an bf ct tk _ n us ws (X _ _ ld) rfl hw hl
end
section
variable {X:Cx} {CX:iw} {k:Nat} {f C:Addr} {fd:FuncData} {ps:List Str} {y:Str} {sp:Sp} {E:XK} {m:Str} {pos apos Ju:Pos} {e e' o:Expr} {ta:TE} {t tk:TA}
def A4(K:aD):R2:=fun x y H Q=>AU K true x y H Q∨Jd x y H Q
theorem A5(hu:X.A.units<cLine):cg X (compareOp .NotEq) (A4 X.K):=by
 intro pins s σ H x y v u Q I rx ry h;rcases h with h | h;·exact RK hu pins s σ H x y v u Q I rx ry h
 ·exact gI pins s σ H x y v u Q I rx ry h
end
end L2
namespace My
open PySem L2
def lM(a b:Int):Int:=a.fdiv (lowG a b)
def lN(a b:Int):Int:=b.fdiv (lowG a b)
variable {a b:Int}
theorem Sn(hb:b≠0):cj (lM a b) (lN a b)∧lM a b*b=a*lN a b∧(lM a b).natAbs≤a.natAbs∧(lN a b).natAbs≤b.natAbs:=by
 have gp:=Ey (a:=a) hb;have c:=yo (a:=a) hb;obtain ⟨a',ea⟩:=kq (a:=a) (b:=b);obtain ⟨b',eb⟩:=jR (a:=a) (b:=b);unfold lM lN lowG;generalize Int.gcd a b=g at *;have g0:(g:Int)≠0:=by lia
 have ga:a / (g:Int)=a':=by rw [ea];exact jc _ g0
 have gb:b / (g:Int)=b':=by rw [eb];exact jc _ g0
 rw [ga,gb] at c;have la:a'.natAbs≤a.natAbs:=by rw [←ga];exact DC ..
 have lb:b'.natAbs≤b.natAbs:=by rw [←gb];exact DC ..
 have cr:a'*b=a*b':=by rw [ea,eb];simp only [k7,dX,z6]
 by_cases h:b<0
 ·have d1:(0-(g:Int))∣a:=⟨-a',by rw [ea,pK,Int.neg_mul_neg]⟩
  have d2:(0-(g:Int))∣b:=⟨-b',by rw [eb,pK,Int.neg_mul_neg]⟩
  rw [ar h,z9 d1,z9 d2,pK,Int.ediv_neg,Int.ediv_neg,ga,gb];refine ⟨⟨?_,by rw [Int.neg_gcd,Int.gcd_neg];exact c⟩,?_,?_,?_⟩
  ·have z:0 < -b':=uj (u:=(g:Int)) (by lia) (by rw [k8,←eb];lia)
   lia
  ·rw [tY,k8,cr]
  ·rw [mB];exact la
  ·rw [mB];exact lb
 ·rw [ao h,z9 ⟨a',ea⟩,z9 ⟨b',eb⟩,ga,gb]
  have z:0<b':=uj (u:=(g:Int)) (by lia) (by rw [←eb];lia)
  exact ⟨⟨by lia,c⟩,cr,la,lb⟩
theorem J6(a:Int):lM a 1=a∧lN a 1=1:=by
 unfold lM lN lowG;rw [Int.gcd_one_right,ao (by decide)]
 exact ⟨Int.fdiv_one a,Int.fdiv_one 1⟩
def So(N:Addr):Sp:=fun vs H Q E=>∃a b:Int,vs=[.int a,.int b]∧eS b∧(b=0→E (.ref N) none H)∧(b≠0→∀(r:Addr) (H':Hp),af H H'→H' r=some (.tup [.int (lM a b),.int (lN a b)])→Q (.ref r) H')
def oH(q b:Int):Prop:=if q=0 then b=0 else b % q=0
def yq(H:Hp)(q:Int)(v:V)(a b:Int):Prop:=
 (q=0∧∃r:Addr,v=.ref r∧H r=some (.tup [.int (lM a b),.int (lN a b)]))∨(2≤q∧∃r:Int,v=.int r∧0≤r∧r<q∧(r*(b % q)) % q=a % q)
theorem yq.mono{H H':Hp}{q:Int}{v:V}(h:yq H q v a b)(s:af H H'):yq H' q v a b:=by
 rcases h with ⟨h,r,e,h2⟩ | h;·exact .inl ⟨h,r,e,s _ _ h2⟩
 ·exact .inr h
def Sq(C N:Addr):Sp:=fun vs H Q E=>∃(z:Addr) (q a b:Int),vs=[.ref z,.int a,.int b]∧eK C H z q∧a9 q∧eS b ∧
 (oH q b→E (.ref N) none H)∧(¬oH q b→∀(v:V) (H':Hp),af H H'→yq H' q v a b→Q v H')
end My
namespace L2
open PySem PySem.Spec PyProof.Rows
section
variable {X:Cx}
end
end L2
namespace My
open PySem L2
variable {a c:Int}
theorem J7{b:Int}(h:c≠0)(e:a*c=b*c):a=b:=DE h e
variable {q:Int}
theorem Sr{t:Int}(h:Int.gcd q c=1)(d:q∣c-t):Int.gcd q t=1:=by
 refine oC fun e h1 h2=>oE h h1 ?_;have z:=tX (kr h1 d) h2;rw [show c-t+t=c by lia] at z
 exact z
theorem Ss(q2:2≤q)(g:Int.gcd q c=1)(d:q∣a*c):q∣a:=by
 have qq:((q.natAbs:Nat):Int)=q:=by lia
 have z:=qo (a:=a) (b:=q) (c:=c) (d:=q.natAbs) g (by rw [qq];exact jd q) (by rw [qq];exact d)
 rw [qq] at z;exact z
theorem Su(a q:Int):∃w,a % q+q*w=a:=⟨a / q,DD a q⟩
section
variable {C N z:Addr} {q:Int} {v u:V} {t b t' b':Int} {H:Hp} {Q:VK} {E:XK}
theorem Sv{u d u' d':Int}(l:cj u d)(l':cj u' d')(e:u*d'=u'*d):u=u'∧d=d':=by
 have h1:=l.pos;have h2:=l'.pos;have a:=(ur l (show 0<d' by lia) e).1
 have c:=(ur l' (show 0<d by lia) e.symm).1
 have dd:d=d':=by lia
 subst dd;exact ⟨J7 (show d≠0 by lia) e,rfl⟩
theorem Sx(x m:Int):g7 [V.int x,V.int m] [V.int x,V.int m]=true:=by show ((x == x) && ((m == m) && true))=true;simp
end
theorem a_.bR{B:Nat}{H H':Hp}{v:V}{x m:Int}{D:Addr}{ys:List V}(h:a_ B H q v x m)(eD:H D=some (.lst ys))(k:∀b o,b≠D→H b=some o→H' b=some o):a_ B H' q v x m:=by
 cases h with
 | ba e l bx bm=>refine .ba (k _ _ (fun z=>?_) e) l bx bm;rw [z,eD] at e;cases e
 | rem h0 h1 h2=>exact .rem h0 h1 h2
end My
namespace L2
open PySem PySem.Spec PyProof.Rows
structure oI (J:It) (xs:List V) (H1:Hp):Prop where
 go:∀i Hc,af H1 Hc→i<xs.length→J.go i Hc
 gk:∀i Hc x H',af H1 Hc→J.gk i Hc x H'→H'=Hc∧(i<xs.length→xs[i]?=some x)
 stop:∀i Hc,af H1 Hc→xs.length≤i→J.stop i Hc
variable {xs:List V} {H1:Hp}
theorem j7{K:aD}{a:Addr}(h:bU K H1 a xs):oI (t9 K a) xs H1 where
 go:=fun i Hc s hi=>⟨xs,xs[i],s.seq h,by simp [hi]⟩
 gk:=fun i Hc x H' s y=>⟨y.1,fun _=>y.2 xs (s.seq h)⟩
 stop:=fun i Hc s hi=>⟨xs,s.seq h,hi⟩
theorem uu{lo:Int}{n:Nat}:oI (mH lo n) ((List.range n).map fun i:Nat=>V.int (lo+(i:Int))) H1 where
 go:=fun i Hc s hi=>by
  have hi:i<n:=by simpa using hi
  exact hi
 gk:=fun i Hc x H' s y=>⟨y.1,fun hi=>by
  have hi:i<n:=by simpa using hi
  rw [y.2];simp [hi]⟩
 stop:=fun i Hc s hi=>by
  have hi:n≤i:=by simpa using hi
  exact hi
variable {H:Hp} {D:Addr}
theorem iC{H':Hp}{o:HO}(s:af H H')(n:H D=none):af H (upd H' D o):=fun b u e=>by rw [aP (jo e n)];exact s b u e
variable {te:TE} {Q:VK}
theorem J8{J:It}{ρσ:St}(js:oI J xs H1)(nD:H1 D=none)(hn:xs.length<sizeLine)
  (P:Nat→V→Hp→Prop) (mono:∀i y H H' ys,P i y H→H D=some (.lst ys)→(∀b o,b≠D→H b=some o→H' b=some o)→P i y H')
  (step:∀i x,xs[i]?=some x→∀(Hc:Hp) (R:VK),af H1 Hc→(∃ys,Hc D=some (.lst ys))→(∀y H3,af Hc H3→P i y H3→R y H3)→te (some x::ρσ) Hc R)
  (fin:∀ys Hc,af H1 Hc→ys.length=xs.length→(∀i y,ys[i]?=some y→P i y Hc)→Hc D=some (.lst ys)→Q (.ref D) Hc) :
  ∃W:Nat→Nat→List V→Hp→Prop,(∃m,W 0 m [] (upd H1 D (.lst []))) ∧
   ∀i m ys Hc,W i m ys Hc→Hc D=some (.lst ys)∧((J.stop i Hc∧Q (.ref D) Hc)∨(J.go i Hc∧∀x H',J.gk i Hc x H'→
    if true=true then te (some x::ρσ) H' fun y H3=>H3 D=some (.lst ys)∧ys.length<sizeLine∧∃m',m'<m∧W (i+1) m' (ys++[y]) (upd H3 D (.lst (ys++[y]))) else ∃m',m'<m∧W (i+1) m' ys H')):=by
 refine ⟨fun i m ys Hc=>m=xs.length-i∧i≤xs.length∧Hc D=some (.lst ys)∧af H1 Hc∧ys.length=i∧∀j y,ys[j]?=some y→P j y Hc,⟨_,rfl,ck _,az,iC (af.refl H1) nD,rfl,fun j y e=>by simp at e⟩,?_⟩
 rintro i m ys Hc ⟨rfl,hi,eD,sH,el,hP⟩;refine ⟨eD,?_⟩;by_cases cu:i<xs.length
 ·refine .inr ⟨js.go i Hc sH cu,fun x H' hy=>?_⟩
  obtain ⟨rfl,hx⟩:=js.gk i Hc x H' sH hy;rw [ar rfl];refine step i x (hx cu) _ _ sH ⟨ys,eD⟩ fun y H3 s3 hp=>?_;have e3:=s3 _ _ eD;refine ⟨e3,by lia,xs.length-(i+1),by lia,rfl,cu,az,iC (sH.trans s3) nD,by simp [el],fun j y' e=>?_⟩
  have bR:∀b o,b≠D→H3 b=some o→upd H3 D (.lst (ys++[y])) b=some o:=fun b o nb e=>by rw [aP nb];exact e
  by_cases hj:j<i
  ·have e':ys[j]?=some y':=by rw [pD (by lia)] at e;exact e
   refine mono j y' H' _ ys (hP j y' e') eD fun b o nb e=>?_;exact bR b o nb (s3 _ _ e)
  ·have hj:j=i:=by have:=(bQ.mp e).1;simp at this;lia
   subst hj;have e':y'=y:=by rw [pB (by lia),el,Nat.sub_self] at e;simpa using e.symm
   subst e';exact mono _ _ H3 _ ys hp e3 bR
 ·have e:i=xs.length:=by lia
  subst e;exact .inl ⟨js.stop _ Hc sH (aK _),fin ys Hc sH el hP eD⟩
variable {wi:TI} {ρ:St→St} {σ:St}
theorem EC(mU:∀R:It→Hp→Prop,(∀J H1,af H H1→oI J xs H1→R J H1)→wi σ H R)(hn:xs.length<sizeLine)
  (P:Addr→Nat→V→Hp→Prop) (mono:∀D i y H H' ys,P D i y H→H D=some (.lst ys)→(∀b o,b≠D→H b=some o→H' b=some o)→P D i y H')
  (step:∀D i x,xs[i]?=some x→∀(Hc:Hp) (R:VK),af H Hc→(∃ys,Hc D=some (.lst ys))→(∀y H3,af Hc H3→P D i y H3→R y H3)→te (some x::ρ σ) Hc R)
  (fin:∀D ys Hc,af H Hc→ys.length=xs.length→(∀i y,ys[i]?=some y→P D i y Hc)→Hc D=some (.lst ys)→Q (.ref D) Hc):jy wi ρ (fun _ H Q=>Q true H) te σ H Q:=by
 refine mU _ fun J H1 s1 js=>?_;intro D nD;exact J8 (ρσ:=ρ σ) (te:=te) (Q:=Q) js nD hn (P D) (mono D) (fun i x hx Hc R sc=>step D i x hx Hc R (s1.trans sc)) (fun ys Hc sc=>fin D ys Hc (s1.trans sc))
theorem aW{g:TG}{D:Ends}(h:te σ H fun x H1=>g x σ H1 D.nx):og te g D σ H:=h
theorem oJ{a b:TS}{D:Ends}(h:a {D with nx:=fun σ H=>b D σ H} σ H):DS a b D σ H:=h
section
variable {X:Cx} {N:List Str} {scope:Scope} {cl:List (Str×Addr)} {x:Str} {px pos:Pos} {iter elt:Expr} {ifs:List Expr} {wi:TI} {ρ:St→St} {tt:TT} {te:TE}
theorem uv{y:Str}{py yr:Pos}{i0:Nat}(B:Eo X N scope cl x ρ)(hc:X.calm=true)(hN:X.N.Nodup)(ED:X.N[i0]?=some y)(hy:Loc X.env.scope y)(hi:PI X (.Name x px) iter wi)(ht:∀s₃ H₃ fp,oy (X.df N scope cl s₃ H₃ fp) ifs tt)(he:∀s₃ H₃ fp,PE (X.df N scope cl s₃ H₃ fp) elt te)
  (EE:swapsWith (.ListComp elt [⟨.Name x px,iter,ifs,0⟩] scope pos) (some (.Name y py)) yr.line X.env=pure true:=by rfl) (hf:X.fn y=true∨X.env.scope.names.lookup y=some .local:=by first | exact .inl rfl | exact .inr rfl | assumption)
  (hs:∀x,foldedSetIterable iter X.env x=pure x:=by intro _;rfl):PS X (.Assign [.Name y py] (.ListComp elt [⟨.Name x px,iter,ifs,0⟩] scope pos) yr) (og (jy wi ρ tt te) (b6 i0)):=by
 intro pins s σ H D0 I h
 have h:jy wi ρ tt te σ H (fun v H1=>D0.nx (σ.set i0 (some v)) H1):=h
 rw [exec_Assign_Name_used _ _ _ _ EE]
 refine cS (wpAny_standAt (cS ?_))
 show wpAny _ X.A (do let _ ←comprehension (.ListComp elt [⟨.Name x px,iter,ifs,0⟩] scope pos) scope X.env _ (newList []) false (eval iter X.env) (some (assign (.Name y py) X.env))) _ _ s
 refine cS (dJ (Q:=fun _ s'=>SP X pins D0 .next s') ?_ (fun _ s' hq=>fR (fR hq)) fun _ _ e=>e)
 refine Dz (use:=some (assign (.Name y py) X.env)) rfl hs B.AV B.kind B.names (aS (hi pins s σ H _ I h) fun v s1 h1=>aS h1 fun xX s2 h2=>?_)
 obtain ⟨it,fp,tn,J,H2,rfl,I2,T,gH,f2,q2⟩:=h2
 have nD:H2 s2.heap.objs.size=none:=I2.aG.fresh (aK _)
 obtain ⟨W,⟨m0,w0⟩,turn⟩:=q2 _ nD
 refine zV (wpAny_newFunctionEnv B.JZ (by intro y hy;simp at hy) (fun h₁ kH mL=>?_) B.kind)
 dsimp only at kH mL ⊢
 generalize hD:s2.heap.objs.size=D at nD w0 turn kH mL ⊢
 generalize kI:({s2 with heap:=s2.heap.push {cls:=.type "list",dict:=none,data:=.seq ([]:List Value).toArray}}:Shared)=s3
 have I3:Inv X pins σ (upd H2 D (.lst [])) s3:=by
  subst hD kI
  exact I2.laid (t':=s2.toks) (fun b u e=>cL _ e) (aK _) ⟨ck _,[],_,.nil,fm _ rfl⟩
 have e3:s3.heap=s2.heap.push {cls:=.type "list",dict:=none,data:=.seq ([]:List Value).toArray}:=by rw [←kI]
 have iA:∀b o,s2.heap.get? b=some o→s3.heap.get? b=some o:=fun b o e=>by rw [e3];exact cL _ e
 rw [←e3] at kH mL ⊢
 have below:∀b o,s3.heap.get? b=some o→b≠s3.heap.objs.size:=fun b o e=>dE (bZ e)
 have fK:∀b o,s3.heap.get? b=some o→h₁.get? b=some o:=fun b o e=>mL.extBut b o (below b o e) (cL _ e)
 have j4:∀b∈fp,∃o,s2.heap.get? b=some o∧∀v,o.data≠.cell v:=T.obj _ _ gH
 have yh:∀b∈fp,b≠D:=fun b hb z=>by
  obtain ⟨o,e,_⟩:=j4 b hb
  rw [z,←hD] at e
  exact absurd (bZ e) (iM _)
 have eG:∀y c,cl.lookup y=some c→X.env.cells.lookup y=some c:=fun y c e=>B.sub (y,c) (k6 e)
 have yi:=I3.xT
 have fz:(X.df N scope cl s3 (upd H2 D (.lst [])) fp).Ok:=by
  refine ⟨I.ok.mod,B.kind,I.ok.glob,I.ok.blt,aK _,fun a b c e1 e2=>I.ok.inj a b c (eG a c e1) (eG b c e2),fun y hy=>B.has y hy,(fun _ _ z _=>absurd z dA),(fun _=>I.ok.hd hc),I.ok.frames,.inl rfl,fun b hb=>⟨?_,fun y c e z=>?_⟩,fun b o e=>?_,aH I.ok.jr I3.sz,fun b o e hb=>?_,fun b hb z=>?_,I3.stack,yi⟩
  ·obtain ⟨o,e,_⟩:=j4 b hb
   exact below b o (iA b o e)
  ·exact (f2 b hb).2.2.2.2.1 y c (eG y c e) z
  ·exact I3.bs b o e
  ·rcases (f2 b hb).2.2.2.1 with z | z
   ·exact I.ok.pU b o e z
   ·exact absurd (eV (bZ e) (aH I.ok.jr z)) (iM _)
  ·rcases cx.mp (I3.xS b z) with z | z
   ·exact (f2 b hb).2.1 z
   ·exact (f2 b hb).2.2.1 z
 have IB:∀tk:Nat,Inv (X.df N scope cl s3 (upd H2 D (.lst [])) fp) [] (none::ρ σ) (upd H2 D (.lst [])) {s3 with heap:=h₁,toks:=tk}:=fun tk=>by
  refine ⟨fz,rfl,I3.bare,Un.kept fK,⟨_,kH,fun j y v e1 e2 e3=>?_⟩,fun y c e=>?_,?_,fun y c e=>I3.jU y c (eG y c e),(fun p hp=>nomatch hp),I3.aG.kept fK,?_⟩
  ·cases j with
   | zero=>cases e2
   | succ j=>
    obtain ⟨i,y',a1,a2,a3,a4,a5,a6⟩:=B.AW σ j v e2
    have uf:N[j+1]?=some y:=e1
    rw [uf] at a1
    cases a1
    obtain ⟨m,hn,hl⟩:=I3.loc
    obtain ⟨u,r,l⟩:=hl i y v a2 a3 a4
    refine ⟨u,r,.inr ⟨a6,?_⟩⟩
    obtain ⟨c,ec⟩:=B.has y a6
    rcases l with ⟨k,_⟩ | ⟨_,c',oz,z⟩
    ·rcases a5 with q | q <;> (rw [k] at q;cases q)
    ·have:=eG y c ec
     rw [this] at oz
     cases oz
     obtain ⟨o,ho,hd⟩:=z
     exact ⟨c,ec,o,fK _ _ ho,hd⟩
  ·obtain ⟨v,o,ho,hd⟩:=I3.cell y c (eG y c e)
   exact ⟨v,o,fK _ _ ho,hd⟩
  ·exact I3.aG.fresh (aK _)
  ·show (none::ρ σ).length=N.length
   rw [gD]
   exact B.len σ I.len
 have qr:∀b o,s3.heap.get? b=some o→b≠s3.heap.objs.size:=below
 have fin:∀{σ':St} {H':Hp} {s':Shared},Inv (X.df N scope cl s3 (upd H2 D (.lst [])) fp) [] σ' H' s'→D0.nx (σ.set i0 (some (.ref D))) H'→compPost (model X.prog X.w) X.A X.xe (some (assign (.Name y py) X.env)) (fun _ s'=>SP X pins D0 .next s') (.ref D) s3.heap.objs.size (.ok .next) s':=fun{σ' H' s'} J q=>by
  obtain ⟨m,hn,_⟩:=J.loc
  have hn:s'.heap.Ns s3.heap.objs.size m:=hn
  have JC:H' s3.heap.objs.size=none:=J.free
  have u1:Un (cU X.stack) fp (upd H2 D (.lst [])) H' s3.heap s'.heap:=by
   refine ⟨fun b o e n hb hx=>J.base.keep b o e n hb hx,fun b o e n hb hx=>J.base.slot b o e n hb hx,J.base.free,fun b o e hx=>J.base.there b o e hx,J.base.ic,J.base.gR,J.base.ie⟩
  have IX:Inv X pins σ H' s':=I3.pX (ch:=fp) (J.os) u1 J.aG J.bare fun b hb=>by
   obtain ⟨g0,g1,g2,g3,g4,g5⟩:=f2 b hb
   exact ⟨g3,g1,g4,g5⟩
  have nl:X.env.locals≠s3.heap.objs.size:=by
   obtain ⟨m3,⟨o3,_,_,e3,_⟩,_⟩:=I3.loc
   exact qr _ _ e3
  have nc:∀z c,X.env.cells.lookup z=some c→c≠s3.heap.objs.size:=fun z c e=>by
   obtain ⟨v3,o3,e3,_⟩:=I3.cell z c e
   exact qr _ _ e3
  refine wpAny_assign_Name (DO (v:=.ref D) IX hN ED hy rfl (fun jw qt qu=>?_) hf)
  obtain ⟨a,qu,ha⟩:=qu
  have na:s3.heap.objs.size≠a:=by
   rcases ha with rfl | e
   ·exact fun z=>nl z.symm
   ·exact fun z=>nc _ _ e z.symm
  refine ⟨m,hn.sameBut qu na,fun h' iT=>⟨σ.set i0 (some (.ref D)),H',?_,q⟩⟩
  have u2:Un (cU X.stack) [s3.heap.objs.size] H' H' jw.heap h':=by
   refine ⟨fun b o e n hb hx=>(iT.2 b (by simpa using hx)).trans e,fun b o e n hb hx=>⟨o.slots,(iT.2 b (by simpa using hx)).trans e⟩,fun b o e n hx=>n,fun b o e hx=>⟨o,(iT.2 b (by simpa using hx)).trans e⟩,fun b xs z=>z,fun b o u z=>z,fun b ps z=>⟨#[],by simpa using z⟩⟩
  have yj:cH X.prog X.w H' h':=fun b u e=>by
   refine (qt.aG b u e).kx (fun c v hc z=>(iT.2 c fun y=>?_).trans z) (fun _ z=>z) fun _ _ z=>z
   have y':c=s3.heap.objs.size:=y
   rcases hc with hc | hc
   ·rw [←hc,y',JC] at e
    cases e
   ·rw [y',JC] at hc
    cases hc
  refine qt.pX (s':={jw with heap:=h'}) (ch:=[s3.heap.objs.size]) rfl u2 yj qt.bare fun b hb=>?_
  have eb:b=s3.heap.objs.size:=by simpa using hb
  subst eb
  refine ⟨.inr I3.sz,fun z=>nl z.symm,fun z c e=>nc z c e,fun p hp=>?_⟩
  exact qr _ _ (I3.pin p hp).1
 have iq:∀{H':Hp},(∀b∈fp,H' b=none)→∀b∈fp,mG (X.df N scope cl s3 (upd H2 D (.lst [])) fp) [] H' b:=fun hn b hb=>by
  refine ⟨hn b hb,?_,?_,.inl hb,fun y c e z=>(f2 b hb).2.2.2.2.1 y c (eG y c e) z,fun p hp=>nomatch hp⟩
  ·obtain ⟨o,e,_⟩:=j4 b hb
   exact below b o (iA b o e)
  ·exact fz.pV b hb
 have loop:∀tk:Nat,codeAny (model X.prog X.w) X.A (.compLoop (.ListComp elt [⟨.Name x px,iter,ifs,0⟩] scope pos) 0 (.ref it) (.ref D) (compEnvC scope cl s3.heap.objs.size X.env))
   (compPost (model X.prog X.w) X.A X.xe (some (assign (.Name y py) X.env)) (fun _ s'=>SP X pins D0 .next s') (.ref D) s3.heap.objs.size) {s3 with heap:=h₁,toks:=tk}:=fun tk=>by
  refine DA (fun n s'=>∃i ys o H',Inv (X.df N scope cl s3 (upd H2 D (.lst [])) fp) [] (o::ρ σ) H' s'∧tn i s'.heap∧(∀b∈fp,H' b=none)∧W i n ys H') ?_ m0
   ⟨0,[],none,_,IB tk,T.keep _ _ _ gH fun b hb o e=>fK _ _ (iA _ _ e),fun b hb=>by rw [aP (yh b hb)];exact (f2 b hb).1,w0⟩
  rintro n s4 ⟨i,ys,o,H4,I4,oA,oB,w4⟩
  obtain ⟨J1,yk⟩:=turn i n ys H4 w4
  rcases yk with ⟨stop,qn⟩ | ⟨go,step⟩
  ·refine dJ (T.done (X.df N scope cl s3 (upd H2 D (.lst [])) fp) rfl rfl rfl hc i [] s4 _ H4 (fun _ _=>False) I4 (iq oB) oA stop) (fun r s5 ⟨hr,I5⟩=>?_) fun _ _ z=>z.elim
   subst hr
   exact fin I5 qn
  ·refine dJ (T.item (X.df N scope cl s3 (upd H2 D (.lst [])) fp) rfl rfl rfl hc i [] s4 _ H4 (fun _ _=>False) I4 (iq oB) oA go) (fun r s5 ⟨u,hr,h5⟩=>?_) fun _ _ z=>z.elim
   subst hr
   have z:letOwnedTupleGo (.Name x px) (.ref it) u=pure ():=rfl
   rw [z] at h5
   show wpAny _ _ ((pure ():Sem Unit) >>= fun _=>assign (.Name x px) (compEnvC scope cl s3.heap.objs.size X.env) u) _ _ s5
   refine cS (dJ h5 (fun _ s5 ⟨y,H5,I5,r5,y5,ir,p_⟩=>?_) fun _ _ z=>z.elim)
   have qa:=I5.pinned (iq p_) (T.obj _ _ ir)
   have pg:PG (X.df N scope cl s3 (upd H2 D (.lst [])) fp) (.Name x px) (b6 0):=bV (i:=0) B.nd B.n0 (.inl (z5 B.hx)) (.inr (z5 B.hx))
   have again:∀{σ7:St} {H7:Hp} {s7:Shared},Inv (X.df N scope cl s3 (upd H2 D (.lst [])) fp) ([]++lE fp s5.heap) σ7 H7 s7→Inv (X.df N scope cl s3 (upd H2 D (.lst [])) fp) [] σ7 H7 s7∧tn (i+1) s7.heap∧∀b∈fp,H7 b=none:=fun{σ7 H7 s7} I7=>by
    refine ⟨I7.t_,T.keep _ _ _ ir fun b hb o e=>(I7.pin (b,o) (eB _ (eB _ (oh hb e)))).1,fun b hb=>?_⟩
    obtain ⟨o,e,d⟩:=T.obj _ _ ir b hb
    exact (I7.pin (b,o) (eB _ (eB _ (oh hb e)))).2.1
   refine dJ (pg _ s5 _ H5 y u (fun σ2 H6=>σ2=some y::ρ σ∧H6=H5) qa r5 ⟨rfl,rfl⟩) (fun _ s6 ⟨σ6,H6,I6,q6⟩=>?_) fun _ _ z=>z.elim
   obtain ⟨rfl,rfl⟩:=q6
   have yl:=step y _ y5
   have tests:∀{kJ:TT},oy (X.df N scope cl s3 (upd H2 D (.lst [])) fp) ifs kJ→∀{R:Bool→Hp→Prop},kJ (some y::ρ σ) H6 R→wpAny (model X.prog X.w) X.A
     (forIn ifs true fun c r=>if r=true then do let ok ←isTrue c (compEnvC scope cl s3.heap.objs.size X.env) (eval c (compEnvC scope cl s3.heap.objs.size X.env));pure (ForInStep.yield ok) else pure (ForInStep.yield r))
     (fun ok s7=>∃H7,Inv (X.df N scope cl s3 (upd H2 D (.lst [])) fp) ([]++lE fp s5.heap) (some y::ρ σ) H7 s7∧R ok H7) (fun _ _=>False) s6:=fun{kJ} p {R} hR=>by
    cases p with
    | nil=>exact wpAny_tests_nil ⟨_,I6,hR⟩
    | one p=>exact wpAny_tests_one (p _ s6 _ _ _ I6 hR)
   refine dJ (tests (ht s3 _ fp) yl) (fun ok s7 ⟨H7,I7,q7⟩=>?_) fun _ _ z=>z.elim
   cases ok with
   | false=>
    obtain ⟨m',iU,w7⟩:=q7
    obtain ⟨a1,a2,a3⟩:=again I7
    exact ⟨m',iU,i+1,ys,_,H7,a1,a2,a3,w7⟩
   | true=>
    refine dJ (he s3 _ fp _ s7 _ H7 _ I7 q7) (fun ev s8 ⟨z,H8,I8,r8,ym,hz,m',iU,w8⟩=>?_) fun _ _ z=>z.elim
    refine dJ (kG (X:=X.df N scope cl s3 (upd H2 D (.lst [])) fp) _ s8 _ H8 (.ref D) [z] (.ref D) [ev] (fun _ H9=>H9=upd H8 D (.lst (ys++[z]))) I8 rfl (.cons r8 .nil) ⟨D,ys,z,rfl,rfl,ym,hz,rfl⟩) (fun _ s9 ⟨_,H9,I9,_,q9⟩=>?_) fun _ _ z=>z.elim
    subst q9
    obtain ⟨a1,a2,a3⟩:=again I9
    exact ⟨m',iU,i+1,ys++[z],_,_,a1,a2,a3,w8⟩
 have start:=loop (s3.toks+([]:List (Str×Value)).length)
 have es:({s3 with heap:=h₁,toks:=s3.toks+([]:List (Str×Value)).length}:Shared)={s2 with heap:=h₁,toks:=s2.toks+([]:List (Str×Value)).length}:=by rw [←kI]
 rw [es] at start
 exact DB start (T.self _ 0 _ _ _ (T.keep _ _ _ gH fun b hb o e=>fK _ _ (iA _ _ e)) start)
end
section
variable {X:Cx}
end
section
variable {prog:Program} {w:World} {A:Around} {R:Result→Shared→Prop} {s:Shared}
end
section
variable {X:Cx} {N:List Str} {scope:Scope} {cl:List (Str×Addr)} {x y:Str} {px py pos tp:Pos} {Sy:Nat} {iter elt:Expr} {ifs:List Expr} {wi:TI} {ρ:St→St} {tt:TT} {te:TE}
end
section
variable {X:Cx}
def anyR(K:aD):List V→Hp→VK→Prop:=fun xs H Q=>∃(p:Addr) (bs:List Bool),xs=[.ref p]∧bU K H p (bs.map V.bl)∧Q (.bl (bs.any id)) H
variable {K:aD}
theorem Sz(hc:X.calm=true)(hK:X.K=K:=by rfl):gr X (.builtin "any") (anyR K):=by
 intro pins s σ H xs us Q I r h;subst hK;obtain ⟨p,bs,rfl,hq,q⟩:=h;obtain ⟨u,rfl,ru⟩:=vals1 r;cases ru;obtain ⟨aj,rv,pl,hz⟩:=I.list hq;have fB:p≠s.heap.objs.size:=by obtain ⟨o,e,_⟩:=pl.isList;exact dE (bZ e)
 have hl:aj.length=bs.length:=by rw [←rv.length,aR]
 refine call_any_walk (zW pl.isList ?_);refine ⟨s.heap.objs.size,_,_,_,_,_,fun i=>bs.getD i false,rfl,Walks.list (A:=X.A.in1) (show X.A.in1.handled=none from I.ok.hd hc) s.heap.objs.size p fB aj.toArray,⟨⟨_,fm _ rfl,rfl,rfl⟩,pl.isList.push _⟩,fun i v s' Q' E' hv cV=>?_,fun h' tk hk=>?_⟩
 ·have gW:aj[i]?=some v:=by simpa using hv
  cases eb:bs[i]? with
  | none=>
   have:=rv.none_of (i:=i) (by rw [cz,eb];rfl)
   rw [this] at gW;cases gW
  | some b=>
   obtain ⟨u,hu,ru⟩:=rv.get (i:=i) (x:=V.bl b) (by rw [cz,eb];rfl)
   rw [hu] at gW;cases gW;cases ru;have e:bs.getD i false=b:=by rw [jb,eb];rfl
   have ql:Q' (bs.getD i false) s':=cV;rw [e] at ql;exact nH ql
 ·refine ⟨.bl (bs.any id),H,I.kept fun b o e=>hk b o (fun z=>?_) (cL _ e),?_,q⟩
  ·exact absurd (bZ e) (by rw [dj.mp z];exact iM _)
  ·show Value.bool _=Value.bool _
   congr 1
   rw [cY,hl];clear hk q rv pl hz hl hq
   induction bs with
   | nil=>rfl
   | cons b bs ih=>rw [gD,Dy,pF,List.any_map,pF];show (b || (List.range bs.length).any fun i=>bs.getD i false)=(b || bs.any id);rw [ih]
def SA(K:aD):List V→Hp→VK→Prop:=fun xs H Q=>∃(p:Addr) (ns:List Int),xs=[.ref p]∧bU K H p (ns.map V.int)∧Q (.int ns.sum) H
theorem SD:∀(ns:List Int),preSum (fun i=>ns.getD i 0) ns.length=ns.sum:=by
 intro ns;have key:∀k,k≤ns.length→preSum (fun i=>ns.getD i 0) k=(ns.take k).sum:=by
  intro k
  induction k with
  | zero=>intro _;rfl
  | succ k ih=>
   intro hk;show preSum (fun i=>ns.getD i 0) k+ns.getD k 0=_;rw [ih (by lia),List.take_add_one,z_]
   have e:ns[k]?=some ns[k]:=by simp [show k<ns.length by lia]
   rw [jb,e];simp
 rw [key ns.length (aK _),je]
theorem J9(hc:X.calm=true)(hK:X.K=K:=by rfl):gr X (.builtin "sum") (SA K):=by
 intro pins s σ H xs us Q I r h;subst hK;obtain ⟨p,ns,rfl,hq,q⟩:=h;obtain ⟨u,rfl,ru⟩:=vals1 r;cases ru;obtain ⟨aj,rv,pl,hz⟩:=I.list hq;have fB:p≠s.heap.objs.size:=by obtain ⟨o,e,_⟩:=pl.isList;exact dE (bZ e)
 have hl:aj.length=ns.length:=by rw [←rv.length,aR]
 refine call_sum_walkG (zW pl.isList ?_);refine ⟨s.heap.objs.size,_,_,_,_,_,fun i=>ns.getD i 0,rfl,Walks.list (A:=X.A.in1) (show X.A.in1.handled=none from I.ok.hd hc) s.heap.objs.size p fB aj.toArray,⟨⟨_,fm _ rfl,rfl,rfl⟩,pl.isList.push _⟩,?_,fun i v hv=>?_,fun h' tk t' hk=>?_⟩
 ·intro b hb
  rw [xC];simp only [cx,nN,or_false] at hb;rcases hb with rfl | rfl;·exact zY _
  ·obtain ⟨o,e,_⟩:=pl.isList
   exact Nat.lt_succ_of_lt (bZ e)
 ·have gW:aj[i]?=some v:=by simpa using hv
  cases eb:ns[i]? with
  | none=>
   have:=rv.none_of (i:=i) (by rw [cz,eb];rfl)
   rw [this] at gW;cases gW
  | some b=>
   obtain ⟨u,hu,ru⟩:=rv.get (i:=i) (x:=V.int b) (by rw [cz,eb];rfl)
   rw [hu] at gW;cases gW;obtain ⟨t,rfl⟩:=ru;exact ⟨t,by show Value.int b t=Value.int (ns.getD i 0) t;rw [jb,eb];rfl⟩
 ·refine ⟨.int ns.sum,H,I.kept fun b o e=>hk b o (fun z=>?_) (cL _ e),⟨t',?_⟩,q⟩
  ·exact absurd (bZ e) (by rw [dj.mp z];exact iM _)
  ·congr 1
   rw [cY,hl];exact SD ns
end
theorem boot_any:bootBuiltins "any"=some (.builtin "any"):=by decide +kernel
theorem boot_sum:bootBuiltins "sum"=some (.builtin "sum"):=by decide +kernel
abbrev Cx.iD (X:Cx) (N:List Str) (scope:Scope) (cl:List (Str×Addr)) (x:Str) (s₃:Shared) (H₃:Hp) (fp:List Addr):Cx:=
 {X with N:=N,s₀:=s₃,H₀:=H₃,env:=compEnvC scope ((x,s₃.heap.objs.size+1)::cl) s₃.heap.objs.size X.env,outer:=X.stack,stack:=X.stack,ex:=fp,fn:=fun y=>y == x,pn:=[],xe:=fun _ _=>False}
section
variable {M:Model} {A:Around} {E:aX} {s:Shared}
theorem SE{scope:Scope}{globals:Addr}{cl:List (Str×Addr)}{qual x:Str}{env:Env}{Q:Env→Shared→Prop}
  (c1:∀n,cellsFrom n scope.names cl=(x,n)::cl) (p1:∀h:Heap,pushCells h scope.names=h.push {cls:=.type "cell",data:=.cell none})
  (hQ:Q (newEnv scope s.heap.objs.size globals ((x,s.heap.objs.size+1)::cl) qual none .none (some env) builtinsNs) {s with heap:=(s.heap.push {cls:=.type "dict",data:=.dict #[]}).push {cls:=.type "cell",data:=.cell none}}) :
  wpAny M A (newFunctionEnv scope globals cl [] qual none .none (some env)) Q E s:=by
 simp only [newFunctionEnv,Option.isSome_some,if_true];refine cS (wpAny_alloc ?_);refine cS (wpAny_layCells _ (fun name kind cells=>by cases SF:kind == NameKind.cell <;> simp [SF]) _ _ _ _ ?_)
 rw [show ({s with heap:=s.heap.push {cls:=.type "dict",data:=.dict #[]}}:Shared).heap.objs.size=s.heap.objs.size+1 from xC ..,c1,p1];exact cS (fR (fR hQ))
end
section
variable {X:Cx} {N:List Str} {scope:Scope} {cl:List (Str×Addr)} {x:Str} {px pos:Pos} {iter elt:Expr} {ifs:List Expr} {wi:TI} {ρ:St→St} {tt:TT} {te:TE}
theorem SG{names:List (Str×NameKind)}(h:(names.all fun q=>(q.2 != .cell && q.2 != .free) || ((cl.lookup q.1).isSome || q.1 == x))=true) :
  ∀y,y≠x→(names.lookup y=some .cell∨names.lookup y=some .free)→∃c,cl.lookup y=some c:=fun y hx hy=>by
 have key:∀k:NameKind,(k != .cell && k != .free)=false→names.lookup y=some k→∃c,cl.lookup y=some c:=fun k hk e=>by have z:=pH.mp h (y,k) (k6 e);rw [hk,xI,show ((y,k).1 == x)=false from mh.mpr hx,Bool.or_false] at z;exact Dw.mp z
 rcases hy with e | e;·exact key .cell rfl e
 ·exact key .free rfl e
structure SH (X:Cx) (N:List Str) (scope:Scope) (cl:List (Str×Addr)) (x:Str) (ρ:St→St):Prop where
 AV:closureFor scope X.env=pure cl
 kind:scope.kind=.function
 SI:∀n,cellsFrom n scope.names cl=(x,n)::cl
 SJ:∀h:Heap,pushCells h scope.names=h.push {cls:=.type "cell",data:=.cell none}
 names:∀y∈scope.names,y.2=.local→scope.names.lookup y.1=some .local
 sub:∀p∈cl,X.env.cells.lookup p.1=some p.2
 has:∀y,y≠x→((relabel scope X.env).names.lookup y=some .cell∨(relabel scope X.env).names.lookup y=some .free)→∃c,cl.lookup y=some c
 n0:N[0]?=some x
 nd:N.Nodup
 SK:(relabel scope X.env).names.lookup x=some .cell
 AW:∀(σ:St) (j:Nat) (v:V),(ρ σ)[j]?=some (some v)→∃(i:Nat) (y:Str),N[j+1]?=some y∧X.N[i]?=some y∧σ[i]?=some (some v)∧n4 X.env.scope y∧(X.env.kindOf y=some .cell∨X.env.kindOf y=some .free)∧((relabel scope X.env).names.lookup y=some .cell∨(relabel scope X.env).names.lookup y=some .free)
 len:∀σ:St,σ.length=X.N.length→(ρ σ).length+1=N.length
end
def oK(K:aD)(H:Hp):Nat→V→V→Prop
 | 0,v,u=>v=u∧gK v=true
 | n+1,v,u=>(v=u∧gK v=true)∨∃a b xs ys,v=.ref a∧u=.ref b∧((bU K H a xs∧bU K H b ys)∨(eC K H a xs∧eC K H b ys))∧xs.length=ys.length∧∀(j:Nat) (x y:V),xs[j]?=some x→ys[j]?=some y→oK K H n x y
theorem A6{v:V}(h:gK v=true):g6 v v=true:=by
 cases v with
 | aU=>rfl
 | bl b=>show (b == b)=true;simp
 | int i=>show (i == i)=true;simp
 | str x=>show (x == x)=true;simp
 | _=>cases h
theorem all_range(n:Nat):(List.range n).all (fun _=>true)=true:=by simp
section
variable {X:Cx} {pins:a7} {σ:St} {H:Hp} {s:Shared}
theorem A7(I:Inv X pins σ H s):∀(n:Nat) (A:Around) (v u:V) (a b:Value),oK X.K H n v u→RelV v a→RelV u b→A.units+n<cLine→SeqAt.EqAt A s a b true
 | 0,A,v,u,a,b,h,ra,rb,hu=>by obtain ⟨rfl,hf⟩:=h;have z:=x8 (A:=A) (s:=s) ra rb hf hf;rw [A6 hf] at z;exact z
 | n+1,A,v,u,a,b,h,ra,rb,hu=>by
  rcases h with ⟨rfl,hf⟩ | ⟨p,q,xs,ys,rfl,rfl,hs,hl,hi⟩
  ·have z:=x8 (A:=A) (s:=s) ra rb hf hf
   rw [A6 hf] at z;exact z
  ·cases ra
   cases rb;by_cases pq:p=q
   ·subst pq
    exact SeqAt.EqAt.same _
   rcases hs with ⟨h1,h2⟩ | ⟨h1,h2⟩
   ·obtain ⟨us,r1,t1,_⟩:=I.list h1
    obtain ⟨vs,r2,t2,_⟩:=I.list h2;have l1:=r1.length;have l2:=r2.length;have z:=SeqAt.RcAt.lists (A:=A) (e:=fun _=>true) t1.isList t2.isList (by simp;lia) (by lia) (fun j z1 z2=>by
     have A8:j<us.length:=by simpa using z1
     have A9:j<vs.length:=by simpa using z2
     obtain ⟨x,ex⟩:∃x,xs[j]?=some x:=⟨xs[j],by simp [show j<xs.length by lia]⟩
     obtain ⟨y,ey⟩:∃y,ys[j]?=some y:=⟨ys[j],by simp [show j<ys.length by lia]⟩
     obtain ⟨x',ky,rx⟩:=r1.get ex;obtain ⟨y',mV,ry⟩:=r2.get ey;have e1:us.toArray[j]=x':=by simpa using (bQ.mp ky).2
     have e2:vs.toArray[j]=y':=by simpa using (bQ.mp mV).2
     rw [e1,e2];exact A7 I n A.in1 x y x' y' (hi j x y ex ey) rx ry (by rw [Aa];lia))
    rw [all_range] at z;exact SeqAt.EqAt.of_refs pq z
   ·obtain ⟨us,r1,t1,_⟩:=I.tuple h1
    obtain ⟨vs,r2,t2,_⟩:=I.tuple h2;have l1:=r1.length;have l2:=r2.length;have z:=SeqAt.RcAt.tuples (A:=A) (e:=fun _=>true) t1 t2 (by lia) (fun j z1 z2=>by
     have A8:j<us.length:=by simpa using z1
     have A9:j<vs.length:=by simpa using z2
     obtain ⟨x,ex⟩:∃x,xs[j]?=some x:=⟨xs[j],by simp [show j<xs.length by lia]⟩
     obtain ⟨y,ey⟩:∃y,ys[j]?=some y:=⟨ys[j],by simp [show j<ys.length by lia]⟩
     obtain ⟨x',ky,rx⟩:=r1.get ex;obtain ⟨y',mV,ry⟩:=r2.get ey;have e1:us.toArray[j]=x':=by simpa using (bQ.mp ky).2
     have e2:vs.toArray[j]=y':=by simpa using (bQ.mp mV).2
     rw [e1,e2];exact A7 I n A.in1 x y x' y' (hi j x y ex ey) rx ry (by rw [Aa];lia))
    have e3:(us.toArray.size == vs.toArray.size)=true:=by simp;lia
    rw [all_range,e3] at z;exact SeqAt.EqAt.of_refs pq z
end
section
variable {X:Cx}
def J_(K:aD)(n:Nat)(r:Bool):R2:=fun x y H Q=>∃a b xs ys,x=.ref a∧y=.ref b∧bU K H a xs∧bU K H b ys∧xs.length=ys.length∧(∀(j:Nat) (x y:V),xs[j]?=some x→ys[j]?=some y→oK K H n x y)∧Q (.bl r) H
variable {n:Nat}
theorem SM(hu:X.A.units+64<cLine)(hn:n<60:=by decide):cg X (compareOp .Eq) (J_ X.K n true):=by
 intro pins s σ H x y v u Q I rx ry h;obtain ⟨a,b,xs,ys,rfl,rfl,h1,h2,hl,hi,q⟩:=h;cases rx;cases ry;obtain ⟨us,r1,t1,_⟩:=I.list h1;obtain ⟨vs,r2,t2,_⟩:=I.list h2;have l1:=r1.length;have l2:=r2.length;refine SeqAt.eq_listAt (e:=fun _=>true) t1.isList t2.isList (by simp;lia) (by lia) (fun j z1 z2=>?_) ?_
 ·have A8:j<us.length:=by simpa using z1
  have A9:j<vs.length:=by simpa using z2
  obtain ⟨x,ex⟩:∃x,xs[j]?=some x:=⟨xs[j],by simp [show j<xs.length by lia]⟩
  obtain ⟨y,ey⟩:∃y,ys[j]?=some y:=⟨ys[j],by simp [show j<ys.length by lia]⟩
  obtain ⟨x',ky,rx⟩:=r1.get ex;obtain ⟨y',mV,ry⟩:=r2.get ey;have e1:us.toArray[j]=x':=by simpa using (bQ.mp ky).2
  have e2:vs.toArray[j]=y':=by simpa using (bQ.mp mV).2
  rw [e1,e2];exact A7 I n X.A.in1 x y x' y' (hi j x y ex ey) rx ry (by rw [Aa];lia)
 ·rw [all_range]
  exact ⟨.bl true,H,I,rfl,q⟩
theorem yu(hu:X.A.units+64<cLine)(hn:n<60:=by decide):cg X (compareOp .NotEq) (J_ X.K n false):=by
 intro pins s σ H x y v u Q I rx ry h;obtain ⟨a,b,xs,ys,rfl,rfl,h1,h2,hl,hi,q⟩:=h;cases rx;cases ry;obtain ⟨us,r1,t1,_⟩:=I.list h1;obtain ⟨vs,r2,t2,_⟩:=I.list h2;have l1:=r1.length;have l2:=r2.length;refine SeqAt.RcNeAt.lists (e:=fun _=>true) t1.isList t2.isList (by simp;lia) (by lia) (fun j z1 z2=>?_) _ _ _ _ ?_
 ·have A8:j<us.length:=by simpa using z1
  have A9:j<vs.length:=by simpa using z2
  obtain ⟨x,ex⟩:∃x,xs[j]?=some x:=⟨xs[j],by simp [show j<xs.length by lia]⟩
  obtain ⟨y,ey⟩:∃y,ys[j]?=some y:=⟨ys[j],by simp [show j<ys.length by lia]⟩
  obtain ⟨x',ky,rx⟩:=r1.get ex;obtain ⟨y',mV,ry⟩:=r2.get ey;have e1:us.toArray[j]=x':=by simpa using (bQ.mp ky).2
  have e2:vs.toArray[j]=y':=by simpa using (bQ.mp mV).2
  rw [e1,e2];exact A7 I n X.A.in1 x y x' y' (hi j x y ex ey) rx ry (by rw [Aa];lia)
 ·rw [all_range]
  exact ⟨.bl false,H,I,rfl,q⟩
end
section
variable {X:Cx} {N:List Str} {scope:Scope} {cl:List (Str×Addr)} {x:Str} {px pos:Pos} {iter elt:Expr} {ifs:List Expr} {wi:TI} {ρ:St→St} {tt:TT} {te:TE}
theorem SN{y:Str}{py yr:Pos}{i0:Nat}(B:SH X N scope cl x ρ)(hc:X.calm=true)(hN:X.N.Nodup)(ED:X.N[i0]?=some y)(hy:Loc X.env.scope y)(hi:PI X (.Name x px) iter wi)(ht:∀s₃ H₃ fp,oy (X.iD N scope cl x s₃ H₃ fp) ifs tt)(he:∀s₃ H₃ fp,PE (X.iD N scope cl x s₃ H₃ fp) elt te)
  (EE:swapsWith (.ListComp elt [⟨.Name x px,iter,ifs,0⟩] scope pos) (some (.Name y py)) yr.line X.env=pure true:=by rfl) (hf:X.fn y=true∨X.env.scope.names.lookup y=some .local:=by first | exact .inl rfl | exact .inr rfl | assumption)
  (hs:∀x,foldedSetIterable iter X.env x=pure x:=by intro _;rfl):PS X (.Assign [.Name y py] (.ListComp elt [⟨.Name x px,iter,ifs,0⟩] scope pos) yr) (og (jy wi ρ tt te) (b6 i0)):=by
 intro pins s σ H D0 I h
 have h:jy wi ρ tt te σ H (fun v H1=>D0.nx (σ.set i0 (some v)) H1):=h
 rw [exec_Assign_Name_used _ _ _ _ EE]
 refine cS (wpAny_standAt (cS ?_))
 show wpAny _ X.A (do let _ ←comprehension (.ListComp elt [⟨.Name x px,iter,ifs,0⟩] scope pos) scope X.env _ (newList []) false (eval iter X.env) (some (assign (.Name y py) X.env))) _ _ s
 refine cS (dJ (Q:=fun _ s'=>SP X pins D0 .next s') ?_ (fun _ s' hq=>fR (fR hq)) fun _ _ e=>e)
 refine Dz (use:=some (assign (.Name y py) X.env)) rfl hs B.AV B.kind B.names (aS (hi pins s σ H _ I h) fun v s1 h1=>aS h1 fun xX s2 h2=>?_)
 obtain ⟨it,fp,tn,J,H2,rfl,I2,T,gH,f2,q2⟩:=h2
 have nD:H2 s2.heap.objs.size=none:=I2.aG.fresh (aK _)
 obtain ⟨W,⟨m0,w0⟩,turn⟩:=q2 _ nD
 refine zV (SE B.SI B.SJ ?_)
 dsimp only
 generalize hD:s2.heap.objs.size=D at nD w0 turn ⊢
 generalize kI:({s2 with heap:=s2.heap.push {cls:=.type "list",dict:=none,data:=.seq ([]:List Value).toArray}}:Shared)=s3
 have I3:Inv X pins σ (upd H2 D (.lst [])) s3:=by
  subst hD kI
  exact I2.laid (t':=s2.toks) (fun b u e=>cL _ e) (aK _) ⟨ck _,[],_,.nil,fm _ rfl⟩
 have e3:s3.heap=s2.heap.push {cls:=.type "list",dict:=none,data:=.seq ([]:List Value).toArray}:=by rw [←kI]
 have iA:∀b o,s2.heap.get? b=some o→s3.heap.get? b=some o:=fun b o e=>by rw [e3];exact cL _ e
 rw [←e3]
 obtain ⟨h₁,eh⟩:∃h₁,h₁=(s3.heap.push {cls:=.type "dict",data:=.dict #[]}).push {cls:=.type "cell",data:=.cell none}:=⟨_,rfl⟩
 rw [←eh]
 have kH:h₁.Ns s3.heap.objs.size (fun _=>none):=by
  rw [eh]
  exact (Heap.Ns.new s3.heap (.type "dict")).keeps fun b o e=>cL _ e
 have SO:(s3.heap.push {cls:=.type "dict",data:=.dict #[]}).objs.size=s3.heap.objs.size+1:=xC ..
 have SQ:h₁.IsCell (s3.heap.objs.size+1) none:=by
  rw [eh,←SO]
  exact ⟨_,fm _ rfl,rfl⟩
 have below:∀b o,s3.heap.get? b=some o→b≠s3.heap.objs.size:=fun b o e=>dE (bZ e)
 have fK:∀b o,s3.heap.get? b=some o→h₁.get? b=some o:=fun b o e=>by rw [eh];exact cL _ (cL _ e)
 have j4:∀b∈fp,∃o,s2.heap.get? b=some o∧∀v,o.data≠.cell v:=T.obj _ _ gH
 have yh:∀b∈fp,b≠D:=fun b hb z=>by
  obtain ⟨o,e,_⟩:=j4 b hb
  rw [z,←hD] at e
  exact absurd (bZ e) (iM _)
 have eG:∀y c,cl.lookup y=some c→X.env.cells.lookup y=some c:=fun y c e=>B.sub (y,c) (k6 e)
 have Ka:∀y c,cl.lookup y=some c→c<s3.heap.objs.size:=fun y c e=>by
  obtain ⟨v,o,eo,_⟩:=I3.cell y c (eG y c e)
  exact bZ eo
 have lk:∀y c,((x,s3.heap.objs.size+1)::cl).lookup y=some c→(y=x∧c=s3.heap.objs.size+1)∨(y≠x∧cl.lookup y=some c):=fun y c e=>by
  by_cases z:y=x
  ·subst z
   rw [Ab,beq_self_eq_true] at e
   exact .inl ⟨rfl,(Option.some.inj e).symm⟩
  ·rw [Ab,mh.mpr z] at e
   exact .inr ⟨z,e⟩
 have Kb:∀y c,y≠x→cl.lookup y=some c→((x,s3.heap.objs.size+1)::cl).lookup y=some c:=fun y c z e=>by
  rw [Ab,mh.mpr z]
  exact e
 have Ke:∀b∈fp,b<s3.heap.objs.size:=fun b hb=>by
  obtain ⟨o,e,_⟩:=j4 b hb
  exact bZ (iA b o e)
 have yi:=I3.xT
 have fz:(X.iD N scope cl x s3 (upd H2 D (.lst [])) fp).Ok:=by
  refine ⟨I.ok.mod,B.kind,I.ok.glob,I.ok.blt,aK _,fun a b c e1 e2=>?inj,fun y hy=>?has,(fun y c z e=>?pS),(fun _=>I.ok.hd hc),I.ok.frames,.inl rfl,fun b hb=>⟨?_,fun y c e z=>?_⟩,fun b o e=>?_,aH I.ok.jr I3.sz,fun b o e hb=>?_,fun b hb z=>?_,I3.stack,yi⟩
  case inj=>
   rcases lk a c e1 with ⟨z1,SR⟩ | ⟨_,f1⟩ <;> rcases lk b _ e2 with ⟨z2,ec⟩ | ⟨_,Ki⟩
   ·rw [z1,z2]
   ·have:=Ka _ _ Ki
    rw [SR] at this
    exact absurd this (Nat.not_lt.mpr (mj _))
   ·have:=Ka _ _ f1
    rw [ec] at this
    exact absurd this (Nat.not_lt.mpr (mj _))
   ·exact I.ok.inj a b c (eG a c f1) (eG b c Ki)
  case has=>
   by_cases z:y=x
   ·subst z
    exact ⟨_,by rw [show (compEnvC scope ((y,s3.heap.objs.size+1)::cl) s3.heap.objs.size X.env).cells=(y,s3.heap.objs.size+1)::cl from rfl,Ab,beq_self_eq_true]⟩
   ·obtain ⟨c,ec⟩:=B.has y z hy
    exact ⟨c,Kb y c z ec⟩
  case pS=>
   have z:y=x:=by simpa using z
   rcases lk y c e with ⟨_,rfl⟩ | ⟨z',_⟩
   ·exact mj _
   ·exact absurd z z'
  ·obtain ⟨o,e,_⟩:=j4 b hb
   exact below b o (iA b o e)
  ·rcases lk y c e with ⟨rfl,rfl⟩ | ⟨_,e⟩
   ·rw [←z] at hb
    exact absurd (Ke _ hb) (Nat.not_lt.mpr (mj _))
   ·exact (f2 b hb).2.2.2.2.1 y c (eG y c e) z
  ·exact I3.bs b o e
  ·rcases (f2 b hb).2.2.2.1 with z | z
   ·exact I.ok.pU b o e z
   ·exact absurd (eV (bZ e) (aH I.ok.jr z)) (iM _)
  ·rcases cx.mp (I3.xS b z) with z | z
   ·exact (f2 b hb).2.1 z
   ·exact (f2 b hb).2.2.1 z
 have IB:∀tk:Nat,Inv (X.iD N scope cl x s3 (upd H2 D (.lst [])) fp) [] (none::ρ σ) (upd H2 D (.lst [])) {s3 with heap:=h₁,toks:=tk}:=fun tk=>by
  refine ⟨fz,rfl,I3.bare,Un.kept fK,⟨_,kH,fun j y v e1 e2 e3=>?_⟩,fun y c e=>?_,?_,fun y c e=>?fC,(fun p hp=>nomatch hp),I3.aG.kept fK,?_⟩
  ·cases j with
   | zero=>cases e2
   | succ j=>
    obtain ⟨i,y',a1,a2,a3,a4,a5,a6⟩:=B.AW σ j v e2
    have uf:N[j+1]?=some y:=e1
    rw [uf] at a1
    cases a1
    obtain ⟨m,hn,hl⟩:=I3.loc
    obtain ⟨u,r,l⟩:=hl i y v a2 a3 a4
    refine ⟨u,r,.inr ⟨a6,?_⟩⟩
    have yx:y≠x:=fun z=>by
     have n0:=B.n0
     rw [←z] at n0
     have:=(List.getElem?_inj (bQ.mp n0).1 B.nd).mp (n0.trans uf.symm)
     lia
    obtain ⟨c,ec⟩:=B.has y yx a6
    rcases l with ⟨k,_⟩ | ⟨_,c',oz,z⟩
    ·rcases a5 with q | q <;> (rw [k] at q;cases q)
    ·have:=eG y c ec
     rw [this] at oz
     cases oz
     obtain ⟨o,ho,hd⟩:=z
     exact ⟨c,Kb y c yx ec,o,fK _ _ ho,hd⟩
  case fC=>
   rcases lk y c e with ⟨rfl,rfl⟩ | ⟨_,e⟩
   ·exact I3.aG.fresh (mj _)
   ·exact I3.jU y c (eG y c e)
  ·rcases lk y c e with ⟨rfl,rfl⟩ | ⟨_,e⟩
   ·exact ⟨none,SQ⟩
   ·obtain ⟨v,o,ho,hd⟩:=I3.cell y c (eG y c e)
    exact ⟨v,o,fK _ _ ho,hd⟩
  ·exact I3.aG.fresh (aK _)
  ·show (none::ρ σ).length=N.length
   rw [gD]
   exact B.len σ I.len
 have qr:∀b o,s3.heap.get? b=some o→b≠s3.heap.objs.size:=below
 have fin:∀{σ':St} {H':Hp} {s':Shared},Inv (X.iD N scope cl x s3 (upd H2 D (.lst [])) fp) [] σ' H' s'→D0.nx (σ.set i0 (some (.ref D))) H'→compPost (model X.prog X.w) X.A X.xe (some (assign (.Name y py) X.env)) (fun _ s'=>SP X pins D0 .next s') (.ref D) s3.heap.objs.size (.ok .next) s':=fun{σ' H' s'} J q=>by
  obtain ⟨m,hn,_⟩:=J.loc
  have hn:s'.heap.Ns s3.heap.objs.size m:=hn
  have JC:H' s3.heap.objs.size=none:=J.free
  have u1:Un (cU X.stack) fp (upd H2 D (.lst [])) H' s3.heap s'.heap:=by
   refine ⟨fun b o e n hb hx=>J.base.keep b o e n hb hx,fun b o e n hb hx=>J.base.slot b o e n hb hx,J.base.free,fun b o e hx=>J.base.there b o e hx,J.base.ic,J.base.gR,J.base.ie⟩
  have IX:Inv X pins σ H' s':=I3.pX (ch:=fp) (J.os) u1 J.aG J.bare fun b hb=>by
   obtain ⟨g0,g1,g2,g3,g4,g5⟩:=f2 b hb
   exact ⟨g3,g1,g4,g5⟩
  have nl:X.env.locals≠s3.heap.objs.size:=by
   obtain ⟨m3,⟨o3,_,_,e3,_⟩,_⟩:=I3.loc
   exact qr _ _ e3
  have nc:∀z c,X.env.cells.lookup z=some c→c≠s3.heap.objs.size:=fun z c e=>by
   obtain ⟨v3,o3,e3,_⟩:=I3.cell z c e
   exact qr _ _ e3
  refine wpAny_assign_Name (DO (v:=.ref D) IX hN ED hy rfl (fun jw qt qu=>?_) hf)
  obtain ⟨a,qu,ha⟩:=qu
  have na:s3.heap.objs.size≠a:=by
   rcases ha with rfl | e
   ·exact fun z=>nl z.symm
   ·exact fun z=>nc _ _ e z.symm
  refine ⟨m,hn.sameBut qu na,fun h' iT=>⟨σ.set i0 (some (.ref D)),H',?_,q⟩⟩
  have u2:Un (cU X.stack) [s3.heap.objs.size] H' H' jw.heap h':=by
   refine ⟨fun b o e n hb hx=>(iT.2 b (by simpa using hx)).trans e,fun b o e n hb hx=>⟨o.slots,(iT.2 b (by simpa using hx)).trans e⟩,fun b o e n hx=>n,fun b o e hx=>⟨o,(iT.2 b (by simpa using hx)).trans e⟩,fun b xs z=>z,fun b o u z=>z,fun b ps z=>⟨#[],by simpa using z⟩⟩
  have yj:cH X.prog X.w H' h':=fun b u e=>by
   refine (qt.aG b u e).kx (fun c v hc z=>(iT.2 c fun y=>?_).trans z) (fun _ z=>z) fun _ _ z=>z
   have y':c=s3.heap.objs.size:=y
   rcases hc with hc | hc
   ·rw [←hc,y',JC] at e
    cases e
   ·rw [y',JC] at hc
    cases hc
  refine qt.pX (s':={jw with heap:=h'}) (ch:=[s3.heap.objs.size]) rfl u2 yj qt.bare fun b hb=>?_
  have eb:b=s3.heap.objs.size:=by simpa using hb
  subst eb
  refine ⟨.inr I3.sz,fun z=>nl z.symm,fun z c e=>nc z c e,fun p hp=>?_⟩
  exact qr _ _ (I3.pin p hp).1
 have iq:∀{H':Hp},(∀b∈fp,H' b=none)→∀b∈fp,mG (X.iD N scope cl x s3 (upd H2 D (.lst [])) fp) [] H' b:=fun hn b hb=>by
  refine ⟨hn b hb,?_,?_,.inl hb,fun y c e z=>?sc,fun p hp=>nomatch hp⟩
  case sc=>
   rcases lk y c e with ⟨rfl,rfl⟩ | ⟨_,e⟩
   ·rw [←z] at hb
    exact absurd (Ke _ hb) (Nat.not_lt.mpr (mj _))
   ·exact (f2 b hb).2.2.2.2.1 y c (eG y c e) z
  ·obtain ⟨o,e,_⟩:=j4 b hb
   exact below b o (iA b o e)
  ·exact fz.pV b hb
 have loop:∀tk:Nat,codeAny (model X.prog X.w) X.A (.compLoop (.ListComp elt [⟨.Name x px,iter,ifs,0⟩] scope pos) 0 (.ref it) (.ref D) (compEnvC scope ((x,s3.heap.objs.size+1)::cl) s3.heap.objs.size X.env))
   (compPost (model X.prog X.w) X.A X.xe (some (assign (.Name y py) X.env)) (fun _ s'=>SP X pins D0 .next s') (.ref D) s3.heap.objs.size) {s3 with heap:=h₁,toks:=tk}:=fun tk=>by
  refine DA (fun n s'=>∃i ys o H',Inv (X.iD N scope cl x s3 (upd H2 D (.lst [])) fp) [] (o::ρ σ) H' s'∧tn i s'.heap∧(∀b∈fp,H' b=none)∧W i n ys H') ?_ m0
   ⟨0,[],none,_,IB tk,T.keep _ _ _ gH fun b hb o e=>fK _ _ (iA _ _ e),fun b hb=>by rw [aP (yh b hb)];exact (f2 b hb).1,w0⟩
  rintro n s4 ⟨i,ys,o,H4,I4,oA,oB,w4⟩
  obtain ⟨J1,yk⟩:=turn i n ys H4 w4
  rcases yk with ⟨stop,qn⟩ | ⟨go,step⟩
  ·refine dJ (T.done (X.iD N scope cl x s3 (upd H2 D (.lst [])) fp) rfl rfl rfl hc i [] s4 _ H4 (fun _ _=>False) I4 (iq oB) oA stop) (fun r s5 ⟨hr,I5⟩=>?_) fun _ _ z=>z.elim
   subst hr
   exact fin I5 qn
  ·refine dJ (T.item (X.iD N scope cl x s3 (upd H2 D (.lst [])) fp) rfl rfl rfl hc i [] s4 _ H4 (fun _ _=>False) I4 (iq oB) oA go) (fun r s5 ⟨u,hr,h5⟩=>?_) fun _ _ z=>z.elim
   subst hr
   have z:letOwnedTupleGo (.Name x px) (.ref it) u=pure ():=rfl
   rw [z] at h5
   show wpAny _ _ ((pure ():Sem Unit) >>= fun _=>assign (.Name x px) (compEnvC scope ((x,s3.heap.objs.size+1)::cl) s3.heap.objs.size X.env) u) _ _ s5
   refine cS (dJ h5 (fun _ s5 ⟨y,H5,I5,r5,y5,ir,p_⟩=>?_) fun _ _ z=>z.elim)
   have qa:=I5.pinned (iq p_) (T.obj _ _ ir)
   have pg:PG (X.iD N scope cl x s3 (upd H2 D (.lst [])) fp) (.Name x px) (b6 0):=bV (i:=0) B.nd B.n0 (.inr B.SK) (.inl (by show (x == x)=true;simp))
   have again:∀{σ7:St} {H7:Hp} {s7:Shared},Inv (X.iD N scope cl x s3 (upd H2 D (.lst [])) fp) ([]++lE fp s5.heap) σ7 H7 s7→Inv (X.iD N scope cl x s3 (upd H2 D (.lst [])) fp) [] σ7 H7 s7∧tn (i+1) s7.heap∧∀b∈fp,H7 b=none:=fun{σ7 H7 s7} I7=>by
    refine ⟨I7.t_,T.keep _ _ _ ir fun b hb o e=>(I7.pin (b,o) (eB _ (eB _ (oh hb e)))).1,fun b hb=>?_⟩
    obtain ⟨o,e,d⟩:=T.obj _ _ ir b hb
    exact (I7.pin (b,o) (eB _ (eB _ (oh hb e)))).2.1
   refine dJ (pg _ s5 _ H5 y u (fun σ2 H6=>σ2=some y::ρ σ∧H6=H5) qa r5 ⟨rfl,rfl⟩) (fun _ s6 ⟨σ6,H6,I6,q6⟩=>?_) fun _ _ z=>z.elim
   obtain ⟨rfl,rfl⟩:=q6
   have yl:=step y _ y5
   have tests:∀{kJ:TT},oy (X.iD N scope cl x s3 (upd H2 D (.lst [])) fp) ifs kJ→∀{R:Bool→Hp→Prop},kJ (some y::ρ σ) H6 R→wpAny (model X.prog X.w) X.A
     (forIn ifs true fun c r=>if r=true then do let ok ←isTrue c (compEnvC scope ((x,s3.heap.objs.size+1)::cl) s3.heap.objs.size X.env) (eval c (compEnvC scope ((x,s3.heap.objs.size+1)::cl) s3.heap.objs.size X.env));pure (ForInStep.yield ok) else pure (ForInStep.yield r))
     (fun ok s7=>∃H7,Inv (X.iD N scope cl x s3 (upd H2 D (.lst [])) fp) ([]++lE fp s5.heap) (some y::ρ σ) H7 s7∧R ok H7) (fun _ _=>False) s6:=fun{kJ} p {R} hR=>by
    cases p with
    | nil=>exact wpAny_tests_nil ⟨_,I6,hR⟩
    | one p=>exact wpAny_tests_one (p _ s6 _ _ _ I6 hR)
   refine dJ (tests (ht s3 _ fp) yl) (fun ok s7 ⟨H7,I7,q7⟩=>?_) fun _ _ z=>z.elim
   cases ok with
   | false=>
    obtain ⟨m',iU,w7⟩:=q7
    obtain ⟨a1,a2,a3⟩:=again I7
    exact ⟨m',iU,i+1,ys,_,H7,a1,a2,a3,w7⟩
   | true=>
    refine dJ (he s3 _ fp _ s7 _ H7 _ I7 q7) (fun ev s8 ⟨z,H8,I8,r8,ym,hz,m',iU,w8⟩=>?_) fun _ _ z=>z.elim
    refine dJ (kG (X:=X.iD N scope cl x s3 (upd H2 D (.lst [])) fp) _ s8 _ H8 (.ref D) [z] (.ref D) [ev] (fun _ H9=>H9=upd H8 D (.lst (ys++[z]))) I8 rfl (.cons r8 .nil) ⟨D,ys,z,rfl,rfl,ym,hz,rfl⟩) (fun _ s9 ⟨_,H9,I9,_,q9⟩=>?_) fun _ _ z=>z.elim
    subst q9
    obtain ⟨a1,a2,a3⟩:=again I9
    exact ⟨m',iU,i+1,ys++[z],_,_,a1,a2,a3,w8⟩
 have start:=loop s3.toks
 have es:({s3 with heap:=h₁,toks:=s3.toks}:Shared)={s2 with heap:=h₁}:=by rw [←kI]
 rw [es] at start
 exact DB start (T.self _ 0 _ _ _ (T.keep _ _ _ gH fun b hb o e=>fK _ _ (iA _ _ e)) start)
end
theorem A_(mU:∀R:It→Hp→Prop,(∀J H1,af H H1→oI J xs H1→R J H1)→wi σ H R)(hn:xs.length<sizeLine)
  (P:Addr→Nat→V→Hp→Prop) (mono:∀D i y H H' ys,P D i y H→H D=some (.lst ys)→(∀b o,b≠D→H b=some o→H' b=some o)→P D i y H')
  (step:∀D i x,xs[i]?=some x→∀(Hc:Hp) (R:VK),af H Hc→(∃ys,Hc D=some (.lst ys))→(∀y H3,af Hc H3→P D i y H3→R y H3)→te (some x::ρ σ) Hc R)
  (fin:∀D ys Hc,H D=none→af H Hc→ys.length=xs.length→(∀(i:Nat) (y:V),ys[i]?=some y→P D i y Hc)→Hc D=some (.lst ys)→Q (.ref D) Hc):jy wi ρ (fun _ H Q=>Q true H) te σ H Q:=by
 refine mU _ fun J H1 s1 js=>?_;intro D nD;have hD:H D=none:=by
  cases e:H D with
  | none=>rfl
  | some o=>rw [s1 _ _ e] at nD;cases nD
 exact J8 (ρσ:=ρ σ) (te:=te) (Q:=Q) js nD hn (P D) (mono D) (fun i x hx Hc R sc=>step D i x hx Hc R (s1.trans sc)) (fun ys Hc sc=>fin D ys Hc hD (s1.trans sc))
section
variable {X:Cx} {K:aD}
theorem oM(hK:X.K=K:=by rfl):x4 X (JG K):=by subst hK;exact aV
def SS(K:aD):List V→Hp→VK→Prop:=fun xs H Q=>∃p ys,xs=[.ref p]∧(bU K H p ys∨eC K H p ys)∧Q (.int (ys.length:Int)) H
theorem yv(hK:X.K=K:=by rfl):gr X (.builtin "len") (SS K):=by subst hK;exact e8
theorem SU{tg l:Expr}{tl:TE}(hl:PE X l tl)(hK:X.K=K:=by rfl):PI X tg l (IY K tl):=by subst hK;exact dR hl
def SV(K:aD):List V→Hp→VK→Prop:=fun xs H Q=>∃p ys,xs=[.ref p]∧(bU K H p ys∨eC K H p ys)∧∀l,H l=none→Q (.ref l) (upd H l (.lst ys))
theorem EF(hK:X.K=K:=by rfl):gr X (.type "list") (SV K):=by subst hK;exact oo
end
end L2
namespace My
open PySem L2
variable {te:TE} {σ:St} {H:Hp}
theorem Ba{r:List V→Hp→VK→Prop}{Q:VK}(h:te σ H fun x H1=>r [x] H1 Q):AF r (qf te kB) σ H Q:=h
variable {D:Ends}
theorem iV(h:te σ H D.rt):IT te D σ H:=h
variable {q:Int}
theorem SW{b c:Int}(hq:a9 q)(h1:¬q∣b)(h2:¬q∣c):¬q∣b*c:=fun h=>by
 rcases hq with rfl | ⟨q2,q3,q4⟩
 ·have z:=eX.mp h
  rcases nO.mp z with z | z;·exact h1 (by rw [z];exact jd 0)
  ·exact h2 (by rw [z];exact jd 0)
 ·have k1:=fI c (show q≠0 by lia)
  have k2:=fT c (show 0<q by lia)
  have k3:c % q≠0:=fun z=>h2 (DF z);have g:=EA q2 q3 q4 (show 1≤c % q by lia) k2
  obtain ⟨w,ew⟩:=Su c q;exact h1 (Ss q2 (Sr g ⟨-w,by rw [k8];lia⟩) h)
theorem SX{c:TT}{t u:TS}(h:c σ H fun b H1=>if b=true then t D σ H1 else u D σ H1):IU c t u D σ H:=h
theorem SY{Q:Bool→Hp→Prop}(h:te σ H fun x H1=>∃c,x=.bl c∧Q c H1):tB te σ H Q:=h
theorem Kj{vs:List V}{b:Bool}(h:∀(i:Nat) (v:V),vs[i]?=some v→v=.bl b):vs=(List.replicate vs.length b).map V.bl:=by
 refine List.ext_getElem? fun i=>?_;rw [cz];by_cases hi:i<vs.length
 ·rw [show vs[i]?=some vs[i] by simp [hi],h i vs[i] (by simp [hi])]
  simp [hi]
 ·rw [List.getElem?_eq_none (by lia),List.getElem?_eq_none (by simp;lia)]
  rfl
theorem S0(n:Nat):(List.replicate n false).any id=false:=by simp
theorem S1(n:Nat):(List.replicate n true).all id=true:=by simp
variable {H':Hp}
theorem none_of{b:Addr}(s:af H H')(h:H' b=none):H b=none:=by
 cases e:H b with
 | none=>rfl
 | some o=>rw [s _ _ e] at h;cases h
def o1:Int×Int:=(0,1)
theorem getD_at{α:Type}{xs:List α}{d:α}{i:Nat}(hi:i<xs.length):xs.getD i d=xs[i]:=by
 rw [jb,show xs[i]?=some xs[i] by simp [hi]]
 rfl
def aZ:Nat→(Nat→Int)→Int
 | 0,_=>0
 | n+1,f=>f 0+aZ n fun i=>f (i+1)
theorem gw:∀{n:Nat} {f g:Nat→Int},(∀i,i<n→f i=g i)→aZ n f=aZ n g
 | 0,f,g,_=>rfl
 | n+1,f,g,h=>by unfold aZ;rw [h 0 (by lia),gw fun i hi=>h (i+1) (by lia)]
theorem qv:∀(n:Nat) (f g:Nat→Int),aZ n (fun i=>f i+g i)=aZ n f+aZ n g
 | 0,f,g=>rfl
 | n+1,f,g=>by show f 0+g 0+aZ n (fun i=>f (i+1)+g (i+1))=(f 0+aZ n fun i=>f (i+1))+(g 0+aZ n fun i=>g (i+1));rw [qv n];lia
theorem jB(c:Int):∀(n:Nat) (f:Nat→Int),c*aZ n f=aZ n fun i=>c*f i
 | 0,f=>by unfold aZ;rw [gE]
 | n+1,f=>by unfold aZ;rw [Int.mul_add,jB c n]
theorem yw:∀(n:Nat),aZ n (fun _=>0)=0
 | 0=>rfl
 | n+1=>by unfold aZ;rw [yw n];rfl
variable {B:Nat} {v:V}
theorem Bb(hB:1≤B){a:Int}(h:yq H q v a 1)(hq:a9 q)(ha:a=0∨a=1):a_ B H q v a 1:=by
 rcases h with ⟨rfl,r,rfl,e⟩ | ⟨q2,r,rfl,r0,r1,er⟩
 ·rw [(J6 a).1,(J6 a).2] at e
  exact .ba e ⟨by decide,Int.gcd_one_right ..⟩ (by rcases ha with rfl | rfl <;> simp [hB]) (by simpa using hB)
 ·have q3:q≤997:=by rcases hq with z | ⟨_,z,_⟩ <;> lia
  rw [pJ (show (0:Int)≤1 by decide) (show (1:Int)<q by lia),fS,pJ r0 r1] at er
  have ea:a % q=a:=pJ (by lia) (by lia)
  rw [ea] at er;subst er;exact .rem r0 r1 q3
theorem EG(hq:a9 q):¬oH q 1:=fun h=>by
 unfold oH at h;rcases hq with rfl | ⟨q2,q3,q4⟩;·rw [ar rfl] at h;lia
 ·rw [ao (by lia),pJ (by lia) (by lia)] at h;lia
def qw(B:Nat)(H:Hp)(q:Int)(a:Addr)(ps:cb):Prop:=∃vs:List V,H a=some (.lst vs)∧vs.length=ps.length∧∀(i:Nat) (v:V) (p:Int×Int),vs[i]?=some v→ps[i]?=some p→a_ B H q v p.1 p.2
theorem qw.mono{a:Addr}{ps:cb}(h:qw B H q a ps)(s:af H H'):qw B H' q a ps:=by obtain ⟨vs,e,l,k⟩:=h;exact ⟨vs,s _ _ e,l,fun i v p h1 h2=>(k i v p h1 h2).mono s⟩
theorem EH{K:aD}{B':Nat}{u:V}{x m:Int}{R:VK}(hv:a_ B H q v x m)(hu:a_ B' H q u 0 1)(k:R (.bl (decide (x=0))) H):J5 K v u H R:=by
 cases hv with
 | ba e l bx bm=>
  cases hu with
  | ba e' l' _ _=>
   refine .inr (.inr (.inl ⟨_,_,_,_,rfl,rfl,.of e,.of e',rfl,rfl,?_⟩));have z:(g7 [V.int x,V.int m] [V.int 0,V.int 1])=decide (x=0):=by
    show ((x == 0) && ((m == 1) && true))=_;by_cases hx:x=0
    ·subst hx
     have:=l.f9;rw [Int.gcd_zero_left] at this;have:=l.pos;have:m=1:=by lia
     subst this;rfl
    ·rw [c_ hx,show (x == 0)=false from mh.mpr hx]
     rfl
   show R (.bl (g7 [V.int x,V.int m] [V.int 0,V.int 1])) H;rw [z];exact k
  | rem h0 h1 h2=>lia
 | rem h0 h1 h2=>
  cases hu with
  | ba=>lia
  | rem Bc oN mO=>
   refine .inr (.inr (.inr ⟨by simp [D3],?_⟩))
   rw [gv];exact k
end My
namespace L2
open PySem PySem.Spec PyProof.Rows
end L2
namespace My
open PySem L2
def lO(q:Int):Td:=if q=0 then .a "fractions" else .b "wheel" q
theorem S7{q:Int}(hq:a9 q):(lO q).good=true:=by
 unfold lO;rcases hq with rfl | ⟨h1,h2,h3⟩;·rw [ar rfl];simp [Td.good,Td.yg]
 ·rw [ao (by lia)];simp [Td.good,Td.yg,Td.jZ,h1,h2,h3]
def Kk(H:Hp)(td:Addr)(q:Int):Prop:=H td=some (.tup (lO q).vs)
end My
namespace L2
open PySem PySem.Spec PyProof.Rows
end L2
namespace My
open PySem L2
theorem Kl{a d t b:Int}(l:cj a d)(hb:1≤b)(e:a*b=t*d):a=lM t b∧d=lN t b:=by
 have z:=Sn (a:=t) (show b≠0 by lia)
 have hd:=l.pos;have hd2:=z.1.pos;refine Sv l z.1 ?_;refine J7 (c:=b) (by lia) ?_
 have z2:=z.2.1;grind
end My
namespace L2
open PySem PySem.Spec PyProof.Rows
def yy(K:aD)(l:Addr):It:=
  ⟨fun i H=>∃xs x,bU K H l xs∧xs[i]?=some x,
   fun i H v H'=>∃T x,H T=none∧v=.ref T∧H'=upd H T (.tup [.int (i:Int),x])∧∀xs,bU K H l xs→xs[i]?=some x,
   fun i H=>∃xs,bU K H l xs∧xs.length≤i⟩
variable {K:aD} {l:Addr}
theorem S9{P:Program}{w:World}{elts:List Expr}{k:Nat}{pos:Pos}{e it:Addr}(Km:e≠it):Turn P w K (.Tuple elts k pos) (yy K l) [e,it] e
  (fun i h=>(∃old,IsEnum h e it (i:Int) old)∧h.IsListIter it l i) where
 mem:=by simp
 obj:=fun i h st b hb=>by
  obtain ⟨⟨old,he⟩,h1⟩:=st;simp only [cx,nN,or_false] at hb;rcases hb with rfl | rfl;·exact ⟨_,he,fun v z=>by cases z⟩
  ·obtain ⟨o,e,c,d⟩:=h1
   exact ⟨o,e,fun v z=>by rw [d] at z;cases z⟩
 keep:=fun i h h' st k=>by obtain ⟨⟨old,he⟩,h1⟩:=st;exact ⟨⟨old,k _ (by simp) _ he⟩,h1.at fun o e=>k _ (by simp) o e⟩
 item:=by
  intro X hP hw hK hc i pins s σ H E I hf st hg;subst hP hw hK;obtain ⟨⟨old,he⟩,h1⟩:=st;obtain ⟨xs,x,uw,hx⟩:=hg;obtain ⟨aj,rv,p,_⟩:=I.list uw;obtain ⟨u,hu,ru⟩:=rv.get hx;refine wpAny_pyNext_enum_item he h1 p.isList (x:=u) (by simpa using hu) Km fun h' g1 g2 g3 g4 g5=>⟨_,rfl,?_⟩
  refine wpAny_letOwnedTupleGo_enum g1 fun Bd q1 sb=>?_;have ux:H s.heap.objs.size=none:=I.aG.fresh (aK _);have lt:∀b o,s.heap.get? b=some o→b≠s.heap.objs.size:=fun b o e=>dE (bZ e);have keep:∀b o,b∉[e,it]→s.heap.get? b=some o→Bd.get? b=some o:=fun b o nb e=>by simp only [cx,nN,or_false,not_or] at nb;exact sb.extBut _ _ nb.1 (g5 b o nb.1 nb.2 e)
  have elt:e≠s.heap.objs.size:=lt _ _ he;have pT:=sb.extBut _ _ elt.symm g3;have yz:∀{b:Addr} {o:HO} (e:H b=some o),upd H s.heap.objs.size (.tup [.int (i:Int),x]) b=some o:=fun e=>by rw [aP (jo e ux)];exact e
  have aG:cH X.prog X.w (upd H s.heap.objs.size (.tup [.int (i:Int),x])) Bd:=fun b o e=>by
   by_cases hb:b=s.heap.objs.size
   ·subst hb
    rw [az] at e;cases e;exact ⟨by show 2≤sizeLine;decide,[.int i s.toks,u],.cons ⟨_,rfl⟩ (.cons ru .nil),⟨_,pT,rfl,_,rfl⟩⟩
   ·rw [aP hb] at e
    refine (I.aG b o e).kx (fun c v fq q=>keep c v (fun m=>?_) q) (fun c q=>yz q) fun c xs q=>yz q;have nn:=(hf c m).1;rcases fq with rfl | fq;·rw [nn] at e;cases e
    ·rw [nn] at fq;cases fq
  have u1:Un (cU X.stack) [e,it] H (upd H s.heap.objs.size (.tup [.int (i:Int),x])) s.heap Bd:=
   ⟨fun b o e n _ hx=>keep b o hx e,fun b o e n _ hx=>⟨o.slots,keep b o hx e⟩,fun b o e n hx=>by rw [aP (lt b o e)];exact n,fun b o e hx=>⟨o,keep b o hx e⟩,fun b xs e=>yz e,fun b o u e=>yz e,fun b ps e=>⟨#[],by rw [yz e];simp⟩⟩
  refine ⟨.ref s.heap.objs.size,upd H s.heap.objs.size (.tup [.int (i:Int),x]),I.pX (s':={s with heap:=Bd,toks:=s.toks+1}) (ch:=[e,it]) rfl u1 aG I.bare (fun b hb=>?_),rfl,⟨_,x,ux,rfl,rfl,fun as ha=>by rw [I.DQ ha uw];exact hx⟩,?_,fun b hb=>?_⟩
  ·obtain ⟨f0,f1,f2,f3,f4,f5⟩:=hf b hb
   exact ⟨f3,f1,f4,f5⟩
  ·refine ⟨⟨u,?_⟩,g2.extBut sb.extBut Km.symm⟩
   have z:((i+1:Nat):Int)=(i:Int)+1:=by lia
   rw [z];exact q1
  ·have nb:b≠s.heap.objs.size:=by
    simp only [cx,nN,or_false] at hb;rcases hb with rfl | rfl;·exact lt _ _ he
    ·obtain ⟨o,e,_⟩:=h1;exact lt _ _ e
   rw [aP nb];exact (hf b hb).1
 done:=by
  intro X hP hw hK hc i pins s σ H E I hf st hg;subst hP hw hK;obtain ⟨⟨old,he⟩,h1⟩:=st;obtain ⟨xs,uw,hx⟩:=hg;obtain ⟨aj,rv,p,_⟩:=I.list uw;have hl:=rv.length;refine wpAny_pyNext_enum_end (I.ok.hd hc) he h1 p.isList (by simp;lia) fun h' g=>⟨rfl,?_⟩
  have keep:∀b o,b∉[e,it]→s.heap.get? b=some o→h'.get? b=some o:=fun b o nb e=>by simp only [cx,nN,or_false,not_or] at nb;exact g b o nb.2 e
  have aG:cH X.prog X.w H h':=fun b o e=>by
   refine (I.aG b o e).kx (fun c v fq q=>keep c v (fun m=>?_) q) (fun c q=>q) fun c xs q=>q;have nn:=(hf c m).1;rcases fq with rfl | fq;·rw [nn] at e;cases e
   ·rw [nn] at fq;cases fq
  have u1:Un (cU X.stack) [e,it] H H s.heap h':=
   ⟨fun b o e n _ hx=>keep b o hx e,fun b o e n _ hx=>⟨o.slots,keep b o hx e⟩,fun b o e n hx=>n,fun b o e hx=>⟨o,keep b o hx e⟩,fun b xs e=>e,fun b o u e=>e,fun b ps e=>⟨#[],by rw [e];simp⟩⟩
  refine I.pX (s':={s with heap:=h'}) (ch:=[e,it]) rfl u1 aG I.bare fun b hb=>?_;obtain ⟨f0,f1,f2,f3,f4,f5⟩:=hf b hb;exact ⟨f3,f1,f4,f5⟩
 self:=fun _ _ _ _ _ st h=>by obtain ⟨⟨old,he⟩,_⟩:=st;exact wpAny_pyIter_enum he h
theorem boot_enumerate:bootBuiltins "enumerate"=some (.type "enumerate"):=by decide +kernel
def S_(K:aD)(ta:TA):TI:=fun σ H R=>ta σ H fun vs H1=>∃l,vs=[.ref l]∧(∃xs,bU K H1 l xs)∧R (yy K l) H1
section
variable {X:Cx}
theorem Kn{elts:List Expr}{k:Nat}{AE:Pos}{a:Expr}{ta:TA}{p pos:Pos}(hg:Gl X "enumerate")(hm:X.mg "enumerate"=none)(ha:PA X [a] ta)(hs:starEach [a] X.env=[(false,eval a X.env)]:=by rfl) :
  PI X (.Tuple elts k AE) (.Call (.Name "enumerate" p) [a] [] pos) (S_ X.K ta):=by
 intro pins s σ H R I h;refine Call_ (n8 I hg hm boot_enumerate (tS (aS (ha pos pins s σ H _ I h) fun us s1 ⟨vs,H1,I1,r1,q1⟩=>?_) hs rfl));obtain ⟨l,e,⟨xs,uw⟩,q⟩:=q1;subst e;obtain ⟨u,rfl,ru⟩:=vals1 r1;cases ru;obtain ⟨aj,rv,p1,_⟩:=I1.list uw;refine call_enumerate_list p1.isList fun h' z1 z2 z3 z4=>?_;refine wpAny_pyIter_enum (s:={s1 with heap:=h'}) z1 ?_;refine ⟨_,_,_,_,H1,rfl,I1.kept (t':=s1.toks) z4,S9 (Nat.succ_ne_self _),⟨⟨_,z1⟩,z2⟩,fun b hb=>?_,q⟩;have le:s1.heap.objs.size≤b:=by
  simp only [cx,nN,or_false] at hb;rcases hb with rfl | rfl;·exact xN ..
  ·exact aK _
 exact I1.p9 le (I1.aG.fresh le)
end
theorem Ko{xs:List V}{g:TG}{tb:TS}{D:Ends}{σ:St}{H:Hp}(Pv:Nat→St→Hp→Prop)(h0:Pv 0 σ H)(hl:∀i σ H,Pv i σ H→bU K H l xs)
  (hs:∀(i:Nat) (x:V) σ H T,xs[i]?=some x→Pv i σ H→H T=none→g (.ref T) σ (upd H T (.tup [.int (i:Int),x])) fun σ2 H2=>tb {D with nx:=Pv (i+1),ct:=Pv (i+1),bk:=D.nx} σ2 H2) (hd:∀σ H,Pv xs.length σ H→D.nx σ H) :
  ∃W:Nat→Nat→St→Hp→Prop,(∃m,W 0 m σ H)∧∀i m σ H,W i m σ H→
   ((yy K l).stop i H∧D.nx σ H)∨((yy K l).go i H∧∃N:St→Hp→Prop,(∀σ' H',N σ' H'→∃m',m'<m∧W (i+1) m' σ' H')∧∀x H',(yy K l).gk i H x H'→g x σ H' fun σ2 H2=>tb {D with nx:=N,ct:=N,bk:=D.nx} σ2 H2):=by
 refine ⟨fun i m σ H=>m=xs.length-i∧i≤xs.length∧Pv i σ H,⟨xs.length,by simp,ck _,h0⟩,?_⟩
 rintro i m σ H ⟨rfl,hi,p⟩;have q1:=hl i σ H p;by_cases cu:i<xs.length
 ·refine .inr ⟨⟨xs,xs[i],q1,by simp [cu]⟩,Pv (i+1),fun σ' H' p'=>⟨xs.length-(i+1),by lia,rfl,cu,p'⟩,fun v H' hy=>?_⟩
  obtain ⟨T,x,nT,rfl,rfl,hx⟩:=hy;exact hs i x σ H T (hx xs q1) p nT
 ·have e:i=xs.length:=by lia
  subst e;exact .inl ⟨⟨xs,q1,aK _⟩,hd σ H p⟩
end L2
namespace My
open PySem L2
theorem uy:∀(n:Nat) (f:Nat→Int),aZ (n+1) f=aZ n f+f n
 | 0,f=>by show f 0+0=0+f 0;lia
 | n+1,f=>by show f 0+aZ (n+1) (fun i=>f (i+1))=(f 0+aZ n fun i=>f (i+1))+f (n+1);rw [uy n];lia
end My
namespace L2
open PySem PySem.Spec PyProof.Rows
section
variable {X:Cx} {tg:Expr}
end
end L2
namespace My
open PySem L2
def Cg(q a b:Int):Prop:=q∣a-b
variable {q:Int}
theorem Cg.refl(a:Int):Cg q a a:=⟨0,by lia⟩
variable {a b:Int}
theorem Cg.of_eq(h:a=b):Cg q a b:=h▸Cg.refl a
theorem Cg.symm(h:Cg q a b):Cg q b a:=by obtain ⟨k,e⟩:=h;exact ⟨-k,by rw [k8];lia⟩
variable {c:Int}
theorem Cg.trans(h1:Cg q a b)(h2:Cg q b c):Cg q a c:=by obtain ⟨k,e⟩:=h1;obtain ⟨l,e'⟩:=h2;exact ⟨k+l,by rw [Int.mul_add];lia⟩
theorem Cg.sub{d:Int}(h1:Cg q a b)(h2:Cg q c d):Cg q (a-c) (b-d):=by obtain ⟨k,e⟩:=h1;obtain ⟨l,e'⟩:=h2;exact ⟨k-l,by rw [Int.mul_sub];lia⟩
theorem Cg.mulL(c:Int)(h:Cg q a b):Cg q (c*a) (c*b):=by obtain ⟨k,e⟩:=h;exact ⟨c*k,by rw [←Int.mul_sub,e];grind⟩
theorem Cg.mulR(c:Int)(h:Cg q a b):Cg q (a*c) (b*c):=by rw [dX a,dX b];exact h.mulL c
theorem qx(q a:Int):Cg q (a % q) a:=⟨-(a / q),by have:=Ac a q;rw [k8];lia⟩
def bP(j:Nat)(v:aO):Nat→Nat→Int:=fun i=>if i<j then v i else v (i+1)
def sgn(j:Nat):Int:=if j % 2=0 then 1 else -1
theorem EI(j:Nat):sgn (j+1)=-sgn j:=by
 unfold sgn;by_cases h:j % 2=0;·rw [ar h,ao (by lia)]
 ·rw [ao h,ar (by lia)];rfl
def aN:List Nat→(Nat→Nat→Int)→Int
 | [],_=>1
 | c::cs,v=>aZ (cs.length+1) fun j=>sgn j*v j c*aN cs (bP j v)
theorem yA(c:Nat)(cs:List Nat)(v:aO):aN (c::cs) v=aZ (cs.length+1) fun j=>sgn j*v j c*aN cs (bP j v):=rfl
theorem Ta{l j:Nat}(h:l≤j)(v:aO):bP l (bP (j+1) v)=bP j (bP l v):=by
 funext i
 unfold bP;by_cases h1:i<l;·rw [ar h1,ar (by lia),ar (by lia),ar h1]
 ·rw [ao h1]
  by_cases h2:i<j;·rw [ar h2,ao h1,ar (by lia)]
  ·rw [ao h2,ao (by lia),ao (by lia)]
theorem Kp(n:Nat)(f:Nat→Int):aZ n (fun i=>-f i)=-aZ n f:=by
 have:=jB (-1) n f;rw [show (fun i=>-f i)=fun i=>-1*f i from funext fun i=>by lia,←this]
 lia
theorem Tb(n:Nat)(F:aO):(aZ (n+1) fun j=>aZ n fun l=>F j l)=(aZ n fun j=>aZ (j+1) fun l=>F (j+1) l)+aZ n fun l=>aZ (l+1) fun j=>F j l:=by
 induction n with
 | zero=>rfl
 | succ n ih=>
  rw [uy (n+1) fun j=>aZ (n+1) fun l=>F j l];have e1:(aZ (n+1) fun j=>aZ (n+1) fun l=>F j l)=(aZ (n+1) fun j=>aZ n fun l=>F j l)+aZ (n+1) fun j=>F j n:=by rw [←qv];exact gw fun j _=>uy n _
  rw [e1,ih,uy n fun j=>aZ (j+1) fun l=>F (j+1) l,uy n fun l=>aZ (l+1) fun j=>F j l];lia
theorem Kq(a b:Nat)(cs:List Nat)(v:aO):aN (a::b::cs) v=-aN (b::a::cs) v:=by
 have ex:∀x y:Nat,aN (x::y::cs) v=(aZ (cs.length+1) fun j=>aZ (j+1) fun l=>sgn (j+1)*sgn l*(v (j+1) x*v l y)*aN cs (bP j (bP l v)))-aZ (cs.length+1) fun j=>aZ (j+1) fun l=>sgn (j+1)*sgn l*(v l x*v (j+1) y)*aN cs (bP j (bP l v)):=fun x y=>by
  have e0:aN (x::y::cs) v=aZ (cs.length+2) fun j=>aZ (cs.length+1) fun l=>sgn j*v j x*(sgn l*bP j v l y*aN cs (bP l (bP j v))):=by rw [yA,gD];refine gw fun j _=>?_;rw [yA,jB]
  rw [e0,Tb (cs.length+1)];rw [Int.sub_eq_add_neg,←Kp]
  congr 1
  ·refine gw fun j _=>gw fun l hl=>?_
   rw [Ta (by lia),show bP (j+1) v l y=v l y by unfold bP;rw [ar (by lia)]]
   grind
  ·refine gw fun l _=>?_
   rw [←Kp];refine gw fun j hj=>?_;rw [show bP j v l y=v (l+1) y by unfold bP;rw [ao (by lia)],EI]
   grind
 rw [ex a b,ex b a];have f:∀x y:Nat,(aZ (cs.length+1) fun j=>aZ (j+1) fun l=>sgn (j+1)*sgn l*(v l x*v (j+1) y)*aN cs (bP j (bP l v)))=aZ (cs.length+1) fun j=>aZ (j+1) fun l=>sgn (j+1)*sgn l*(v (j+1) y*v l x)*aN cs (bP j (bP l v)):=fun x y=>gw fun j _=>gw fun l _=>by rw [dX (v l x)]
 rw [f a b,f b a];lia
theorem uz(c:Nat):∀(cs:List Nat) (v:aO),c∈cs→aN (c::cs) v=0
 | b::cs,v,h=>by
  by_cases e:c=b
  ·subst e
   have:=Kq c c cs v;lia
  ·have h':c∈cs:=by
    rcases cx.mp h with z | z;·exact absurd z e
    ·exact z
   rw [Kq,yA];rw [show (fun j=>sgn j*v j b*aN (c::cs) (bP j v))=fun _=>0 from funext fun j=>by rw [uz c cs _ h',gE],yw]
   rfl
def aQ(e:Nat→Int)(R:aO):Nat→Nat→Int
 | 0=>e
 | i+1=>R i
theorem Kr(e:Nat→Int)(R:aO):bP 0 (aQ e R)=R:=by
 funext i
 unfold bP;rw [ao (by lia)]
 rfl
theorem Ks(i:Nat)(e:Nat→Int)(R:aO):bP (i+1) (aQ e R)=aQ e (bP i R):=by
 funext j
 unfold bP;cases j with
 | zero=>rw [ar (by lia)];rfl
 | succ j=>
  by_cases h:j<i
  ·rw [ar (by lia)]
   show R j=if j<i then R j else R (j+1)
   rw [ar h]
  ·rw [ao (by lia)]
   show R (j+1)=if j<i then R j else R (j+1)
   rw [ao h]
theorem jC(k:Nat)(C:List Nat)(e:Nat→Int)(R:aO):aN (k::C) (aQ e R)=aN C R*e k+aZ C.length fun i=>R i k*(-(sgn i)*aN C (aQ e (bP i R))):=by
 rw [yA,aZ];have e0:sgn 0*aQ e R 0 k*aN C (bP 0 (aQ e R))=aN C R*e k:=by rw [Kr];show 1*e k*aN C R=_;rw [nQ,dX]
 rw [e0]
 congr 1
 refine gw fun i _=>?_;rw [Ks,EI];show -sgn i*R i k*_=_;grind
def uA(C:List Nat)(R:aO):Prop:=∀x:Nat→Int,(∀c∈C,(aZ C.length fun i=>R i c*x i)=0)→∀k,(aZ C.length fun i=>R i k*x i)=0
theorem Tc(R:aO):uA [] R:=fun _ _ _=>rfl
variable {C:List Nat} {R:aO}
theorem Te{h:Nat→Int}{c:Nat}(sp:uA C R)(d0:aN C R≠0)(p0:aN (c::C) (aQ h R)≠0):uA (c::C) (aQ h R):=by
 intro x hx k;have ex:∀k,(aZ (c::C).length fun i=>aQ h R i k*x i)=h k*x 0+aZ C.length fun i=>R i k*x (i+1):=fun k=>rfl;have hz:∀k,aN C R*(h k*x 0+aZ C.length fun i=>R i k*x (i+1))-x 0*aN (k::C) (aQ h R)=aZ C.length fun i=>R i k*(aN C R*x (i+1)-x 0*(-(sgn i)*aN C (aQ h (bP i R)))):=fun k=>by
  rw [jC,show (fun i=>R i k*(aN C R*x (i+1)-x 0*(-(sgn i)*aN C (aQ h (bP i R)))))=fun i=>aN C R*(R i k*x (i+1)) + -(x 0)*(R i k*(-(sgn i)*aN C (aQ h (bP i R)))) from funext fun i=>by grind,qv,←jB,←jB]
  grind
 have z:=sp _ fun c' fq=>by rw [←hz c',←ex c',hx c' (fj _ fq),uz c' C _ fq];simp
 have z1:∀k,aN C R*(h k*x 0+aZ C.length fun i=>R i k*x (i+1))=x 0*aN (k::C) (aQ h R):=fun k=>by have:=hz k;rw [z k] at this;omega
 have x0:x 0=0:=by
  have e:=z1 c;rw [←ex c,hx c fQ,gE] at e;rcases nO.mp e.symm with h | h;·exact h
  ·exact absurd h p0
 have e:=z1 k;rw [x0,gh] at e;rw [ex k,x0];rcases nO.mp e with h | h;·exact absurd h d0
 ·exact h
theorem Tf(sp:uA C R)(e h:Nat→Int)(c k:Nat) :
  aN C R*aN (k::c::C) (aQ e (aQ h R))=aN (c::C) (aQ h R)*aN (k::C) (aQ e R)-aN (c::C) (aQ e R)*aN (k::C) (aQ h R):=by
 have two:∀k,aN (k::c::C) (aQ e (aQ h R))=aN (c::C) (aQ h R)*e k-aN (c::C) (aQ e R)*h k+aZ C.length fun i=>R i k*(sgn i*aN (c::C) (aQ e (aQ h (bP i R)))):=fun k=>by
  rw [jC,gD,aZ];have e0:aQ h R 0 k*(-(sgn 0)*aN (c::C) (aQ e (bP 0 (aQ h R))))=-(aN (c::C) (aQ e R)*h k):=by rw [Kr];show h k*(-1*_)=_;grind
  rw [e0,show (fun i=>aQ h R (i+1) k*(-(sgn (i+1))*aN (c::C) (aQ e (bP (i+1) (aQ h R)))))=fun i=>R i k*(sgn i*aN (c::C) (aQ e (aQ h (bP i R)))) from funext fun i=>by rw [Ks,EI,Int.neg_neg];rfl]
  lia
 have hz:∀k,aN C R*aN (k::c::C) (aQ e (aQ h R))-(aN (c::C) (aQ h R)*aN (k::C) (aQ e R)-aN (c::C) (aQ e R)*aN (k::C) (aQ h R))=aZ C.length fun i=>R i k*(aN C R*(sgn i*aN (c::C) (aQ e (aQ h (bP i R))))-aN (c::C) (aQ h R)*(-(sgn i)*aN C (aQ e (bP i R)))+aN (c::C) (aQ e R)*(-(sgn i)*aN C (aQ h (bP i R)))):=fun k=>by
  rw [two k,jC k C e R,jC k C h R];rw [show (fun i=>R i k*(aN C R*(sgn i*aN (c::C) (aQ e (aQ h (bP i R))))-aN (c::C) (aQ h R)*(-(sgn i)*aN C (aQ e (bP i R)))+aN (c::C) (aQ e R)*(-(sgn i)*aN C (aQ h (bP i R)))))=fun i=>(aN C R*(R i k*(sgn i*aN (c::C) (aQ e (aQ h (bP i R))))) + -(aN (c::C) (aQ h R))*(R i k*(-(sgn i)*aN C (aQ e (bP i R)))))+aN (c::C) (aQ e R)*(R i k*(-(sgn i)*aN C (aQ h (bP i R)))) from funext fun i=>by grind,qv,qv,←jB,←jB,←jB]
  grind
 have z:=sp _ fun c' fq=>by rw [←hz c',uz c' (c::C) _ (fj _ fq),uz c' C _ fq,uz c' C _ fq];simp
 have:=hz k;rw [z k] at this;omega
def lP(C:List Nat)(R:aO)(f:Nat→Int):Nat→Int:=fun k=>aN (k::C) (aQ f R)
theorem Tg(R:aO)(f:Nat→Int)(k:Nat):lP [] R f k=f k:=by show aN [k] (aQ f R)=f k;rw [jC];show 1*f k+0=f k;lia
theorem Th(R:aO)(f:Nat→Int){c:Nat}(h:c∈C):lP C R f c=0:=uz c C _ h
theorem Kt{e:Nat→Int}:∀{C:List Nat} (S:aO),C≠[]→(∀x∈C,e x=0)→aN C (aQ e S)=0
 | x::C,S,_,h=>by
  rw [jC,h x fQ,gE,hZ];cases C with
  | nil=>rfl
  | cons y C=>rw [show (fun i=>S i x*(-(sgn i)*aN (y::C) (aQ e (bP i S))))=fun _=>0 from funext fun i=>by rw [Kt (bP i S) (by simp) fun z hz=>h z (fj _ hz)];simp,yw]
theorem Ti(sp:uA C R)(f h:Nat→Int)(c k:Nat):lP C R h c*lP C R f k-lP C R f c*lP C R h k=aN C R*lP (c::C) (aQ h R) f k:=(Tf sp f h c k).symm
def gL:Nat→Nat
 | 0=>1
 | n+1=>(n+1)*gL n
theorem Ku{M:Nat}:∀(n:Nat) (f:Nat→Int),(∀i,i<n→(f i).natAbs≤M)→(aZ n f).natAbs≤n*M
 | 0,_,_=>by show (0:Int).natAbs≤_;simp
 | n+1,f,h=>by rw [uy,Nat.succ_mul];exact aH (Int.natAbs_add_le ..) (Nat.add_le_add (Ku n f fun i hi=>h i (by lia)) (h n (by lia)))
theorem Be{B:Nat}:∀(C:List Nat) (v:aO),(∀i c,(v i c).natAbs≤B)→(aN C v).natAbs≤gL C.length*B ^ C.length
 | [],_,_=>by show (1:Int).natAbs≤1*B ^ 0;simp
 | c::C,v,h=>by
  rw [yA];refine aH (Ku (M:=B*(gL C.length*B ^ C.length)) _ _ fun j _=>?_) (Nat.le_of_eq ?_)
  ·rw [fH,fH]
   have s1:(sgn j).natAbs=1:=by unfold sgn;split <;> rfl
   rw [s1,Nat.one_mul];refine fU (h j c) (Be C _ fun i c'=>?_);unfold bP
   split
   ·exact h _ _
   ·exact h _ _
  ·rw [gD,gL,Nat.pow_succ]
   rw [Nat.mul_assoc,Nat.mul_left_comm B,Nat.mul_comm B]
theorem yB(hq:a9 q):¬q∣1:=fun h=>by
 rcases hq with rfl | ⟨h2,_⟩
 ·have:=eX.mp h
  lia
 ·have:=Int.le_of_dvd (by decide) h
  lia
theorem yC{u x:Int}(hq:a9 q)(nu:¬q∣u)(h:Cg q (u*x) 0):Cg q x 0:=by unfold Cg at h ⊢;rw [ku] at h ⊢;exact pL fun nx=>SW hq nu nx h
end My
namespace L2
open PySem PySem.Spec PyProof.Rows
theorem Tj{xs ys:List Int}(h:xs.length=ys.length):((List.range xs.length).all fun j=>g6 (.int (xs.getD j 0)) (.int (ys.getD j 0)))=decide (xs=ys):=by
 by_cases e:xs=ys
 ·subst e
  rw [cA rfl,pH];intro j _;exact A6 rfl
 ·rw [c_ e]
  cases z:((List.range xs.length).all fun j=>g6 (.int (xs.getD j 0)) (.int (ys.getD j 0))) with
  | false=>rfl
  | true=>refine absurd (gQ h fun j h1 h2=>?_) e;have:=pH.mp z j (eW.mpr h1);have this:(xs.getD j 0 == ys.getD j 0)=true:=this;rw [ko,jb,jb] at this;simpa [h1,h2] using this
end L2
namespace My
open PySem L2
def jD(B:Nat)(H:Hp)(q:Int)(a:Addr)(ah:dP):Prop:=∃vs:List V,H a=some (.lst vs)∧vs.length=ah.length∧∀(i:Nat) (v:V) (ps:cb),vs[i]?=some v→ah[i]?=some ps→∃r:Addr,v=.ref r∧qw B H q r ps
theorem jD.mono{B:Nat}{H H':Hp}{q:Int}{a:Addr}{ah:dP}(h:jD B H q a ah)(s:af H H'):jD B H' q a ah:=by obtain ⟨vs,e,l,k⟩:=h;exact ⟨vs,s _ _ e,l,fun i v ps h1 h2=>by obtain ⟨r,e1,e2⟩:=k i v ps h1 h2;exact ⟨r,e1,e2.mono s⟩⟩
def Tn(N:Addr):Sp:=fun vs H Q E=>∃(a:Addr) (q:Int) (B:Nat) (ah:dP) (m:Nat),vs=[.ref a]∧jD B H q a ah∧1≤ah.length∧ah.length≤40∧(∀ps∈ah,ps.length=m)∧∀H',af H H'→Q (.int (m:Int)) H'
def To(N:Addr):Sp:=fun vs H Q E=>∃(a:Addr) (q:Int) (B:Nat) (ah:dP) (m:Nat),vs=[.ref a]∧jD B H q a ah∧1≤ah.length∧ah.length≤40∧(∀ps∈ah,ps.length=m)∧(m≠ah.length→∀H',af H H'→E (.ref N) none H')∧(m=ah.length→∀H',af H H'→Q (.int (m:Int)) H')
def atT(ah:dP)(i j:Nat):Int×Int:=(ah.getD i []).getD j o1
end My
namespace L2
open PySem PySem.Spec PyProof.Rows
end L2
namespace My
open PySem L2
theorem Tq{x m a b:Int}(l:cj x m)(e:x*b=a*m):m∣b:=by
 have h:m∣x*b:=⟨a,by rw [e,dX]⟩
 have g:Int.gcd m x=1:=by rw [Int.gcd_comm];exact l.f9
 have h2:m.natAbs∣x.natAbs*b.natAbs:=by rw [←fH];exact Int.natAbs_dvd_natAbs.mpr h
 exact Int.natAbs_dvd_natAbs.mp (Nat.Coprime.dvd_of_dvd_mul_left g h2)
end My
namespace L2
open PySem PySem.Spec PyProof.Rows
section
variable {X:Cx}
end
end L2
namespace My
open PySem L2
end My
namespace L2
open PySem PySem.Spec PyProof.Rows
end L2
namespace My
open PySem L2
theorem lQ{wi:TI}{ρ:St→St}{te:TE}{σ:St}{H:Hp}{Q:VK}{xs:List V}{n:Nat}(hl:xs.length=n)(mU:∀R:It→Hp→Prop,(∀J H1,af H H1→oI J xs H1→R J H1)→wi σ H R)(hn:n<sizeLine)
  (P:Addr→Nat→Addr→Hp→Prop) (mono:∀D i y H H' ys,P D i y H→y≠D→H D=some (.lst ys)→(∀b o,b≠D→H b=some o→H' b=some o)→P D i y H')
  (step:∀D (i:Nat) (x:V),xs[i]?=some x→∀(Hc:Hp) (R:VK),af H Hc→(∃ys,Hc D=some (.lst ys))→(∀y H3,af Hc H3→Hc y=none→(∃o,H3 y=some o)→P D i y H3→R (.ref y) H3)→te (some x::ρ σ) Hc R)
  (fin:∀D (A:Nat→Addr) Hc,H D=none→af H Hc→(∀i j,i<n→j<n→A i=A j→i=j)→(∀i,i<n→P D i (A i) Hc∧A i≠D)→Hc D=some (.lst ((List.range n).map fun i=>V.ref (A i)))→Q (.ref D) Hc):jy wi ρ (fun _ H Q=>Q true H) te σ H Q:=by
 refine mU _ fun J H1 s1 js=>?_;intro D nD;have hD:H D=none:=by
  cases e:H D with
  | none=>rfl
  | some o=>rw [s1 _ _ e] at nD;cases nD
 refine ⟨fun i m ys Hc=>m=n-i∧i≤n∧Hc D=some (.lst ys)∧af H1 Hc∧∃A:Nat→Addr,ys=(List.range i).map (fun j=>V.ref (A j))∧(∀a b,a<i→b<i→A a=A b→a=b)∧∀j,j<i→P D j (A j) Hc∧A j≠D∧∃o,Hc (A j)=some o,⟨_,rfl,ck _,az,iC (af.refl H1) nD,fun _=>D,rfl,(fun a b h=>by lia),fun j h=>by lia⟩,?_⟩
 rintro i m ys Hc ⟨rfl,hi,eD,sH,A,rfl,inj,hA⟩;refine ⟨eD,?_⟩;by_cases cu:i<n
 ·refine .inr ⟨js.go i Hc sH (by lia),fun x H' hy=>?_⟩
  obtain ⟨rfl,hx⟩:=js.gk i Hc x H' sH hy;rw [ar rfl];refine step D i x (hx (by lia)) _ _ (s1.trans sH) ⟨_,eD⟩ fun y H3 s3 ny ⟨o,ho⟩ hp=>?_
  have e3:=s3 _ _ eD;have yD:y≠D:=fun e=>by rw [e,eD] at ny;cases ny
  have bR:∀b o,b≠D→H3 b=some o→upd H3 D (.lst ((List.range i).map (fun j=>V.ref (A j))++[.ref y])) b=some o:=fun b o nb e=>by rw [aP nb];exact e
  have nA:∀j,j<i→A j≠y:=fun j hj e=>by obtain ⟨_,_,o',h'⟩:=hA j hj;rw [e,ny] at h';cases h'
  refine ⟨e3,by simp;lia,n-(i+1),by lia,rfl,cu,az,iC (sH.trans s3) nD,fun j=>if j=i then y else A j,?_,fun a b ha hb e=>?_,fun j hj=>?_⟩
  ·rw [nR,jf]
   congr 1
   ·refine h_ fun j hj=>?_
    dsimp only;rw [ao (by have:=eW.mp hj;lia)]
   ·simp
  ·dsimp only at e
   by_cases z1:a=i
   ·by_cases z2:b=i
    ·lia
    ·rw [ar z1,ao z2] at e
     exact absurd e.symm (nA b (by lia))
   ·by_cases z2:b=i
    ·rw [ao z1,ar z2] at e
     exact absurd e (nA a (by lia))
    ·rw [ao z1,ao z2] at e
     exact inj a b (by lia) (by lia) e
  ·dsimp only
   by_cases z:j=i
   ·rw [ar z,z]
    exact ⟨mono D i y H3 _ _ hp yD e3 bR,yD,o,bR _ _ yD ho⟩
   ·rw [ao z]
    obtain ⟨h1,h2,o',h3⟩:=hA j (by lia)
    exact ⟨mono D j (A j) H' _ _ h1 h2 eD (fun b o nb e=>bR b o nb (s3 _ _ e)),h2,o',bR _ _ h2 (s3 _ _ h3)⟩
 ·have e:i=n:=by lia
  subst e;exact .inl ⟨js.stop _ Hc sH (by lia),fin D A Hc hD (s1.trans sH) inj (fun j hj=>⟨(hA j hj).1,(hA j hj).2.1⟩) eD⟩
open PySem PySem.W PyProof.Rows
section
variable {n:Nat} {c:Nat→Int}
end
end My
namespace Tm
open PySem PySem.W PyProof.Rows
section
variable {prog:Program} {w:World} {A:Around} {E:aX} {s:Shared} {κ:SortKind} {key:Keyed→Int} {Ok:Keyed→Prop}
end
section
variable {prog:Program} {w:World} {A:Around} {E:aX} {s:Shared} {κ:SortKind} {key:Keyed→Int} {Ok:Keyed→Prop}
section
end
end
section
variable {key:Keyed→Int}
end
section
variable {prog:Program} {w:World} {A:Around} {E:aX} {s:Shared} {κ:SortKind} {key:Keyed→Int} {Ok:Keyed→Prop}
end
section
variable {prog:Program} {w:World} {A:Around} {E:aX} {s:Shared} {κ:SortKind} {key:Keyed→Int} {Ok:Keyed→Prop}
variable {arr:Array Keyed} {pend:Array (Nat×Nat×Nat)} {g:Nat}
end
section
variable {prog:Program} {w:World} {A:Around} {E:aX} {s:Shared} {κ:SortKind} {key:Keyed→Int} {Ok:Keyed→Prop} {arr:Array Keyed} {pend:Array (Nat×Nat×Nat)} {g:Nat}
end
section
variable {prog:Program} {w:World} {A:Around} {E:aX} {s:Shared} {κ:SortKind} {key:Keyed→Int} {Ok:Keyed→Prop} {arr:Array Keyed} {pend:Array (Nat×Nat×Nat)} {g:Nat}
end
section
variable {prog:Program} {w:World} {A:Around} {E:aX} {s:Shared} {κ:SortKind} {key:Keyed→Int} {Ok:Keyed→Prop} {arr:Array Keyed} {pend:Array (Nat×Nat×Nat)} {g:Nat}
end
section
variable {key:Keyed→Int} {arr af2:Array Keyed}
end
section
variable {prog:Program} {w:World} {A:Around} {E:aX} {s:Shared} {κ:SortKind} {key:Keyed→Int} {Ok:Keyed→Prop} {arr:Array Keyed} {pend:Array (Nat×Nat×Nat)} {g:Nat}
end
end Tm
namespace My
open PySem PySem.W PyProof.Rows Tm
section
variable {prog:Program} {w:World} {A:Around} {E:aX} {s:Shared}
end
open PySem PySem.W PyProof.Rows
section
variable {prog:Program} {w:World} {A:Around} {E:aX} {s:Shared}
end
end My
namespace L2
open PySem PySem.W PyProof.Rows My
end L2
namespace My
open PySem L2
def Tr(K:aD):R2:=fun x y H Q=>∃a b xs,x=.ref a∧y=.ref b∧bU K H a xs∧H b=some (.lst [])∧Q (.bl (!xs.isEmpty)) H
variable {X:Cx}
theorem Ts(hu:X.A.units+64<cLine):cg X (compareOp .NotEq) (Tr X.K):=by
 intro pins s σ H x y v u Q I rx ry h;obtain ⟨a,b,xs,rfl,rfl,h1,h2,q⟩:=h;cases rx;cases ry;obtain ⟨us,r1,t1,_⟩:=I.list h1;obtain ⟨vs,r2,t2,_⟩:=I.list (bU.of h2);have l1:=r1.length;have l2:=r2.length;cases xs with
 | nil=>
  refine SeqAt.RcNeAt.lists (e:=fun _=>true) t1.isList t2.isList (by simp at l1 l2 ⊢;lia) (by lia) (fun j z1 z2=>?_) _ _ _ _ ?_
  ·simp at l1
   have:us=[]:=List.length_eq_zero_iff.mp l1.symm;subst this;simp at z1
  ·rw [all_range]
   exact ⟨.bl false,H,I,rfl,q⟩
 | cons w ws=>
  refine SeqAt.RcNeAt.lists_lengths t1.isList t2.isList ?_ (by lia) _ _ _ _ ⟨.bl true,H,I,rfl,q⟩
  simp at l1 l2 ⊢;lia
def cW(H:Hp)(vs:List V)(L:cb):Prop:=vs.length=L.length∧∀(k:Nat) (v:V) (p:Int×Int),vs[k]?=some v→L[k]?=some p→∃b,v=.ref b∧H b=some (.tup [.int p.1,.int p.2])
theorem cW.nil(H:Hp):cW H [] []:=⟨rfl,fun k v p h=>by simp at h⟩
variable {H H':Hp} {L:cb}
theorem cW.mono{vs:List V}(h:cW H vs L)(s:af H H'):cW H' vs L:=⟨h.1,fun k v p h1 h2=>by obtain ⟨b,e,g⟩:=h.2 k v p h1 h2;exact ⟨b,e,s _ _ g⟩⟩
variable {xs:List V}
theorem cW.bR{vs:List V}{r:Addr}(h:cW H vs L)(e:H r=some (.lst xs))(k:∀b o,b≠r→H b=some o→H' b=some o):cW H' vs L:=⟨h.1,fun i v p h1 h2=>by obtain ⟨b,eb,g⟩:=h.2 i v p h1 h2;refine ⟨b,eb,k b _ (fun z=>?_) g⟩;rw [z,e] at g;cases g⟩
def EK(H:Hp)(t:Addr)(n:Nat)(L:cb):Prop:=∃(lt:Addr) (us:List V),H t=some (.tup [.int (n:Int),.ref lt])∧H lt=some (.tup us)∧cW H us L
theorem cW.cat{us zs:List V}{M:cb}(h:cW H us L)(g:cW H zs M):cW H (us++zs) (L++M):=⟨by simp [h.1,g.1],fun k v p h1 h2=>by
 have hl:=h.1;by_cases z:k<us.length
 ·rw [pD z] at h1
  rw [pD (by lia)] at h2
  exact h.2 k v p h1 h2
 ·rw [pB (by lia)] at h1
  rw [pB (by lia),show k-L.length=k-us.length by lia] at h2
  exact g.2 _ v p h1 h2⟩
variable {K:aD}
theorem Bf(hu:X.A.units<cLine)(hK:X.K=K:=by rfl):cg X (compareOp .NotEq) (A4 K):=by subst hK;exact A5 hu
theorem uB{B B':Nat}{q:Int}{v u:V}{x m:Int}{R:VK}(hv:a_ B H q v x m)(hu:a_ B' H q u 0 1)(k:R (.bl (!decide (x=0))) H):A4 K v u H R:=by
 cases hv with
 | ba e l bx bm=>
  cases hu with
  | ba e' l' _ _=>
   refine .inl ⟨_,_,_,_,rfl,rfl,.of e,.of e',rfl,rfl,?_⟩;have z:(g7 [V.int x,V.int m] [V.int 0,V.int 1])=decide (x=0):=by
    show ((x == 0) && ((m == 1) && true))=_;by_cases hx:x=0
    ·subst hx
     have:=l.f9;rw [Int.gcd_zero_left] at this;have:=l.pos;have:m=1:=by lia
     subst this;rfl
    ·rw [c_ hx,show (x == 0)=false by simp [hx],Bool.false_and]
   rw [z];simpa using k
  | rem h0 h1 _=>lia
 | rem h0 h1 h2=>
  cases hu with
  | ba _ _ _ _=>lia
  | rem _ _ _=>
   refine .inr ⟨rfl,?_⟩;rw [show decide (V.int x=V.int 0)=decide (x=0) by simp]
   exact k
theorem Kv{wi:TI}{ρ:St→St}{tt:TT}{te:TE}{σ:St}{Q:VK}(pr:Nat→Bool)(mU:∀R:It→Hp→Prop,(∀J,oI J xs H→R J H)→wi σ H R)(hn:xs.length<sizeLine)
  (P:Addr→Nat→V→Hp→Prop) (mono:∀D i y H H' ys,P D i y H→H D=some (.lst ys)→(∀b o,b≠D→H b=some o→H' b=some o)→P D i y H')
  (test:∀(i:Nat) (x:V),xs[i]?=some x→∀(Hc:Hp) (R:Bool→Hp→Prop),af H Hc→R (pr i) Hc→tt (some x::ρ σ) Hc R)
  (step:∀D (i:Nat) (x:V),xs[i]?=some x→∀(Hc:Hp) (R:VK),af H Hc→(∃ys,Hc D=some (.lst ys))→(∀y H3,af Hc H3→P D i y H3→R y H3)→te (some x::ρ σ) Hc R)
  (fin:∀D ys Hc,H D=none→af H Hc→ys.length=((List.range xs.length).filter pr).length→(∀(k i:Nat) (y:V),ys[k]?=some y→((List.range xs.length).filter pr)[k]?=some i→P D i y Hc)→Hc D=some (.lst ys)→Q (.ref D) Hc):jy wi ρ tt te σ H Q:=by
 refine mU _ fun J js=>?_;intro D nD;refine ⟨fun i m ys Hc=>m=xs.length-i∧i≤xs.length∧Hc D=some (.lst ys)∧af H Hc∧ys.length=((List.range i).filter pr).length∧∀(k i':Nat) (y:V),ys[k]?=some y→((List.range i).filter pr)[k]?=some i'→P D i' y Hc,⟨_,rfl,ck _,az,iC (af.refl H) nD,rfl,fun k i y h=>by simp at h⟩,?_⟩
 rintro i m ys Hc ⟨rfl,hi,eD,sH,ly,hP⟩;refine ⟨eD,?_⟩;by_cases cu:i<xs.length
 ·refine .inr ⟨js.go i Hc sH cu,fun x H' hy=>?_⟩
  obtain ⟨rfl,hx⟩:=js.gk i Hc x H' sH hy;refine test i x (hx cu) _ _ sH ?_;have fs:(List.range (i+1)).filter pr=(List.range i).filter pr++(if pr i=true then [i] else []):=by
   rw [nR,List.filter_append]
   congr 1
   cases e:pr i <;> simp [e]
  have fl:((List.range i).filter pr).length≤i:=aH (DG _ _) (by simp)
  cases e:pr i with
  | true=>
   rw [ar rfl];refine step D i x (hx cu) _ _ sH ⟨_,eD⟩ fun y H3 s3 hp=>?_;have e3:=s3 _ _ eD;have bR:∀b o,b≠D→H3 b=some o→upd H3 D (.lst (ys++[y])) b=some o:=fun b o nb e=>by rw [aP nb];exact e
   refine ⟨e3,by lia,xs.length-(i+1),by lia,rfl,cu,az,iC (sH.trans s3) nD,?_,fun k i' y' h1 h2=>?_⟩
   ·rw [fs,e,ar rfl,fo,fo,ly]
    rfl
   ·rw [fs,e,ar rfl] at h2
    by_cases z:k<ys.length
    ·rw [pD z] at h1
     rw [pD (by lia)] at h2
     refine mono D i' y' H' _ ys (hP k i' y' h1 h2) eD fun b o nb e=>bR b o nb (s3 _ _ e)
    ·have hk:=(bQ.mp h1).1
     rw [fo,nK] at hk;obtain rfl:k=ys.length:=by lia
     rw [pB (aK _),Nat.sub_self] at h1;rw [pB (by lia),show ys.length-((List.range i).filter pr).length=0 by lia] at h2
     cases h1;cases h2;exact mono D _ _ H3 _ ys hp e3 bR
  | false=>
   rw [ao (by simp)]
   refine ⟨xs.length-(i+1),by lia,rfl,cu,eD,sH,?_,fun k i' y' h1 h2=>?_⟩
   ·rw [fs,e,ao (by simp),tT]
    exact ly
   ·rw [fs,e,ao (by simp),tT] at h2
    exact hP k i' y' h1 h2
 ·have e:i=xs.length:=by lia
  subst e;exact .inl ⟨js.stop _ Hc sH (aK _),fin D ys Hc nD sH ly hP eD⟩
def lS(n:Nat)(f:Nat→Nat→Bool)(i:Nat):List (Int×Int):=((List.range (n-(i+1))).filter fun k=>f i (i+1+k)).map fun k=>((i:Int),((i+1+k:Nat):Int))
def dr(n:Nat)(f:Nat→Nat→Bool):Nat→List (Int×Int)
 | 0=>[]
 | i+1=>dr n f i++lS n f i
variable {n i:Nat} {f:Nat→Nat→Bool}
theorem Tu{p:Int×Int}(h:p∈lS n f i):∃j,i<j∧j<n∧f i j=true∧p=((i:Int),(j:Int)):=by obtain ⟨k,hk,rfl⟩:=jg.mp h;obtain ⟨h1,h2⟩:=pz.mp hk;have:=eW.mp h1;exact ⟨i+1+k,by lia,by lia,h2,rfl⟩
theorem Tx{j:Nat}(h1:i<j)(h2:j<n)(h3:f i j=true):((i:Int),(j:Int))∈lS n f i:=by
 refine jg.mpr ⟨j-(i+1),pz.mpr ⟨eW.mpr (by lia),?_⟩,?_⟩
 ·show f i (i+1+(j-(i+1)))=true
  rw [show i+1+(j-(i+1))=j by lia]
  exact h3
 ·rw [show i+1+(j-(i+1))=j by lia]
theorem mem_of{n:Nat}{f:Nat→Nat→Bool}{p:Int×Int}:∀{k:Nat},p∈dr n f k→∃i j,i<k∧i<j∧j<n∧f i j=true∧p=((i:Int),(j:Int))
 | 0,h=>by cases h
 | k+1,h=>by
  rcases fk.mp h with h | h
  ·obtain ⟨i,j,h1,h2⟩:=mem_of h
   exact ⟨i,j,by lia,h2⟩
  ·obtain ⟨j,h1⟩:=Tu h
   exact ⟨k,j,by lia,h1⟩
theorem Bg{n:Nat}{f:Nat→Nat→Bool}{i j:Nat}(h1:i<j)(h2:j<n)(h3:f i j=true):∀{k:Nat},i<k→((i:Int),(j:Int))∈dr n f k
 | k+1,h=>by
  by_cases z:i=k
  ·subst z
   exact eB _ (Tx h1 h2 h3)
  ·exact mi _ (Bg h1 h2 h3 (by lia))
def jE(ah:dP)(i j:Nat):Bool:=!decide (((ah.getD i []).getD j o1).1=0)
def b5(ah:dP)(i j:Nat):Bool:=jE ah i j || jE ah j i
def Tz(C:Addr):Sp:=fun vs H Q _=>∃(z a:Addr) (q:Int) (B:Nat) (ah:dP) (n i:Nat),vs=[.ref z,.ref a,.int (i:Int)]∧eK C H z q∧a9 q∧jD B H q a ah∧ah.length=n∧n≤40∧(∀ps∈ah,ps.length=n)∧i<n ∧
 ∀(r:Addr) (us:List V) (H':Hp),af H H'→H r=none→H' r=some (.lst us)→cW H' us (lS n (b5 ah) i)→Q (.ref r) H'
def TB(C N:Addr):Sp:=fun vs H Q E=>∃(z a:Addr) (q:Int) (B:Nat) (ah:dP) (m:Nat),vs=[.ref z,.ref a]∧eK C H z q∧a9 q∧jD B H q a ah∧1≤ah.length∧ah.length≤40∧(∀ps∈ah,ps.length=m) ∧
 (m≠ah.length→∀H',af H H'→E (.ref N) none H') ∧
 (m=ah.length→∀(t:Addr) (H':Hp),af H H'→H t=none→EK H' t m (dr m (b5 ah) m)→Q (.ref t) H')
end My
namespace L2
open PySem PySem.Spec PyProof.Rows
section
variable {X:Cx} {pins:a7} {σ:St} {H:Hp} {s:Shared}
end
end L2
namespace My
open PySem L2
theorem TC{q:Int}:(lO q).prime=if q=0 then V.aU else .int q:=by
 unfold lO
 split <;> rfl
end My
namespace L2
open PySem PySem.Spec PyProof.Rows
def EL(o:Obj):Nat:=match o.data with
 | .dict _ ep=>ep
 | _=>0
def uC(a:Addr)(o:Obj)(au:List (Key×V)):It:=
 ⟨fun i H=>H a=some (.cI o (.dK au))∧i<au.length,fun i H x H'=>H'=H∧∃kv,au[i]?=some kv∧x=kV kv.1,fun i H=>H a=some (.cI o (.dK au))∧au.length≤i⟩
variable {k:Key}
theorem TF{v:Value}(h:pO k v=true):RelV (kV k) v:=by
 rcases lh h with ⟨i,t,rfl,rfl⟩ | ⟨x,t,rfl,rfl⟩;·exact ⟨t,rfl⟩
 ·exact ⟨t,rfl⟩
theorem Kw{au:List (Key×V)}{vs:List (Key×Value)}:∀{i:Nat} {kv:Key×V},KV au vs→au[i]?=some kv→∃v,vs[i]?=some (kv.1,v)
 | _,_,.nil,h=>by simp at h
 | 0,kv,.cons (b:=b) r _,h=>by simp at h;subst h;obtain ⟨k,v⟩:=b;have e:_=k:=r.1;exact ⟨v,by rw [e];rfl⟩
 | i+1,kv,.cons _ t,h=>by simp at h;obtain ⟨v,e⟩:=Kw t h;exact ⟨v,by simpa using e⟩
section
variable {X:Cx} {pins:a7} {σ:St} {H:Hp} {s:Shared}
theorem Inv.EM{a:Addr}{o:Obj}{au:List (Key×V)}(I:Inv X pins σ H s)(h:H a=some (.cI o (.dK au))):∃vs,KV au vs∧s.heap.DictAt (iQ X.prog X.w) a vs (EL o):=by obtain ⟨g,_,_,vs,r,o',es,ep,g',c,d,rest⟩:=(show cT X.prog X.w H s.heap a (.cI o (.dK au)) from I.aG a _ h);rw [g] at g';cases g';refine ⟨vs,r,o,es,g,c,?_,rest⟩;rw [d];unfold EL;rw [d]
end
variable {P:Program} {w:World}
theorem TH{K:aD}{tg:Expr}(a it:Addr)(o:Obj)(au:List (Key×V)):Turn P w K tg (uC a o au) [it] it (fun i h=>h.IsKeyIter it a i au.length (EL o)) where
 mem:=by simp
 obj:=fun i h st b hb=>by
  have e:b=it:=by simpa using hb
  subst e;obtain ⟨o,e,c,d⟩:=st;exact ⟨o,e,fun v z=>by rw [d] at z;cases z⟩
 keep:=fun i h h' st k=>by obtain ⟨o,e,c,d⟩:=st;exact ⟨o,k it (by simp) o e,c,d⟩
 item:=by
  intro X hP hw hK hc i pins s σ H E I hf st hg;subst hP hw hK;obtain ⟨eH,hi⟩:=hg;obtain ⟨vs,r,hm⟩:=I.EM eH;have lr:au.length=vs.length:=Paired.length r;have ek:au[i]?=some au[i]:=by simp [hi]
  obtain ⟨v,ev⟩:=Kw r ek;obtain ⟨f0,f1,f2,f3,f4,f5⟩:=hf it (by simp)
  rw [lr] at st;refine wpAny_pyNext_dict_item st hm ev fun key h' hk gG sb=>?_;have I1:Inv X pins σ H {s with heap:=h'}:=I.turned (t':=s.toks) (fun b o hb e=>(sb.2 b hb).trans e) f0 f1 f3 f4 f5;obtain ⟨o',e,c,d⟩:=id gG;rw [←lr] at gG;exact ⟨key,rfl,t8 (s:={s with heap:=h'}) e c d (by decide) ⟨kV au[i].1,H,I1,TF hk,⟨rfl,_,ek,rfl⟩,gG,fun b hb=>(hf b hb).1⟩⟩
 done:=by
  intro X hP hw hK hc i pins s σ H E I hf st hg;subst hP hw hK;obtain ⟨eH,hi⟩:=hg;obtain ⟨vs,r,hm⟩:=I.EM eH;have lr:au.length=vs.length:=Paired.length r;obtain ⟨f0,f1,f2,f3,f4,f5⟩:=hf it (by simp)
  rw [lr] at st;exact wpAny_pyNext_dict_end (I.ok.hd hc) st hm (by simp;lia) fun h' eb=>⟨rfl,I.turned (t':=s.toks) (fun b o hb e=>eb b o hb e) f0 f1 f3 f4 f5⟩
 self:=fun _ _ _ _ _ st h=>wpAny_pyIter_keyiter st h
section
variable {X:Cx} {tg:Expr}
def TJ(tl:TE):TI:=fun σ H R=>tl σ H fun x H1=>∃a au,x=.ref a∧((H1 a=some (.dK au)∧∀o,R (uC a o au) (upd H1 a (.cI o (.dK au))))∨∃o,H1 a=some (.cI o (.dK au))∧R (uC a o au) H1)
theorem TK{l:Expr}{tl:TE}(hl:PE X l tl):PI X tg l (TJ tl):=by
 intro pins s σ H R I h;refine aS (hl pins s σ H _ I h) fun v s1 ⟨x,H1,I1,r1,q1⟩=>?_;obtain ⟨a,au,e,q⟩:=q1;subst e;cases r1;have main:∀{H2:Hp} {o:Obj},Inv X pins σ H2 s1→H2 a=some (.cI o (.dK au))→R (uC a o au) H2→wpAny (model X.prog X.w) X.A (pyIter (.ref a)) (Ar X pins σ tg R) X.xe s1:=fun{H2 o} I2 eH q=>by
  obtain ⟨vs,r,hm⟩:=I2.EM eH;obtain ⟨_,_,sys,_⟩:=(show cT X.prog X.w H2 s1.heap a (.cI o (.dK au)) from I2.aG a _ eH);have lr:au.length=vs.length:=Paired.length r;refine wpAny_pyIter_dict sys hm ?_;refine ⟨s1.heap.objs.size,[s1.heap.objs.size],_,_,H2,rfl,I2.kept (t':=s1.toks) fun b o e=>cL _ e,TH a _ o au,⟨_,fm _ rfl,rfl,by rw [lr];rfl⟩,fun b hb=>?_,q⟩
  have e:b=s1.heap.objs.size:=by simpa using hb
  subst e;exact I2.p9 (aK _) (I2.aG.fresh (aK _))
 rcases q with ⟨eH,q⟩ | ⟨o,eH,q⟩
 ·obtain ⟨hz,sys,vs,r,o,es,ep,g,c,d,rest⟩:=(show cT X.prog X.w H1 s1.heap a (.dK au) from I1.aG a _ eH)
  refine main (H2:=upd H1 a (.cI o (.dK au))) ?_ az (q o);exact I1.write (t':=s1.toks) (x:=a) (e:=a) (by rw [eH];exact trivial) (.inl rfl) (fun b u _ e=>e) ⟨o,g⟩ ⟨g,hz,sys,vs,r,o,es,ep,g,c,d,rest⟩
 ·exact main I1 eH q
end
section
variable (P:Program) (w:World)
end
section
variable {P:Program} {w:World} {H H':Hp} {h h':Heap} {a:Addr} {o:HO}
end
section
variable {P:Program} {w:World} {H:Hp} {h h':Heap} {x e:Addr} {o':HO}
end
section
variable {fs DL ex ky:List Addr} {H H1 H2:Hp} {h h1 h2 h':Heap} {a x e:Addr} {o:HO}
end
section
variable {X:Cx} {pins:a7} {σ:List (Option V)} {H H':Hp} {s:Shared} {h':Heap}
end
section
variable {X:Cx}
variable {a b:Expr} {ta tb:TE} {pos:Pos}
variable {tA xW:TT} {rest:List Expr}
end
section
variable {X:Cx} {pins:a7} {σ:St} {H:Hp} {s:Shared} {a:Addr} {xs ys:List V}
end
section
variable {X:Cx} {pins:a7} {σ:St} {H:Hp} {s:Shared} {E:aX}
end
section
variable {X:Cx} {st:Stmt} {rest:List Stmt} {t u:TS} {e:Expr} {te:TE} {pos:Pos}
end
section
variable {X:Cx} {pos:Pos}
end
section
variable {X:Cx} {pos:Pos}
end
section
variable {X:Cx} {tg:Expr}
end
section
variable {X:Cx} {a b c:Expr} {ta tb tc:TE} {pos:Pos}
end
section
variable {X:Cx} {a b c:Expr} {ta tb tc:TE} {pos:Pos}
end
section
variable {prog:Program} {w:World} {A:Around} {E:aX} {s:Shared} {K:aD} {x dx C f:Addr} {mA:dc} {name:Str} {v:Value}
end
section
variable {P:Program} {w:World} {H H':Hp} {h h':Heap} {a C dx:Addr} {fs DL:List (Str×V)}
end
section
variable {X:Cx} {pins:a7} {σ:St} {H:Hp} {s:Shared} {a C dx:Addr} {fs:List (Str×V)} {f:Str} {v:V} {A:Around} {E:aX}
end
section
variable {X:Cx} {o e value:Expr} {f:Str} {pos pos' AE:Pos} {ta tv:TE}
end
section
variable {X:Cx} {pins:a7} {σ:St} {H:Hp} {s:Shared} {A:Around} {E:aX} {Q:aX} {c:Value} {b:Bool}
end
section
variable {X:Cx} {e:Expr} {es:List Expr} {te:TE} {t:TA} {pos:Pos}
end
section
variable {X:Cx} {pins:a7} {σ:St} {H:Hp} {s s':Shared}
end
section
variable {X:Cx} {CX:iw} {k:Nat} {f C:Addr} {fd:FuncData} {ps:List Str} {sp:Sp} {fv:List V} {ds:List Value} {E:XK} {x m:Str} {p pos apos:Pos} {e o:Expr} {es:List Expr} {ta:TE} {t:TA}
end
section
variable {X:Cx} {CX:iw} {k:Nat} {f C:Addr} {fd:FuncData} {ps ks:List Str} {sp:Sp} {E:XK} {x m:Str} {p pos apos Ju:Pos} {e o:Expr} {es:List Expr} {QA:List Keyword} {te ta:TE} {t tk:TA} {nm:Option Str}
variable {g:List Value→List Value→List Value} {gV:List V→List V→List V}
end
section
variable {X:Cx} {x:Str} {p pos:Pos} {e:Expr} {es:List Expr} {t:TA} {id T:String} {r:List V→Hp→VK→Prop}
end
section
variable {κ:Type} [DecidableEq κ]
def qy(au:List (κ×V))(k:κ):Option V:=(au.find? fun kv=>decide (kv.1=k)).map (·.2)
def putK(au:List (κ×V))(k:κ)(v:V):List (κ×V):=
 if (au.any fun kv=>decide (kv.1=k))=true then au.map (fun kv=>if kv.1=k then (kv.1,v) else kv) else au++[(k,v)]
variable {p:κ×V}
theorem Kx{r:List (κ×V)}{k:κ}(e:p.1=k):qy (p::r) k=some p.2:=by simp [qy,Ad,e]
theorem Ky{r:List (κ×V)}{k:κ}(e:¬p.1=k):qy (p::r) k=qy r k:=by simp [qy,Ad,e]
theorem Kz(k:κ):∀au:List (κ×V),(au.any fun kv=>decide (kv.1=k))=(qy au k).isSome
 | []=>rfl
 | p::r=>by
  rw [pF];by_cases e:p.1=k;·simp only [Kx e,cA e,Bool.true_or,Option.isSome_some]
  ·rw [Ky e,c_ e,xI];exact Kz k r
theorem KA(au:List (κ×V))(k:κ)(v:V):(putK au k v).length≤au.length+1:=by
 unfold putK
 split
 ·rw [aR];lia
 ·rw [fo,gD,List.length_nil];lia
theorem jn.TL{o:Option V}{u:Option Value}(r:jn o u):o.isSome=u.isSome:=by
 cases o with
 | none=>cases u with
  | none=>rfl
  | some _=>exact (show False from r).elim
 | some _=>cases u with
  | none=>exact (show False from r).elim
  | some _=>rfl
variable {au:List (κ×V)}
theorem KV.any{vs:List (κ×Value)}(r:KV au vs)(k:κ):(au.any fun kv=>decide (kv.1=k))=vs.any fun kv=>decide (kv.1=k):=by
 unfold KV at r
 induction r with
 | nil=>rfl
 | cons h t ih=>rw [pF,pF,ih,h.1]
variable {y:V} {u:Value}
theorem KV.EN{vs:List (κ×Value)}(r:KV au vs)(k:κ)(ry:RelV y u) :
  KV (au.map fun kv=>if kv.1=k then (kv.1,y) else kv) (vs.map fun kv=>if kv.1=k then (kv.1,u) else kv):=by
 unfold KV at r ⊢
 induction r with
 | nil=>exact .nil
 | @cons p q ps qs h t ih=>
  rw [cy,cy];refine .cons ?_ ih;obtain ⟨h1,h2⟩:=h;by_cases e:p.1=k;·rw [ar e,ar (h1.symm.trans e)];exact ⟨h1,ry⟩
  ·rw [ao e,ao (fun z=>e (h1.trans z))];exact ⟨h1,h2⟩
theorem KV.put{vs:List (κ×Value)}(r:KV au vs)(k:κ)(ry:RelV y u):KV (putK au k y) (stored vs k u):=by
 unfold putK stored;rw [r.any k];by_cases e:(vs.any fun kv=>decide (kv.1=k))=true;·rw [ar e,ar e];exact r.EN k ry
 ·rw [ao e,ao e];exact Paired.snoc r ⟨rfl,ry⟩
theorem KV.length{vs:List (κ×Value)}(r:KV au vs):au.length=vs.length:=Paired.length r
end
variable {u:Value}
theorem KC(r:RelV (kV k) u):(iQ P w).is k u=true:=by
 cases k with
 | inl i=>obtain ⟨t,e⟩:=(show ∃t,u=Value.int i t from r);subst e;exact O4 P w i t
 | inr x=>obtain ⟨t,e⟩:=(show ∃t,u=Value.str x t from r);subst e;exact O5 P w x t
theorem KD{P:Program}{w:World}:∀{ks:List Key} {us:List Value},Vals (ks.map kV) us→ItemsAre (iQ P w) ks us
 | [],_,r=>by rw [List.map_nil] at r;cases r;exact .nil
 | k::ks,_,r=>by
  rw [cy] at r;cases r with
  | cons h t=>exact .cons (KC h) (KD t)
abbrev KT (H:Hp):List (List Key×V)→List (List Key×Addr×Value)→Prop:=Paired fun p q=>p.1=q.1∧H q.2.1=some (.tup (p.1.map kV))∧RelV p.2 q.2.2
variable {H:Hp} {au:List (List Key×V)} {xs:List (List Key×Addr×Value)}
theorem KT.val(r:KT H au xs)(k:List Key):jn (qy au k) ((atKey xs k).map (·.2)):=by
 induction r with
 | nil=>exact True.intro
 | @cons p q ps qs h t ih=>
  obtain ⟨h1,_,h2⟩:=h;by_cases e:p.1=k
  ·have e':q.1=k:=h1.symm.trans e
   have b:atKey (q::qs) k=some q.2:=by simp [atKey,Ad,e']
   rw [Kx e,b];exact h2
  ·have e':¬q.1=k:=fun z=>e (h1.trans z)
   have b:atKey (q::qs) k=atKey qs k:=by simp [atKey,Ad,e']
   rw [Ky e,b];exact ih
variable {y:V}
theorem KT.EN(r:KT H au xs)(k:List Key)(ry:RelV y u) :
  KT H (au.map fun kv=>if kv.1=k then (kv.1,y) else kv) (xs.map (putAt k u)):=by
 induction r with
 | nil=>exact .nil
 | @cons p q ps qs h t ih=>
  rw [cy,cy];refine .cons ?_ ih;obtain ⟨h1,h2,h3⟩:=h;unfold putAt;by_cases e:p.1=k;·rw [ar e,ar (h1.symm.trans e)];exact ⟨h1,h2,ry⟩
  ·rw [ao e,ao (fun z=>e (h1.trans z))];exact ⟨h1,h2,h3⟩
theorem KT.put(r:KT H au xs)(k:List Key){b:Addr}(hb:H b=some (.tup (k.map kV)))(ry:RelV y u) :
  KT H (putK au k y) (storedH xs k b u):=by
 have e:(au.any fun kv=>decide (kv.1=k))=(atKey xs k).isSome:=by rw [Kz,(r.val k).TL,Option.isSome_map]
 unfold putK storedH;rw [e];by_cases q:(atKey xs k).isSome=true;·rw [ar q,ar q];exact r.EN k ry
 ·rw [ao q,ao q];exact Paired.snoc r ⟨rfl,hb,ry⟩
theorem KT.keeps{H':Hp}(r:KT H au xs)(ht:∀b ys,H b=some (.tup ys)→H' b=some (.tup ys)):KT H' au xs:=
 Paired.DK r fun _ _ z=>⟨z.1,ht _ _ z.2.1,z.2.2⟩
section
variable {P:Program} {w:World} {H:Hp} {h:Heap} {a:Addr}
theorem KG{u:HO}(ok:cH P w H h)(e:Rd H a u):cT P w H h a u:=e.ok ok
theorem TM{au:List (Key×V)}(ok:cH P w H h)(e:Rd H a (.dK au)):au.length≤sizeLine∧(a == sysModules)=false∧∃vs,KV au vs∧h.DictOf (iQ P w) a vs:=
 show cT P w H h a (.dK au) from KG ok e
theorem TN{au:List (Key×V)}(ok:cH P w H h)(e:H a=some (.dK au)):au.length≤sizeLine∧(a == sysModules)=false∧∃vs,KV au vs∧h.DictOf (iQ P w) a vs:=TM ok (.inl e)
theorem KH{ks:List Key}(ok:cH P w H h)(e:H a=some (.tup (ks.map kV))):(tupleKind (iQ P w)).is h ks a:=by obtain ⟨_,aj,r,o,h1,h2,n,h3⟩:=(show cT P w H h a (.tup (ks.map kV)) from ok a _ e);exact ⟨o,aj.toArray,n,h1,h2,h3,by simpa using KD r⟩
theorem TQ(ok:cH P w H h)(e:Rd H a (.dT au)):au.length≤sizeLine∧(a == sysModules)=false ∧
  ∃xs,KT H au xs∧h.DictOfH (tupleKind (iQ P w)) a xs:=by
 obtain ⟨z,y,xs,r,o,es,ep,h1,h2,h3,h4,h5⟩:=(show cT P w H h a (.dT au) from KG ok e);refine ⟨z,y,xs,r,o,es,ep,h1,h2,h3,h4,fun x hx=>?_,h5⟩;have all:∀{l:List (List Key×V)} {m:List (List Key×Addr×Value)},KT H l m→∀x∈m,(tupleKind (iQ P w)).is h x.1 x.2.1:=by
  intro l m q
  induction q with
  | nil=>intro x hx;exact nomatch hx
  | @cons p q ps qs hq t ih=>
   intro x hx;rcases cx.mp hx with e | hx
   ·subst e
    exact KH ok (by rw [←hq.1];exact hq.2.1)
   ·exact ih x hx
 exact all r x hx
theorem TR(ok:cH P w H h)(e:H a=some (.dT au)):au.length≤sizeLine∧(a == sysModules)=false ∧
  ∃xs,KT H au xs∧h.DictOfH (tupleKind (iQ P w)) a xs:=TQ ok (.inl e)
end
def EO(H:Hp)(a:Addr)(y v:V)(H':Hp):Prop:=
 (∃au k,H a=some (.dK au)∧y=kV k∧au.length<sizeLine∧H'=upd H a (.dK (putK au k v))) ∨
 ∃au k b,H a=some (.dT au)∧y=.ref b∧H b=some (.tup (k.map kV))∧au.length<sizeLine∧H'=upd H a (.dT (putK au k v))
section
variable {X:Cx} {pins:a7} {σ:St} {H:Hp} {s:Shared} {a:Addr} {y v:V} {u r:Value} {o:Option V} {A:Around} {E:aX}
theorem Inv.big(I:Inv X pins σ H s):sysModules<s.heap.objs.size:=by have h:mainGlobals<s.heap.objs.size:=(I.mod.glob.keeps I.bk).lt;exact Nat.lt_trans (by decide) h
variable {h':Heap}
theorem KN{t':Nat}{ob:HO}(I:Inv X pins σ H s)(mu:xR (H a))(hs:Heap.SameBut a s.heap h')(he:∃q,h'.get? a=some q)(new:cT X.prog X.w (upd H a ob) h' a ob) :
  Inv X pins σ (upd H a ob) {s with heap:=h',toks:=t'}:=
 I.write (x:=a) (e:=a) mu (.inl rfl) (fun b q hb z=>(hs.2 b hb).trans z) he new
variable {H':Hp}
theorem TU{au:List (Key×V)}{vs:List (Key×Value)}(z:au.length≤sizeLine)(hd:(a == sysModules)=false)(rel:KV au vs)(dd:h'.DictOf (iQ P w) a vs) :
  cT P w H' h' a (.dK au):=⟨z,hd,vs,rel,dd⟩
theorem TV{Q:Unit→Shared→Prop}(hu:A.units+1<cLine)(I:Inv X pins σ H s)(g:EO H a y v H')(ry:RelV y u)(rv:RelV v r)(h:∀s',Inv X pins σ H' s'→Q () s') :
  wpAny (model X.prog X.w) A (setItem (.ref a) u r) Q E s:=by
 rcases g with ⟨au,k,e,ey,l,eH⟩ | ⟨au,k,b,e,ey,eb,l,eH⟩
 ·subst ey eH
  obtain ⟨z,hd,vs,rel,dd⟩:=TN I.aG e;have hz:vs.length≤sizeLine:=by rw [←rel.length];exact z
  have hl:(putK au k v).length≤sizeLine:=by have:=KA au k v;lia
  refine wpAny_setItem_pairs (hsz:=hz) (KC ry) dd fun h' ye hs=>h _ ?_;have he:∃q,h'.get? a=some q:=let ⟨q,_,_,hq,_⟩:=ye;⟨q,hq⟩
  exact KN I (by rw [e];exact True.intro) hs he (TU hl hd (rel.put k rv) ye)
 ·subst ey eH
  cases (show u=Value.ref b from ry);obtain ⟨z,hd,xs,rel,dd⟩:=TR I.aG e;have hz:xs.length≤sizeLine:=by rw [←Paired.length rel];exact z
  have hl:(putK au k v).length≤sizeLine:=by have:=KA au k v;lia
  refine wpAny_setItem_heap (hsz:=hz) (tupleKind_room_in1 hu) (KH I.aG eb) dd fun h' ye hs=>h _ ?_;obtain ⟨q,es,ep,hq,h2,h3,h4,_,h5⟩:=ye;refine KN I (by rw [e];exact True.intro) hs ⟨q,hq⟩ ⟨hl,hd,_,(rel.put k eb rv).keeps fun c ys ec=>?_,q,es,ep,hq,h2,h3,h4,h5⟩
  rw [aP (O7 ec e (fun z=>nomatch z))];exact ec
end
section
variable {X:Cx} {pins:a7} {σ:St} {H:Hp} {s:Shared} {a:Addr} {au:List (Key×V)} {k:Key} {u:Value} {A:Around} {E:aX}
end
def TY(td ty tv:TE):TS:=fun D σ H=>tv σ H fun v H1=>td σ H1 fun x H2=>ty σ H2 fun y H3=>∃a H4,x=.ref a∧EO H3 a y v H4∧D.nx σ H4
section
variable {X:Cx} {o i e value:Expr} {pos pos' AE:Pos} {td ty tv:TE}
theorem ER(hu:X.A.units+1<cLine)(ho:PE X o td)(hi:PE X i ty)(hv:PE X value tv)(hs:swapsWith value (some (.Subscript o i pos')) pos.line X.env=pure false) :
  PS X (.Assign [.Subscript o i pos'] value pos) (TY td ty tv):=by
 intro pins s σ H D I h;refine wpAny_Assign_Subscript (aS (hv pins s σ H _ I h) fun r s1 ⟨v,H1,I1,rv,q1⟩=>aS (ho pins s1 σ H1 _ I1 q1) fun u s2 ⟨x,H2,I2,rx,q2⟩=>aS (hi pins s2 σ H2 _ I2 q2) fun iv s3 ⟨y,H3,I3,ry,a,H4,ex,g,q3⟩=>?_) hs;subst ex;obtain rfl:u=Value.ref a:=rx;exact TV hu I3 g ry rv fun s4 I4=>⟨σ,H4,I4,q3⟩
end
theorem TZ(h:Heap)(hb:sysModules<h.objs.size):cT P w H (h.push {cls:=.type "dict",data:=.dict #[]}) h.objs.size (.dK []):=
 ⟨ck _,mh.mpr (Ne.symm (dE hb)),[],.nil,Heap.DictOf.new h⟩
def T5:TE:=fun _ H Q=>∀p,H p=none→Q (.ref p) (upd H p (.dK []))
section
variable {X:Cx} {pos:Pos}
theorem T6:PE X (.Dict [] [] pos) T5:=fun pins s σ H Q I h=>wpAny_Dict_empty ⟨.ref s.heap.objs.size,_,I.laid (a:=s.heap.objs.size) (o:=.dK []) (t':=s.toks) (fun _ _ q=>cL _ q) (aK _) (TZ s.heap I.big),rfl,h _ (I.aG.fresh (aK _))⟩
end
section
variable {X:Cx} {pins:a7} {σ:St} {H:Hp} {s:Shared} {a:Addr} {y d:V} {u r:Value} {o:Option V} {A:Around} {E:aX}
end
section
variable {X:Cx} {o e f:Expr} {apos iz:Pos} {td ty tx:TE}
end
section
variable {X:Cx} {pins:a7} {σ:St} {H:Hp} {s:Shared} {a:Addr} {au:List (Key×V)} {A:Around} {E:aX}
end
section
variable {X:Cx} {pins:a7} {σ:St} {H:Hp} {s:Shared} {a:Addr} {y:V} {u:Value} {A:Around} {E:aX}
end
end L2
namespace Att
open PySem PySem.W PySem.Calls PyProof.Rows
section
variable {prog:Program} {w:World} {A:Around} {E:aX} {s:Shared} {K:Frag}
end
end Att
namespace L2
open PySem PySem.Spec PyProof.Rows
section
variable {P:Program} {w:World} {K:aD} {mg:dc} {base:Heap}
end
section
variable {X:Cx}
end
section
variable {κ:Type} [DecidableEq κ]
end
theorem KO:∀{us:List Value} {ns:List Int},IntsAre us ns→Vals (ns.map V.int) us
 | _,_,.nil=>.nil
 | _,_,.cons a u r=>.cons ⟨u,rfl⟩ (KO r)
def T7:List V→Hp→VK→Prop:=fun xs H Q=>∃(a:Addr) (zs:List Int),xs=[.ref a]∧H a=some (.lst (zs.map V.int))∧zs.length<64∧∀(ws:List Int) (D:Addr),ws.Perm zs→ws.Pairwise (·≤·)→H D=none→Q (.ref D) (upd H D (.lst (ws.map V.int)))
theorem ES{X:Cx}:gr X (.builtin "sorted") T7:=by
 intro pins s σ H xs us Q I r h;obtain ⟨a,zs,rfl,ha,h64,k⟩:=h;obtain ⟨u,rfl,ru⟩:=vals1 r;cases ru;obtain ⟨aj,rv,pl,hz⟩:=I.list (.of ha);have hl:=rv.length;rw [aR] at hl;refine sorted_ints pl.isList (intsAre_of rv) (by lia) fun out KP a1 a2 a3=>?_
 obtain ⟨e,he⟩:=sortedAll_at s.heap aj out;refine ⟨.ref (s.heap.objs.size+1),_,I.laid (t':=s.toks) (o:=.lst (KP.map .int)) (fun _ _=>sortedAll_old) (mj _) ⟨?_,out.toList,e,KO a1,?_⟩,rfl,k KP _ a2 a3 (I.aG.fresh (mj _))⟩
 ·rw [aR,a2.length_eq]
  rw [sizeLine_eq];lia
 ·simpa using he
end L2
namespace My
open PySem L2
def dk(ks:List Nat):List (Key×V):=ks.map fun k:Nat=>((Sum.inl (k:Int):Key),V.bl true)
def fL(ks:List Nat)(k:Nat):List Nat:=if k∈ks then ks else ks++[k]
theorem T8{a b:Nat}:((Sum.inl (a:Int):Key)=Sum.inl (b:Int))↔a=b:=by
 constructor
 ·intro h
  have:=Sum.inl.inj h;lia
 ·rintro rfl;rfl
theorem T9(ks:List Nat):(dk ks).length=ks.length:=aR _
theorem T_(ks:List Nat)(k:Nat):((dk ks).any fun kv=>decide (kv.1=(Sum.inl (k:Int):Key)))=decide (k∈ks):=by
 rw [nJ,List.any_eq_true,nS];constructor
 ·rintro ⟨kv,h1,h2⟩
  obtain ⟨j,hj,rfl⟩:=jg.mp h1;have:=T8.mp (eY h2);subst this;exact hj
 ·intro h
  exact ⟨_,jg.mpr ⟨k,h,rfl⟩,cA rfl⟩
theorem Ua(ks:List Nat)(k:Nat):putK (dk ks) (Sum.inl (k:Int):Key) (V.bl true)=dk (fL ks k):=by
 unfold putK fL;rw [T_];by_cases h:k∈ks
 ·rw [ar (cA h),ar h]
  unfold dk;rw [iP];refine h_ fun j _=>?_;show (if _ then _ else _)=_
  split <;> rfl
 ·rw [ao (by rw [nS];exact h),ao h]
  unfold dk;rw [jf];rfl
variable {ks:List Nat} {k j:Nat}
theorem Bh:j∈fL ks k↔j∈ks∨j=k:=by
 unfold fL;by_cases h:k∈ks
 ·rw [ar h]
  constructor;·exact .inl
  ·rintro (e | rfl)
   ·exact e
   ·exact h
 ·rw [ao h,fk,dj]
theorem Ub(h:ks.Nodup):(fL ks k).Nodup:=by
 unfold fL;by_cases m:k∈ks;·rw [ar m];exact h
 ·rw [ao m]
  refine tZ.mpr ⟨h,(by simp),fun a ha b hb=>?_⟩
  rw [dj] at hb;subst hb;rintro rfl;exact m ha
def iE(n:Nat)(ks:List Nat):Prop:=ks.Nodup∧∀k∈ks,k<n
theorem iE.nil(n:Nat):iE n []:=⟨List.nodup_nil,fun _ h=>by cases h⟩
variable {n:Nat}
theorem iE.add(h:iE n ks)(hk:k<n):iE n (fL ks k):=⟨Ub h.1,fun j hj=>by
 rcases Bh.mp hj with e | rfl;·exact h.2 j e
 ·exact hk⟩
theorem ET:∀{n:Nat} {ks:List Nat},ks.Nodup→(∀k∈ks,k<n)→ks.length≤n
 | 0,ks,_,h=>by
  cases ks with
  | nil=>exact aK _
  | cons a r=>exact absurd (h a (fQ ..)) (mr _)
 | n+1,ks,nd,h=>by
  have e:=ET (n:=n) (ks:=ks.erase n) (nd.erase n) (fun k hk=>by have m:=(List.Nodup.mem_erase_iff nd).mp hk;have:=h k m.2;have:=m.1;lia)
  by_cases hm:n∈ks
  ·have:=List.length_erase_of_mem hm
   lia
  ·rw [List.erase_of_not_mem hm] at e
   lia
theorem iE.len(h:iE n ks):ks.length≤n:=ET h.1 h.2
structure eL (H:Hp) (D:Addr) (n:Nat) (ds:Nat→Addr) (un:Nat→Prop) (f:Nat→List Nat):Prop where
 lst:H D=some (.lst ((List.range n).map fun i=>V.ref (ds i)))
 inj:∀i j,i<n→j<n→ds i=ds j→i=j
 ne:∀i,i<n→ds i≠D
 at':∀i,i<n→un i→H (ds i)=some (.dK (dk (f i)))
 pl:∀i,i<n→iE n (f i)
def cP(f:Nat→List Nat)(i:Nat)(ks:List Nat):Nat→List Nat:=fun j=>if j=i then ks else f j
variable {H:Hp} {D:Addr} {ds:Nat→Addr} {f:Nat→List Nat} {i:Nat}
theorem eL.put{un:Nat→Prop}(h:eL H D n ds un f)(hi:i<n)(hj:j<n)(ui:un i)(hn:n≤1000) :
  EO H (ds i) (.int (j:Int)) (.bl true) (upd H (ds i) (.dK (dk (fL (f i) j))))∧eL (upd H (ds i) (.dK (dk (fL (f i) j)))) D n ds un (cP f i (fL (f i) j)):=by
 refine ⟨.inl ⟨dk (f i),Sum.inl (j:Int),h.at' i hi ui,rfl,?_,by rw [Ua]⟩,?_,h.inj,h.ne,fun k hk uk=>?_,fun k hk=>?_⟩
 ·rw [T9]
  have:=(h.pl i hi).len;exact jQ this (jQ hn (by rw [sizeLine_eq];decide))
 ·rw [aP (Ne.symm (h.ne i hi))]
  exact h.lst
 ·unfold cP
  by_cases e:k=i
  ·subst e
   rw [ar rfl,az]
  ·rw [ao e,aP (fun z=>e (h.inj k i hk hi z))]
   exact h.at' k hk uk
 ·unfold cP
  by_cases e:k=i;·rw [ar e];exact (h.pl i hi).add hj
  ·rw [ao e];exact h.pl k hk
theorem eL.ix{un:Nat→Prop}(h:eL H D n ds un f)(hi:i<n):gZ ((List.range n).map fun i=>V.ref (ds i)) (i:Int)=some (V.ref (ds i)):=
 gJ (by rw [cz,hV hi];rfl)
def yE(n:Nat)(L:cb):Prop:=∀p∈L,0≤p.1∧p.1<(n:Int)∧0≤p.2∧p.2<(n:Int)
def iW(n:Nat)(L:cb)(f:Nat→List Nat):Prop:=∀i j:Nat,i<n→(j∈f i↔((i:Int),(j:Int))∈L∨((j:Int),(i:Int))∈L)
theorem iW.nil(n:Nat):iW n [] (fun _=>[]):=fun i j _=>by simp
theorem iW.more{L:cb}(h:iW n L f)(hi:i<n)(hj:j<n):iW n (L++[((i:Int),(j:Int))]) (cP (cP f i (fL (f i) j)) j (fL (cP f i (fL (f i) j) j) i)):=fun a b ha=>by
 have e1:∀x y:Nat,y∈cP f i (fL (f i) j) x↔y∈f x∨(x=i∧y=j):=fun x y=>by
  unfold cP;by_cases e:x=i
  ·subst e
   rw [ar rfl,Bh];simp
  ·rw [ao e]
   simp [e]
 have e2:b∈cP (cP f i (fL (f i) j)) j (fL (cP f i (fL (f i) j) j) i) a↔b∈cP f i (fL (f i) j) a∨(a=j∧b=i):=by
  unfold cP;by_cases e:a=j
  ·subst e
   rw [ar rfl,Bh];simp
  ·rw [ao e]
   simp [e]
 rw [e2,e1,h a b ha];simp only [fk,dj,Prod.mk.injEq];constructor
 ·rintro ((e | e) | ⟨rfl,rfl⟩)
  ·rcases e with e | e
   ·exact .inl (.inl e)
   ·exact .inr (.inl e)
  ·exact .inl (.inr ⟨by lia,by lia⟩)
  ·exact .inr (.inr ⟨rfl,rfl⟩)
 ·rintro ((e | ⟨e1,e2⟩) | (e | ⟨e1,e2⟩))
  ·exact .inl (.inl (.inl e))
  ·exact .inl (.inr ⟨by lia,by lia⟩)
  ·exact .inl (.inl (.inr e))
  ·exact .inr ⟨by lia,by lia⟩
def Uc:Sp:=fun vs H Q _=>∃(t:Addr) (n:Nat) (L:cb),vs=[.ref t]∧EK H t n L∧yE n L∧n≤1000 ∧
 ∀(H':Hp) (D:Addr) (ds:Nat→Addr) (f:Nat→List Nat),af H H'→H D=none→(∀i,i<n→H (ds i)=none)→eL H' D n ds (fun _=>True) f→iW n L f→Q (.ref D) H'
end My
namespace L2
open PySem PySem.Spec PyProof.Rows
def Ud(K:aD):R2:=fun x y H Q=>∃(a b:Addr) (xs ys:List Int),x=.ref a∧y=.ref b∧bU K H a (xs.map V.int)∧bU K H b (ys.map V.int)∧Q (.bl (decide (xs=ys))) H
theorem Ue{X:Cx}(hu:X.A.units+64<cLine):cg X (compareOp .Eq) (Ud X.K):=by
 intro pins s σ H x y v u Q I rx ry h;obtain ⟨a,b,xs,ys,rfl,rfl,h1,h2,q⟩:=h;cases rx;cases ry;obtain ⟨us,r1,t1,_⟩:=I.list h1;obtain ⟨vs,r2,t2,_⟩:=I.list h2;have l1:=r1.length;have l2:=r2.length;rw [aR] at l1 l2;by_cases hl:xs.length=ys.length
 ·refine SeqAt.RcAt.lists (e:=fun j=>g6 (.int (xs.getD j 0)) (.int (ys.getD j 0))) t1.isList t2.isList (by simp;lia) (by lia) (fun j z1 z2=>?_) _ _ _ _ ?_
  ·have A8:j<us.length:=by simpa using z1
   have A9:j<vs.length:=by simpa using z2
   have ex:(xs.map V.int)[j]?=some (.int (xs.getD j 0)):=by rw [cz,jb];simp [show j<xs.length by lia]
   have ey:(ys.map V.int)[j]?=some (.int (ys.getD j 0)):=by rw [cz,jb];simp [show j<ys.length by lia]
   obtain ⟨x',ky,rx⟩:=r1.get ex;obtain ⟨y',mV,ry⟩:=r2.get ey;have e1:us.toArray[j]=x':=by simpa using (bQ.mp ky).2
   have e2:vs.toArray[j]=y':=by simpa using (bQ.mp mV).2
   rw [e1,e2];exact x8 rx ry rfl rfl
  ·rw [show us.toArray.size=xs.length by simp;lia,Tj hl]
   exact ⟨.bl (decide (xs=ys)),H,I,rfl,q⟩
 ·rw [c_ (fun e=>hl (by rw [e]))] at q
  refine SeqAt.RcAt.lists_lengths t1.isList t2.isList ?_ (by lia) _ _ _ _ ⟨.bl false,H,I,rfl,q⟩
  simp;lia
end L2
namespace My
open PySem L2
def iN(k:Nat):Int:=(k:Int)
def mW(zs:List Int)(n:Nat):Prop:=zs.Perm ((List.range n).map iN)
instance (zs:List Int) (n:Nat):Decidable (mW zs n):=by unfold mW;exact inferInstance
theorem Ug(n:Nat):((List.range n).map iN).Pairwise (·≤·):=by rw [List.pairwise_map];exact List.Pairwise.imp (fun h=>by unfold iN;lia) List.pairwise_lt_range
variable {ws zs:List Int} {n:Nat}
theorem Uh(p:ws.Perm zs)(o:ws.Pairwise (·≤·)):decide (ws=(List.range n).map iN)=decide (mW zs n):=by
 by_cases h:mW zs n
 ·rw [cA h]
  refine cA ?_;exact (p.trans h).eq_of_pairwise (fun a b _ _ h1 h2=>by lia) o (Ug n)
 ·rw [c_ h]
  refine c_ fun e=>h ?_;subst e;exact p.symm
def Ui:Sp:=fun vs H Q _=>∃(a:Addr) (zs:List Int) (n:Nat),vs=[.ref a,.int (n:Int)]∧H a=some (.lst (zs.map V.int))∧zs.length<64∧n≤1000∧(∀H',af H H'→Q (.bl (decide (mW zs n))) H')
def Uj(N:Addr):Sp:=fun vs H Q E=>∃(a:Addr) (zs:List Int) (n:Nat),vs=[.ref a,.int (n:Int)]∧H a=some (.lst (zs.map V.int))∧zs.length<64∧n≤1000 ∧
 (¬mW zs n→∀H',af H H'→E (.ref N) none H')∧(mW zs n→∀H',af H H'→Q .aU H')
def Uk(H:Hp)(a:Addr)(n:Nat)(o:List Nat):Prop:=H a=some (.lst (o.map fun k:Nat=>V.int (k:Int)))∧o.Perm (List.range n)
def Ul:Sp:=fun vs H Q _=>∃(a:Addr) (n:Nat) (o:List Nat),vs=[.ref a]∧Uk H a n o∧n≤1000 ∧
 ∀(r:Addr) (H':Hp),af H H'→H r=none→H' r=some (.lst ((List.range n).map fun p=>V.int (o.idxOf p:Int)))→Q (.ref r) H'
variable {H H1:Hp} {D:Addr}
theorem Um(s:af H H1)(e:H1 D=none):H D=none:=by
 cases z:H D with
 | none=>rfl
 | some o=>rw [s _ _ z] at e;cases e
theorem Bi(s:af H H1){o:HO}(e:H1 D=none):af H (upd H1 D o):=iC s (Um s e)
variable {k:Nat}
theorem iF(h:k<n):mJ n (k:Int)=some k:=by unfold mJ;rw [ar (by lia),ar (by lia),dM]
def j8(o:List Nat)(k p:Nat):Int:=if o.idxOf p<k then (o.idxOf p:Int) else 0
variable {o:List Nat}
theorem e_(h:o.Perm (List.range n)):o.Nodup:=h.nodup_iff.mpr pM
theorem fM(h:o.Perm (List.range n)):o.length=n:=by rw [h.length_eq,cC]
variable {p:Nat}
theorem cJ(h:o.Perm (List.range n)):p∈o↔p<n:=by rw [h.mem_iff,eW]
theorem g8(nd:o.Nodup)(hk:k<o.length):o.idxOf o[k]=k:=nd.idxOf_getElem k hk
theorem fD(h:p∈o):∃hk:o.idxOf p<o.length,o[o.idxOf p]=p:=⟨List.idxOf_lt_length_of_mem h,List.getElem_idxOf _⟩
theorem Uo(h:o.Perm (List.range n))(hk:k<o.length):((List.range n).map fun p=>V.int (j8 o k p)).set o[k] (.int (k:Int))=(List.range n).map fun p=>V.int (j8 o (k+1) p):=by
 have nd:=e_ h;refine gQ (by simp) fun q h1 h2=>?_
 have hq:q<n:=by simpa using h2
 rw [List.getElem_set];by_cases e:o[k]=q
 ·rw [ar e]
  simp only [gF,jh];unfold j8;rw [←e,g8 nd hk,ar (zY k)]
 ·rw [ao e]
  simp only [gF,jh];unfold j8;have ne:o.idxOf q≠k:=fun z=>by obtain ⟨hz,ez⟩:=fD ((cJ h).mpr hq);subst z;exact e ez
  by_cases z:o.idxOf q<k;·rw [ar z,ar (by lia)]
  ·rw [ao z,ao (by lia)]
theorem Up(n:Nat)(o:List Nat):(List.replicate n [V.int 0]).flatten=(List.range n).map fun p=>V.int (j8 o 0 p):=by
 have e:∀n:Nat,(List.replicate n [V.int 0]).flatten=List.replicate n (V.int 0):=fun n=>by
  induction n with
  | zero=>rfl
  | succ n ih=>rw [tV,xF,ih];rfl
 rw [e];refine gQ (by simp) fun q h1 h2=>?_
 simp [j8]
theorem Uq(h:o.Perm (List.range n)):(List.range n).map (fun p=>V.int (j8 o o.length p))=(List.range n).map fun p=>V.int (o.idxOf p:Int):=by refine h_ fun p hp=>?_;unfold j8;rw [ar (List.idxOf_lt_length_of_mem ((cJ h).mpr (eW.mp hp)))]
def oO(n:Nat)(ds:Nat→Addr)(un:Nat→Prop)(H H':Hp):Prop:=∀b o,H b=some o→(∀i,i<n→un i→b≠ds i)→H' b=some o
variable {ds:Nat→Addr}
theorem oO.refl{un:Nat→Prop}:oO n ds un H H:=fun _ _ h _=>h
variable {i:Nat}
theorem oO.put{un:Nat→Prop}(h:oO n ds un H H1)(hi:i<n)(ui:un i){o:HO}:oO n ds un H (upd H1 (ds i) o):=fun b u e k=>by rw [aP (k i hi ui)];exact h b u e k
theorem take_snoc{α:Type}{xs:List α}{x:α}(h:xs[i]?=some x):xs.take (i+1)=xs.take i++[x]:=by rw [List.take_succ,h];rfl
def g9(n:Nat)(f:Nat→List Nat)(ps:List Nat)(i j:Nat)(g:Nat→List Nat):Prop:=∀a b:Nat,a<n→(b∈g a↔b∈f a∨(a≠b∧(a∈ps.take i∧b∈ps∨ps[i]?=some a∧b∈ps.take j)))
theorem g9.start(n:Nat)(f:Nat→List Nat)(ps:List Nat):g9 n f ps 0 0 f:=fun a b _=>by simp
variable {f g:Nat→List Nat} {ps:List Nat}
theorem g9.row(h:g9 n f ps i ps.length g):g9 n f ps (i+1) 0 g:=fun a b ha=>by
 rw [h a b ha,je];cases e:ps[i]? with
 | none=>
  have:ps.length≤i:=Dv.mp e;rw [nV this,nV (by lia)]
  simp
 | some x=>
  rw [take_snoc e];simp only [fk,dj,Option.some.injEq,List.take_zero,nN,and_false,or_false];constructor
  ·rintro (z | ⟨z,z1 | z1⟩)
   ·exact .inl z
   ·exact .inr ⟨z,.inl z1.1,z1.2⟩
   ·exact .inr ⟨z,.inr z1.1.symm,z1.2⟩
  ·rintro (z | ⟨z,z1 | z1,z2⟩)
   ·exact .inl z
   ·exact .inr ⟨z,.inl ⟨z1,z2⟩⟩
   ·exact .inr ⟨z,.inr ⟨z1.symm,z2⟩⟩
variable {j:Nat}
theorem g9.same{x:Nat}(h:g9 n f ps i j g)(hi:ps[i]?=some x)(hj:ps[j]?=some x):g9 n f ps i (j+1) g:=fun a b ha=>by
 rw [h a b ha,take_snoc hj];simp only [fk,dj,hi,Option.some.injEq];constructor
 ·rintro (z | ⟨z,z1 | z1⟩)
  ·exact .inl z
  ·exact .inr ⟨z,.inl z1⟩
  ·exact .inr ⟨z,.inr ⟨z1.1,.inl z1.2⟩⟩
 ·rintro (z | ⟨z,z1 | ⟨z1,z2 | z2⟩⟩)
  ·exact .inl z
  ·exact .inr ⟨z,.inl z1⟩
  ·exact .inr ⟨z,.inr ⟨z1,z2⟩⟩
  ·exact absurd (z1.symm.trans z2.symm) z
theorem g9.put{x y:Nat}(h:g9 n f ps i j g)(hi:ps[i]?=some x)(hj:ps[j]?=some y)(ne:x≠y):g9 n f ps i (j+1) (cP g x (fL (g x) y)):=fun a b ha=>by
 have e1:b∈cP g x (fL (g x) y) a↔b∈g a∨(a=x∧b=y):=by
  unfold cP;by_cases e:a=x
  ·subst e
   rw [ar rfl,Bh];simp
  ·rw [ao e]
   simp [e]
 rw [e1,h a b ha,take_snoc hj];simp only [fk,dj,hi,Option.some.injEq];constructor
 ·rintro ((z | ⟨z,z1 | z1⟩) | ⟨rfl,rfl⟩)
  ·exact .inl z
  ·exact .inr ⟨z,.inl z1⟩
  ·exact .inr ⟨z,.inr ⟨z1.1,.inl z1.2⟩⟩
  ·exact .inr ⟨ne,.inr ⟨rfl,.inr rfl⟩⟩
 ·rintro (z | ⟨z,z1 | ⟨z1,z2 | z2⟩⟩)
  ·exact .inl (.inl z)
  ·exact .inl (.inr ⟨z,.inl z1⟩)
  ·exact .inl (.inr ⟨z,.inr ⟨z1,z2⟩⟩)
  ·exact .inr ⟨z1.symm,z2⟩
theorem g9.done(h:g9 n f ps ps.length 0 g):∀a b:Nat,a<n→(b∈g a↔b∈f a∨(a≠b∧a∈ps∧b∈ps)):=fun a b ha=>by rw [h a b ha,je];simp
def Ur:Sp:=fun vs H Q _=>∃(D pl:Addr) (n:Nat) (ds:Nat→Addr) (un:Nat→Prop) (f:Nat→List Nat) (ps:List Nat),vs=[.ref D,.ref pl]∧eL H D n ds un f∧H pl=some (.lst (ps.map fun k:Nat=>V.int (k:Int)))∧(∀p∈ps,p<n∧un p)∧n≤1000 ∧
 ∀(H':Hp) (g:Nat→List Nat),oO n ds un H H'→eL H' D n ds un g→(∀a b:Nat,a<n→(b∈g a↔b∈f a∨(a≠b∧a∈ps∧b∈ps)))→Q .aU H'
theorem eL.mono{H':Hp}{un:Nat→Prop}(h:eL H D n ds un f)(s:af H H'):eL H' D n ds un f:=⟨s _ _ h.lst,h.inj,h.ne,fun i hi ui=>s _ _ (h.at' i hi ui),h.pl⟩
theorem eL.less{un KQ:Nat→Prop}(h:eL H D n ds un f)(k:∀i,i<n→KQ i→un i):eL H D n ds KQ f:=⟨h.lst,h.inj,h.ne,fun i hi ui=>h.at' i hi (k i hi ui),h.pl⟩
variable {x:Addr}
theorem eL.upd{un:Nat→Prop}(h:eL H D n ds un f){o:HO}(n1:x≠D)(n2:∀i,i<n→un i→ds i≠x):eL (upd H x o) D n ds un f:=⟨by rw [aP (Ne.symm n1)];exact h.lst,h.inj,h.ne,fun i hi ui=>by rw [aP (n2 i hi ui)];exact h.at' i hi ui,h.pl⟩
variable {a:Addr}
theorem Us{o:Obj}{au:List (Key×V)}(h:H1 a=some (.cI o (.dK au))):oI (uC a o au) (au.map fun kv=>kV kv.1) H1 where
 go:=fun i Hc s hi=>⟨s _ _ h,by simpa using hi⟩
 gk:=fun i Hc x H' s y=>⟨y.1,fun _=>by obtain ⟨kv,e,rfl⟩:=y.2;rw [cz,e];rfl⟩
 stop:=fun i Hc s hi=>⟨s _ _ h,by simpa using hi⟩
theorem Ut(ks:List Nat):(dk ks).map (fun kv=>kV kv.1)=ks.map fun k:Nat=>V.int (k:Int):=by unfold dk;rw [iP];rfl
theorem Uu(ks:List Nat):(List.range ks.length).map (fun i=>ks.getD i 0)=ks:=by
 refine gQ (by simp) fun i h1 h2=>?_
 simp [jb,h2]
theorem Uv(ks:List Nat)(pr:Nat→Bool):((List.range ks.length).filter fun i=>pr (ks.getD i 0)).map (fun i=>ks.getD i 0)=ks.filter pr:=by have e:=List.filter_map (f:=fun i=>ks.getD i 0) (l:=List.range ks.length) (p:=pr);rw [Uu] at e;exact e.symm
variable {ρ:St→St} {tt:TT} {te:TE} {σ:St} {Q:VK} {ks:List Nat}
theorem Uw{ob:Obj}(h:H a=some (.cI ob (.dK (dk ks))))(pr:Nat→Bool)(hl:ks.length<sizeLine)
  (test:∀k∈ks,∀(Hc:Hp) (R:Bool→Hp→Prop),af H Hc→R (pr k) Hc→tt (some (.int (k:Int))::ρ σ) Hc R)
  (step:∀k∈ks,∀(Hc:Hp) (R:VK),R (.int (k:Int)) Hc→te (some (.int (k:Int))::ρ σ) Hc R)
  (fin:∀D Hc,H D=none→af H Hc→Hc D=some (.lst ((ks.filter pr).map fun k:Nat=>V.int (k:Int)))→Q (.ref D) Hc):jy (fun _ H R=>R (uC a ob (dk ks)) H) ρ tt te σ H Q:=by
 have at':∀{i:Nat} {x:V},(ks.map fun k:Nat=>V.int (k:Int))[i]?=some x→i<ks.length∧x=.int ((ks.getD i 0:Nat):Int)∧ks.getD i 0∈ks:=fun{i x} hx=>by
  have hi:i<ks.length:=by have:=(bQ.mp hx).1;simpa using this
  rw [cz] at hx;simp [hi] at hx;rw [getD_at hi];exact ⟨hi,hx.symm,dN hi⟩
 refine Kv (xs:=ks.map fun k:Nat=>V.int (k:Int)) (fun i=>pr (ks.getD i 0)) (fun R k=>k _ (by rw [←Ut];exact Us h)) (by rw [aR];exact hl) (fun _ i y _=>y=.int ((ks.getD i 0:Nat):Int)) (fun _ _ _ _ _ _ h _ _=>h) ?_ ?_ ?_
 ·intro i x hx Hc R sc hR
  obtain ⟨_,rfl,m⟩:=at' hx;exact test _ m Hc R sc hR
 ·intro D i x hx Hc R sc _ kc
  obtain ⟨_,rfl,m⟩:=at' hx;exact step _ m Hc R (kc _ Hc (af.refl _) rfl)
 ·intro D ys Hc nD sc ly hP eD
  refine fin D Hc nD sc ?_;rw [eD,←Uv ks pr,iP];rw [aR] at ly hP
  congr 2
  refine gQ (by simpa using ly) fun k h1 h2=>?_
  have h3:k<((List.range ks.length).filter fun i=>pr (ks.getD i 0)).length:=by simpa using h2
  rw [gF];exact hP k _ _ (dF h1) (dF h3)
theorem EU(p:ws.Perm (ks.map iN)):∃ms:List Nat,ws=ms.map iN∧ms.Perm ks:=by
 refine ⟨ws.map Int.toNat,?_,?_⟩
 ·rw [iP]
  conv=>lhs;rw [←List.map_id ws]
  refine h_ fun z hz=>?_
  obtain ⟨k,_,rfl⟩:=jg.mp (p.mem_iff.mp hz)
  show iN k=iN (Int.toNat (iN k))
  unfold iN
  rw [dM]
 ·have:=p.map Int.toNat
  rw [iP] at this
  have e:ks.map (Int.toNat ∘ iN)=ks:=by
   conv=>rhs;rw [←List.map_id ks]
   exact h_ fun k _=>dM k
  rw [e] at this
  exact this
structure fb (n:Nat) (o:List Nat) (p:Nat) (ms:List Nat):Prop where
 up:ms.Pairwise (· < ·)
 lt:∀q∈ms,q<n
 la:∀q∈ms,o.idxOf p<o.idxOf q
theorem KS{ms:List Nat}(hk:iE n ks)(h:ms.Perm (ks.filter fun q=>decide (o.idxOf p<o.idxOf q)))(s:(ms.map iN).Pairwise (·≤·)):fb n o p ms:=by
 have m:∀q∈ms,q∈ks∧o.idxOf p<o.idxOf q:=fun q hq=>by have:=pz.mp (h.mem_iff.mp hq);exact ⟨this.1,by simpa using this.2⟩
 refine ⟨?_,fun q hq=>hk.2 q (m q hq).1,fun q hq=>(m q hq).2⟩;have nd:ms.Nodup:=h.nodup_iff.mpr (hk.1.filter _);rw [List.pairwise_map] at s;refine List.Pairwise.imp₂ (fun a b h1 h2=>?_) s nd;have h1:(a:Int)≤(b:Int):=h1;have h2:a≠b:=h2;lia
def oP(H:Hp)(D:Addr)(n:Nat)(rs:Nat→Addr)(g:Nat→List Nat):Prop:=H D=some (.lst ((List.range n).map fun p=>V.ref (rs p)))∧∀p,p<n→H (rs p)=some (.lst ((g p).map fun k:Nat=>V.int (k:Int)))
theorem Ux(h:mW zs n):∃o:List Nat,zs=o.map iN∧o.Perm (List.range n):=EU h
def j9(rs:Nat→Addr)(p:Nat)(x:Addr):Nat→Addr:=fun q=>if q=p then x else rs q
theorem Uy(n:Nat)(rs:Nat→Addr)(p:Nat)(x:Addr):((List.range n).map fun q=>V.ref (rs q)).set p (.ref x)=(List.range n).map fun q=>V.ref (j9 rs p x q):=by
 refine gQ (by simp) fun q h1 h2=>?_
 rw [List.getElem_set,gF,jh,gF,jh];unfold j9;by_cases e:p=q
 ·subst e
  rw [ar rfl,ar rfl]
 ·rw [ao e,ao (Ne.symm e)]
variable {rs:Nat→Addr}
theorem KU:j9 rs p x p=x:=ar rfl
variable {q:Nat}
theorem Uz(h:q≠p):j9 rs p x q=rs q:=ao h
theorem EV{x:List Nat}:cP f p x p=x:=ar rfl
theorem EW{x:List Nat}(h:q≠p):cP f p x q=f q:=ao h
theorem bK{g:Nat→V}(h:p<n):gZ ((List.range n).map g) (p:Int)=some (g p):=gJ (by rw [cz,hV h];rfl)
theorem UA(o ks:List Nat)(p:Nat):(ks.filter fun q=>decide ((o.idxOf p:Int)<(o.idxOf q:Int)))=ks.filter fun q=>decide (o.idxOf p<o.idxOf q):=by refine List.filter_congr fun q _=>?_;rw [nJ,nS,nS];lia
theorem qz(h:o.Perm (List.range n))(hp:p<n)(hq:q<n)(ne:p≠q):o.idxOf p≠o.idxOf q:=fun z=>by
 obtain ⟨h1,e1⟩:=fD ((cJ h).mpr hp);obtain ⟨h2,e2⟩:=fD ((cJ h).mpr hq);refine ne ?_;rw [←e1,←e2]
 congr 1
theorem UB{wi:TI}(h:wi σ H fun J H1=>jy (fun _ H R=>R J H) ρ tt te σ H1 Q):jy wi ρ tt te σ H Q:=h
end My
namespace L2
open PySem PySem.Spec PyProof.Rows
section
variable {X:Cx} {pins:a7} {σ:St} {H:Hp} {s:Shared}
end
end L2
namespace My
open PySem L2
theorem KY{n:Nat}{o:List Nat}(h:o.Perm (List.range n)){p:Nat}{ms:List Nat}(k:fb n o p ms):ms.length≤n-1-o.idxOf p:=by
 have nd:(ms.map fun q=>o.idxOf q-(o.idxOf p+1)).Nodup:=by rw [List.nodup_iff_pairwise_ne,List.pairwise_map];refine List.Pairwise.imp_of_mem (fun{a b} ha hb lt=>?_) k.up;have h1:=k.la a ha;have h2:=k.la b hb;have ne:=qz h (k.lt a ha) (k.lt b hb) (dE lt);lia
 have:=ET (n:=n-1-o.idxOf p) nd (fun x hx=>by obtain ⟨q,hq,rfl⟩:=jg.mp hx;have h1:=k.la q hq;have h2:=(fD ((cJ h).mpr (k.lt q hq))).1;rw [fM h] at h2;lia)
 rwa [aR] at this
end My
namespace L2
open PySem PySem.Spec PyProof.Rows
end L2
namespace My
open PySem L2
def UC:Sp:=fun vs H Q _=>∃m:Nat,vs=[.int (m:Int)]∧m≤1000∧Q (.int ((m:Int)*m+3*m+1)) H
end My
namespace L2
open PySem PySem.Spec PyProof.Rows
end L2
namespace My
open PySem L2
end My
namespace L2
open PySem PySem.Spec PyProof.Rows
end L2
namespace My
open PySem L2
end My
namespace L2
open PySem PySem.Spec PyProof.Rows
theorem UD{X:Cx}{K:aD}(hk:X.K=K:=by rfl):cg X (compareOp .In) (AK K false):=by subst hk;exact QR
end L2
namespace My
open PySem L2
theorem af4(xs:List V)(k:Nat)(h:k≤xs.length):iS xs none (some (k:Int))=xs.take k:=by
 unfold iS HT.fY;simp only;rw [ao (by lia),dM,Ae h,Nat.sub_zero]
 rfl
theorem UE(xs:List V)(k:Nat)(h:k≤xs.length):iS xs (some (k:Int)) none=xs.drop k:=by
 unfold iS HT.fY;simp only;rw [ao (by lia),dM,Ae h]
 exact nV (by rw [xD];exact aK _)
variable {n:Nat} {bT:Nat→Nat→Prop} {b9:Nat→Prop} {s:Nat}
end My
namespace L2
open PySem PySem.Spec PyProof.Rows
theorem KZ{X:Cx}{K:aD}(hk:X.K=K:=by rfl):cg X (compareOp .NotIn) (AK K true):=by subst hk;exact JI
end L2
namespace My
open PySem L2
theorem yF(done:List Nat)(k:Nat):lG (.int (k:Int)) (done.map fun k:Nat=>V.int (k:Int))=decide (k∈done):=by
 unfold lG;rw [nJ,List.any_eq_true,nS];constructor
 ·rintro ⟨y,hy,e⟩
  obtain ⟨j,hj,rfl⟩:=jg.mp hy;have e:((j:Int) == (k:Int))=true:=e;rw [ko] at e;have:j=k:=by lia
  subst this;exact hj
 ·intro h
  exact ⟨_,jg.mpr ⟨k,h,rfl⟩,A6 rfl⟩
theorem EX(done:List Nat):(done.map fun k:Nat=>V.int (k:Int)).all gK=true:=by rw [pH];intro x hx;obtain ⟨j,_,rfl⟩:=jg.mp hx;rfl
def kL(g:Nat→List Nat)(i j:Nat):Nat→List Nat:=cP g i (g i++[j])
variable {g:Nat→List Nat} {i j a:Nat}
theorem K6{b:Nat}:b∈kL g i j a↔b∈g a∨(a=i∧b=j):=by
 unfold kL cP;by_cases e:a=i
 ·subst e
  rw [ar rfl,fk,dj];simp
 ·rw [ao e]
  simp [e]
theorem EY:(kL g i j a).length≤(g a).length+1:=by
 unfold kL cP;by_cases e:a=i
 ·subst e
  rw [ar rfl,fo];exact aK _
 ·rw [ao e];lia
variable {n:Nat}
theorem iW.snoc{L:cb}(h:iW n L g):iW n (L++[((i:Int),(j:Int))]) (kL (kL g i j) j i):=fun a b ha=>by
 rw [K6,K6,h a b ha];simp only [fk,dj,Prod.mk.injEq];constructor
 ·rintro (((e | e) | ⟨rfl,rfl⟩) | ⟨rfl,rfl⟩)
  ·exact .inl (.inl e)
  ·exact .inr (.inl e)
  ·exact .inl (.inr ⟨rfl,rfl⟩)
  ·exact .inr (.inr ⟨rfl,rfl⟩)
 ·rintro ((e | ⟨e1,e2⟩) | (e | ⟨e1,e2⟩))
  ·exact .inl (.inl (.inl e))
  ·exact .inl (.inr ⟨by lia,by lia⟩)
  ·exact .inl (.inl (.inr e))
  ·exact .inr ⟨by lia,by lia⟩
structure iX (H:Hp) (D:Addr) (n:Nat) (rs:Nat→Addr) (g:Nat→List Nat):Prop where
 lst:H D=some (.lst ((List.range n).map fun i=>V.ref (rs i)))
 inj:∀i j,i<n→j<n→rs i=rs j→i=j
 ne:∀i,i<n→rs i≠D
 at':∀i,i<n→H (rs i)=some (.lst ((g i).map fun k:Nat=>V.int (k:Int)))
theorem iX.snoc{H:Hp}{D:Addr}{rs:Nat→Addr}(h:iX H D n rs g)(j:Nat)(hi:i<n):iX (upd H (rs i) (.lst (((g i).map fun k:Nat=>V.int (k:Int))++[V.int (j:Int)]))) D n rs (kL g i j):=by
 refine ⟨by rw [aP (Ne.symm (h.ne i hi))];exact h.lst,h.inj,h.ne,fun a ha=>?_⟩
 unfold kL cP;by_cases e:a=i
 ·subst e
  rw [ar rfl,az,jf];rfl
 ·rw [ao e,aP (fun z=>e (h.inj a i ha hi z))]
  exact h.at' a ha
end My
namespace L2
open PySem PySem.Spec PyProof.Rows
end L2
namespace My
open PySem L2
end My
namespace L2
open PySem PySem.Spec PyProof.Rows My
end L2
namespace My
open PySem L2
end My
namespace L2
open PySem PySem.Spec PyProof.Rows My
end L2
namespace My
open PySem L2
inductive Wk (bT:Nat→Nat→Prop) (b9:Nat→Prop) (s:Nat):Nat→Prop where
 | one {b:Nat}:bT s b→Wk bT b9 s b
 | more {a b:Nat}:Wk bT b9 s a→b9 a→bT a b→Wk bT b9 s b
section
variable {bT:Nat→Nat→Prop} {b9 uD:Nat→Prop} {s t:Nat}
theorem Wk.mono(h:Wk bT b9 s t)(k:∀x,b9 x→uD x):Wk bT uD s t:=by
 induction h with
 | one ab=>exact .one ab
 | more _ o ab ih=>exact .more ih (k _ o) ab
theorem Wk.cons{a:Nat}(ab:bT s a)(ta:b9 a)(h:Wk bT b9 a t):Wk bT b9 s t:=by
 induction h with
 | one e=>exact .more (.one ab) ta e
 | more _ o e ih=>exact .more ih o e
theorem Wk.symm(sy:∀a b,bT a b→bT b a)(h:Wk bT b9 s t):Wk bT b9 t s:=by
 induction h with
 | one ab=>exact .one (sy _ _ ab)
 | more _ o ab ih=>exact ih.cons (sy _ _ ab) o
variable {p:Nat}
theorem Wk.trans(h:Wk bT b9 s p)(tp:b9 p)(h':Wk bT b9 p t):Wk bT b9 s t:=by
 induction h' with
 | one ab=>exact .more h tp ab
 | more _ o ab ih=>exact .more ih o ab
theorem Wk.step(k:∀x,uD x↔b9 x∨x=p):Wk bT uD s t↔Wk bT b9 s t∨(Wk bT b9 s p∧Wk bT b9 p t):=by
 constructor
 ·intro h
  induction h with
  | one ab=>exact .inl (.one ab)
  | more _ o ab ih=>
   rcases (k _).mp o with o | rfl
   ·rcases ih with ih | ⟨i1,i2⟩
    ·exact .inl (.more ih o ab)
    ·exact .inr ⟨i1,.more i2 o ab⟩
   ·rcases ih with ih | ⟨i1,_⟩
    ·exact .inr ⟨ih,.one ab⟩
    ·exact .inr ⟨i1,.one ab⟩
 ·have m:∀x,b9 x→uD x:=fun x h=>(k x).mpr (.inl h)
  rintro (h | ⟨h,h'⟩);·exact h.mono m
  ·exact (h.mono m).trans ((k p).mpr (.inr rfl)) (h'.mono m)
end
def aL(n:Nat)(L:cb)(a b:Nat):Prop:=a<n∧b<n∧(((a:Int),(b:Int))∈L∨((b:Int),(a:Int))∈L)
variable {n:Nat} {L:cb}
theorem Bj(a b:Nat)(h:aL n L a b):aL n L b a:=⟨h.2.1,h.1,h.2.2.symm⟩
def EZ(L:cb):Prop:=∀p∈L,p.1≠p.2
def jF(n:Nat)(o:List Nat)(k x:Nat):Prop:=x<n∧o.idxOf x<k
def qA(n:Nat)(L:cb)(o:List Nat)(k:Nat)(f:Nat→List Nat):Prop:=∀a b:Nat,a<n→b<n→k≤o.idxOf a→k≤o.idxOf b→(b∈f a↔a≠b∧Wk (aL n L) (jF n o k) a b)
variable {o:List Nat} {f:Nat→List Nat}
theorem qA.start(nb:iW n L f)(ns:EZ L):qA n L o 0 f:=fun a b ha hb _ _=>by
 rw [nb a b ha];constructor
 ·intro h
  refine ⟨fun e=>?_,.one ⟨ha,hb,h⟩⟩;subst e;rcases h with h | h <;> exact ns _ h rfl
 ·rintro ⟨_,h⟩
  cases h with
  | one ab=>exact ab.2.2
  | more _ o _=>exact absurd o.2 (mr _)
variable {k:Nat} {ms:List Nat}
theorem qA.step(ho:o.Perm (List.range n)){p:Nat}{g:Nat→List Nat}(h:qA n L o k f)(hp:p<n)(ip:o.idxOf p=k)(hm:∀q,q∈ms↔q∈f p∧k<o.idxOf q)(ml:∀q∈ms,q<n)
  (con:∀a b:Nat,a<n→(b∈g a↔b∈f a∨(a≠b∧a∈ms∧b∈ms))):qA n L o (k+1) g:=fun a b ha hb ka kb=>by
 have th:∀x,jF n o (k+1) x↔jF n o k x∨x=p:=fun x=>by
  unfold jF;constructor
  ·rintro ⟨h1,h2⟩
   by_cases e:o.idxOf x=k
   ·right
    by_cases z:x=p;·exact z
    ·exact absurd (e.trans ip.symm) (qz ho h1 hp z)
   ·exact .inl ⟨h1,by lia⟩
  ·rintro (⟨h1,h2⟩ | rfl)
   ·exact ⟨h1,by lia⟩
   ·exact ⟨hp,by lia⟩
 have ap:a≠p:=fun e=>by subst e;lia
 have bp:b≠p:=fun e=>by subst e;lia
 have ea:=h p a hp ha (by lia) (by lia)
 have eb:=h p b hp hb (by lia) (by lia)
 rw [con a b ha,h a b ha hb (by lia) (by lia),hm a,hm b,ea,eb,Wk.step th]
 constructor
 ·rintro (⟨h1,h2⟩ | ⟨h1,⟨⟨_,h2⟩,_⟩,⟨_,h3⟩,_⟩)
  ·exact ⟨h1,.inl h2⟩
  ·exact ⟨h1,.inr ⟨h2.symm Bj,h3⟩⟩
 ·rintro ⟨h1,h2 | ⟨h2,h3⟩⟩
  ·exact .inl ⟨h1,h2⟩
  ·exact .inr ⟨h1,⟨⟨Ne.symm ap,h2.symm Bj⟩,by lia⟩,⟨Ne.symm bp,h3⟩,by lia⟩
def eM(n:Nat)(L:cb)(o:List Nat)(p:Nat)(ms:List Nat):Prop:=∀q,q∈ms↔q<n∧o.idxOf p<o.idxOf q∧Wk (aL n L) (jF n o (o.idxOf p)) p q
def UG(N:Addr):Sp:=fun vs H Q E=>∃(t a:Addr) (n:Nat) (L:cb) (zs:List Int),vs=[.ref t,.ref a]∧EK H t n L∧yE n L∧EZ L∧n≤60∧H a=some (.lst (zs.map V.int))∧zs.length<64 ∧
 (¬mW zs n→∀H',af H H'→E (.ref N) none H') ∧
 ∀o:List Nat,zs=o.map iN→o.Perm (List.range n)→∀(H':Hp) (D:Addr) (rs:Nat→Addr) (g:Nat→List Nat),af H H'→H D=none→(∀p,p<n→H (rs p)=none)→oP H' D n rs g→(∀p,p<n→fb n o p (g p)∧eM n L o p (g p))→Q (.ref D) H'
def f_(M:aO):List Nat→Nat→Nat→Int
 | []=>fun _ _=>0
 | p::C=>aQ (M p) (f_ M C)
def aA(M:aO)(C:List Nat):Int:=aN C (f_ M C)
def aF(M:aO)(C:List Nat)(f:Nat→Int):Nat→Int:=lP C (f_ M C) f
def cf(q:Int)(M:aO):List Nat→Prop
 | []=>True
 | p::C=>cf q M C∧¬q∣aF M C (M p) p
section
variable {q:Int} {M:aO} {C:List Nat} {p k:Nat} {f:Nat→Int}
theorem Bk:aF M [] f k=f k:=Tg _ f k
theorem iY(hq:a9 q):∀{C:List Nat},cf q M C→¬q∣aA M C
 | [],_=>yB hq
 | _::_,h=>h.2
theorem Bl{x:Int}(h:¬q∣x):x≠0:=fun e=>h (by rw [e];exact k9 q)
theorem K7(hq:a9 q):∀{C:List Nat},cf q M C→uA C (f_ M C)
 | [],_=>Tc _
 | _::_,h=>Te (K7 hq h.1) (Bl (iY hq h.1)) (Bl h.2)
theorem yG(hq:a9 q)(h:cf q M C)(p:Nat)(f:Nat→Int)(k:Nat):aF M C (M p) p*aF M C f k-aF M C f p*aF M C (M p) k=aA M C*aF M (p::C) f k:=Ti (K7 hq h) f (M p) p k
variable {c:Nat}
theorem Bm(h:c∈C):aF M C f c=0:=Th _ f h
theorem uE(hq:a9 q):∀{C:List Nat},cf q M C→∀r∈C,∀k,aF M C (M r) k=0
 | [],_,_,hr,_=>nomatch hr
 | p::C,h,r,hr,k=>by
  have d0:=Bl (iY hq h.1);have e:=yG hq h.1 p (M r) k;have z:aA M C*aF M (p::C) (M r) k=0:=by
   rcases cx.mp hr with rfl | hr;·rw [←e];exact nW _
   ·rw [←e,uE hq h.1 r hr k,uE hq h.1 r hr p,gE,gh,nW]
  exact (nO.mp z).resolve_left d0
theorem K_:∀(C:List Nat) (i:Nat),i<C.length→f_ M C i=M (C.getD i 0)
 | _::_,0,_=>rfl
 | _::C,i+1,h=>K_ C i (Nat.lt_of_succ_lt_succ h)
theorem La(M:aO)(C:List Nat)(f:Nat→Int):∃y:Nat→Int,∀k,aF M C f k=aA M C*f k+aZ C.length fun i=>M (C.getD i 0) k*y i:=⟨fun i=>-(sgn i)*aN C (aQ f (bP i (f_ M C))),fun k=>by
 unfold aF lP;rw [jC k C f (f_ M C)]
 congr 1
 exact gw fun i hi=>by rw [K_ C i hi]⟩
theorem Lb:∀{C:List Nat} {R:aO} {e e':Nat→Int},(∀c∈C,e c=e' c)→aN C (aQ e R)=aN C (aQ e' R)
 | [],_,_,_,_=>rfl
 | k::C,R,e,e',h=>by
  rw [jC,jC,h k (fQ ..)]
  congr 1
  exact gw fun i hi=>by rw [Lb (C:=C) fun c hc=>h c (fj _ hc)]
theorem E1:∀{C:List Nat},C≠[]→∀{R:aO} (a b:Int) (e e':Nat→Int),aN C (aQ (fun k=>a*e k+b*e' k) R)=a*aN C (aQ e R)+b*aN C (aQ e' R)
 | [],h,_,_,_,_,_=>absurd rfl h
 | k::C,_,R,a,b,e,e'=>by
  rw [jC,jC,jC];by_cases z:C=[]
  ·subst z
   show _+0=a*(_+0)+b*(_+0);grind
  ·have s:(aZ C.length fun i=>R i k*(-(sgn i)*aN C (aQ (fun k=>a*e k+b*e' k) (bP i R))))=a*(aZ C.length fun i=>R i k*(-(sgn i)*aN C (aQ e (bP i R))))+b*aZ C.length fun i=>R i k*(-(sgn i)*aN C (aQ e' (bP i R))):=by rw [jB,jB,←qv];exact gw fun i _=>by rw [E1 z a b e e'];grind
   rw [s];grind
def dl(c:Nat):Nat→Int:=fun k=>if k=c then 1 else 0
theorem Lc{C:List Nat}(hC:C≠[]){R:aO}{f:Nat→Int}:∀{l:List Nat},l.Nodup→aN C (aQ (fun k=>if k∈l then f k else 0) R)=(l.map fun c=>f c*aN C (aQ (dl c) R)).sum
 | [],_=>by
  have:=E1 hC (R:=R) 0 0 (fun _=>0) (fun _=>0);rw [show (fun k=>if k∈([]:List Nat) then f k else 0)=fun k=>0*(fun _:Nat=>(0:Int)) k+0*(fun _:Nat=>(0:Int)) k from funext fun k=>by simp,this]
  simp
 | c::l,nd=>by
  rw [iO] at nd;rw [cy,cM,←Lc hC nd.2];have:=E1 hC (R:=R) (f c) 1 (dl c) (fun k=>if k∈l then f k else 0)
  rw [nQ] at this;rw [←this]
  congr 1
  congr 1
  funext k
  unfold dl;by_cases e:k=c
  ·subst e
   simp [nd.1]
  ·by_cases h:k∈l <;> simp [e,h]
def cQ(M:aO)(C:List Nat)(n c:Nat):Int:=-aN (n::C) (aQ (dl c) (f_ M C))
theorem Bn(nd:C.Nodup)(hn:n∉C):aF M C f n=aA M C*f n-(C.map fun c=>f c*cQ M C n c).sum:=by
 have hC:n::C≠[]:=List.cons_ne_nil _ _;have e1:aF M C f n=((n::C).map fun c=>f c*aN (n::C) (aQ (dl c) (f_ M C))).sum:=by rw [←Lc hC (iO.mpr ⟨hn,nd⟩)];unfold aF lP;exact Lb fun c hc=>by rw [ar hc]
 have e2:aN (n::C) (aQ (dl n) (f_ M C))=aA M C:=by
  rw [jC];have:(aZ C.length fun i=>f_ M C i n*(-(sgn i)*aN C (aQ (dl n) (bP i (f_ M C)))))=0:=by rw [←yw C.length];refine gw fun i hi=>?_;rw [Kt (e:=dl n) _ (fun z=>by rw [z] at hi;exact absurd hi (mr _)) fun x hx=>ao (fun z:x=n=>hn (z▸hx)),gE,gE]
  rw [this];unfold dl aA;simp
 rw [e1,cy,cM,e2];have e3:((C.map fun c=>f c*aN (n::C) (aQ (dl c) (f_ M C))).sum)=-(C.map fun c=>f c*cQ M C n c).sum:=by
  have gen:∀(w:Nat→Int) (l:List Nat),(l.map fun c=>f c*w c).sum=-(l.map fun c=>f c * -w c).sum:=fun w l=>by
   induction l with
   | nil=>rfl
   | cons x l ih=>rw [cy,cM,cy,cM,ih];grind
  exact gen (fun c=>aN (n::C) (aQ (dl c) (f_ M C))) C
 rw [e3,dX];lia
theorem E2(hq:a9 q)(g:cf q M C)(nd:C.Nodup)(hn:n∉C){r:Nat}(hr:r∈C):(C.map fun c=>M r c*cQ M C n c).sum=aA M C*M r n:=by have:=Bn (M:=M) (f:=M r) nd hn;rw [uE hq g r hr n] at this;lia
theorem mX(a:Int)(F:Nat→Int):∀l:List Nat,(l.map fun c=>a*F c).sum=a*(l.map F).sum
 | []=>(gE a).symm
 | x::l=>by rw [cy,cM,cy,cM,mX a F l,Int.mul_add]
theorem E3(F G:Nat→Int):∀l:List Nat,(l.map fun c=>F c+G c).sum=(l.map F).sum+(l.map G).sum
 | []=>rfl
 | x::l=>by rw [cy,cM,cy,cM,cy,cM,E3 F G l];lia
theorem E5(F:aO):∀(m:Nat) (l:List Nat),(l.map fun c=>aZ m fun i=>F i c).sum=aZ m fun i=>(l.map (F i)).sum
 | m,[]=>(yw m).symm
 | m,x::l=>by rw [cy,cM,E5 F m l,←qv];exact gw fun i _=>by rw [cy,cM]
theorem Ld(hq:a9 q)(g:cf q M C)(nd:C.Nodup)(hn:n∉C){C':List Nat}(sub:∀r∈C',r∈C)(hp:p∈C):(C.map fun c=>aF M C' (M p) c*cQ M C n c).sum=aA M C*aF M C' (M p) n:=by
 obtain ⟨y,hy⟩:=La M C' (M p);have e:(fun c=>aF M C' (M p) c*cQ M C n c)=fun c=>aA M C'*(M p c*cQ M C n c)+aZ C'.length fun i=>y i*(M (C'.getD i 0) c*cQ M C n c):=by
  funext c
  rw [hy c,Int.add_mul,k7,dX (aZ _ _),jB]
  congr 1
  exact gw fun i _=>by grind
 rw [e,E3,mX,E2 hq g nd hn hp,E5];have e2:(aZ C'.length fun i=>(C.map fun c=>y i*(M (C'.getD i 0) c*cQ M C n c)).sum)=aA M C*aZ C'.length fun i=>M (C'.getD i 0) n*y i:=by
  rw [jB];refine gw fun i hi=>?_;have mem:C'.getD i 0∈C':=by rw [jb,dF hi];exact dN hi
  rw [mX,E2 hq g nd hn (sub _ mem)];grind
 rw [e2,hy n];grind
theorem oQ(hq:a9 q){n:Nat}{bT:Nat→Nat→Prop}(zero:∀a b,a<n→b<n→a≠b→¬bT a b→M a b=0):∀{C:List Nat},cf q M C→(∀c∈C,c<n)→∀i j,i<n→j<n→i∉C→j∉C→i≠j→¬Wk bT (·∈C) i j→aF M C (M i) j=0
 | [],_,_,i,j,li,lj,_,_,ij,nw=>by rw [Bk];exact zero i j li lj ij fun z=>nw (.one z)
 | p::C,g,lc,i,j,li,lj,hi,hj,ij,nw=>by
  rw [cx,not_or] at hi hj;have lp:=lc p (fQ ..);have E6:∀c∈C,c<n:=fun c hc=>lc c (fj _ hc);have st:=Wk.step (bT:=bT) (b9:=(·∈C)) (uD:=(·∈p::C)) (s:=i) (t:=j) (p:=p) fun x=>by rw [cx];exact Or.comm
  rw [st,not_or] at nw;have e:=yG hq g.1 p (M i) j;rw [oQ hq zero g.1 E6 i j li lj hi.2 hj.2 ij nw.1,gE] at e;have z:aF M C (M i) p*aF M C (M p) j=0:=by
   by_cases pC:p∈C;·rw [Bm pC,gh]
   ·by_cases w:Wk bT (·∈C) i p
    ·rw [oQ hq zero g.1 E6 p j lp lj pC hj.2 (Ne.symm hj.1) fun z=>nw.2 ⟨w,z⟩,gE]
    ·rw [oQ hq zero g.1 E6 i p li lp hi.2 pC hi.1 w,gh]
  rw [z] at e;exact (nO.mp (show aA M C*aF M (p::C) (M i) j=0 by lia)).resolve_left (Bl (iY hq g.1))
theorem Bo{B:Nat}(hB:∀i k,(M i k).natAbs≤B):∀(C:List Nat) (i k:Nat),(f_ M C i k).natAbs≤B
 | [],_,_=>ck _
 | p::_,0,k=>hB p k
 | _::C,i+1,k=>Bo hB C i k
theorem Le{B:Nat}{R:aO}(hf:∀k,(f k).natAbs≤B)(hR:∀i k,(R i k).natAbs≤B):∀i k,(aQ f R i k).natAbs≤B
 | 0,k=>hf k
 | i+1,k=>hR i k
variable {B:Nat}
theorem Lf(hB:∀i k,(M i k).natAbs≤B)(hf:∀k,(f k).natAbs≤B):(aF M C f k).natAbs≤gL (C.length+1)*B ^ (C.length+1):=Be (k::C) _ (Le hf (Bo hB C))
theorem Lg(hB:∀i k,(M i k).natAbs≤B):(aA M C).natAbs≤gL C.length*B ^ C.length:=Be C _ (Bo hB C)
theorem UH(b1:1≤B)(hB:∀i k,(M i k).natAbs≤B):(cQ M C n c).natAbs≤gL (C.length+1)*B ^ (C.length+1):=by unfold cQ;rw [mB];exact Be (n::C) _ (Le (fun k=>by unfold dl;split;exact b1;exact ck _) (Bo hB C))
end
def aJ(B:Nat)(H:Hp)(q:Int)(v:V)(T U:Int):Prop:=∃x m:Int,a_ B H q v x m∧q∣x*U-T*m∧¬q∣U
section
variable {B Y:Nat} {H H':Hp} {q:Int} {v u:V} {T U T' U':Int}
theorem aJ.mono(h:aJ B H q v T U)(s:af H H'):aJ B H' q v T U:=let ⟨x,m,h1,h2⟩:=h;⟨x,m,h1.mono s,h2⟩
theorem aJ.eq(hq:a9 q)(h:aJ B H q v T U)(e:Cg q (T*U') (T'*U))(nu:¬q∣U'):aJ B H q v T' U':=by
 obtain ⟨x,m,h1,h2,h3⟩:=h;refine ⟨x,m,h1,?_,nu⟩;have c:Cg q (U*(x*U'-T'*m)) 0:=by
  have a:Cg q (U'*(x*U)) (U'*(T*m)):=Cg.mulL U' h2;have b:Cg q (m*(T*U')) (m*(T'*U)):=Cg.mulL m e;have d:=a.trans ((Cg.of_eq (by grind)).trans b)
  have d2:=d.sub (Cg.refl (m*(T'*U)));exact (Cg.of_eq (by grind)).trans (d2.trans (Cg.of_eq (by lia)))
 have:=yC hq h3 c;unfold Cg at this
 rwa [ku] at this
theorem aJ.bd(h:aJ B H q v T U)(bt:T.natAbs≤Y)(bu:U.natAbs≤Y):aJ Y H q v T U:=by
 obtain ⟨x,m,h1,h2,h3⟩:=h;cases h1 with
 | rem a b c=>exact ⟨_,_,.rem a b c,h2,h3⟩
 | ba e l bx bm=>
  have h2:=eX.mp h2;have U0:U≠0:=fun z=>h3 (by rw [z];exact jd 0)
  have le:m≤(U.natAbs:Int)∧x.natAbs≤T.natAbs:=by
   by_cases up:0<U
   ·have:=ur l up (show x*U=T*m by lia)
    exact ⟨by lia,this.2⟩
   ·have:=ur l (show 0 < -U by lia) (show x * -U=-T*m by rw [k8,tY];lia)
    rw [mB] at this;exact ⟨by lia,this.2⟩
  have mp:=l.pos;exact ⟨x,m,.ba e l (by lia) (by lia),by rw [h2];exact jd 0,h3⟩
theorem mY(hq:a9 q)(h:aJ B H q v T U):q∣T↔∃x m,a_ B H q v x m∧x=0:=by
 obtain ⟨x,m,h1,h2,h3⟩:=h;constructor
 ·intro d
  refine ⟨x,m,h1,?_⟩;have c:Cg q (U*x) 0:=by
   have:q∣x*U:=by
    have:=tX h2 (DH (c:=m) d)
    rwa [Int.sub_add_cancel] at this
   unfold Cg;rw [ku,dX];exact this
  have:=yC hq h3 c;unfold Cg at this;rw [ku] at this;cases h1 with
  | ba=>exact eX.mp this
  | rem a b c=>
   obtain ⟨k,hk⟩:=this;have:k=0:=by
    rcases Int.lt_trichotomy k 0 with z | z | z
    ·have:q*k≤q*(-1):=tW (by lia) (by lia)
     lia
    ·exact z
    ·have:q*1≤q*k:=tW (by lia) (by lia)
     lia
   rw [hk,this,gE]
 ·rintro ⟨x',m',oN,rfl⟩
  have e:x=0:=by
   cases h1 with
   | ba e l=>
    cases oN with
    | ba e' l'=>rw [e] at e';cases e';rfl
   | rem=>cases oN;rfl
  subst e;have:q∣T*m:=by have:=h2;rw [gh,pK] at this;exact Int.dvd_neg.mp this
  cases h1 with
  | ba e l=>
   have:=eX.mp this;have mp:=l.pos;have:T=0:=(nO.mp this).resolve_right (by lia)
   rw [this];exact jd 0
  | rem=>rwa [fS] at this
end
section
variable {H:Hp} {q:Int} {v u:V} {T U T' U':Int} {C N z:Addr} {Q:VK} {E:XK}
theorem Bp{B:Nat}{x m:Int}(h:a_ B H q v x m)(b:B≤10 ^ 300):b8 x∧b8 m∧1≤m:=by
 cases h with
 | ba e l bx bm=>exact ⟨aH bx b,aH bm b,l.pos⟩
 | rem h0 h1 h2=>exact ⟨aH (show _≤997 by lia) (by decide +kernel),by unfold b8;decide +kernel,by decide⟩
variable {X Y Y':Nat}
theorem Lh{fr:Int→Int→Int→Int→Int}{rm:Int→Int→Int}(hw:eK C H z q)(hq:a9 q)(hv:aJ X H q v T U)(hu:aJ Y H q u T' U')(bX:X≤10 ^ 300)(bY:Y≤10 ^ 300)(top bot:Int)
  (hf:∀x m y n,q∣x*U-T*m→q∣y*U'-T'*n→q∣fr x m y n*bot-top*(m*n)) (hr:∀x y,fr x 1 y 1=rm x y) (nb:¬q∣bot) (bt:top.natAbs≤Y') (bb:bot.natAbs≤Y')
  (k:∀(v':V) (H':Hp),af H H'→aJ Y' H' q v' top bot→Q v' H'):kK C fr rm [.ref z,v,u] H Q E:=by
 obtain ⟨x,m,h1,h2,h3⟩:=hv
 obtain ⟨y,n,g1,g2,g3⟩:=hu
 obtain ⟨a1,a2,a3⟩:=Bp h1 bX
 obtain ⟨b1,b2,b3⟩:=Bp g1 bY
 have key:=hf x m y n h2 g2
 refine ⟨z,q,v,u,rfl,hw,?_⟩
 cases h1 with
 | ba e l bx bm=>
  cases g1 with
  | ba e' l' E7 qj=>
   refine .inl ⟨rfl,_,_,x,m,y,n,rfl,rfl,e,e',l,l',a1,a2,b1,b2,fun r' H' a d s' er la ea=>k _ H' s' ?_⟩
   have key:=eX.mp key
   have mn:m*n≠0:=xJ (nM (by lia) (by lia))
   have ew:a*bot=top*d:=by
    refine DE mn ?_
    have:fr x m y n*bot=top*(m*n):=by omega
    calc a*bot*(m*n)=a*(m*n)*bot:=by grind
     _=fr x m y n*d*bot:=by rw [ea]
     _=fr x m y n*bot*d:=by grind
     _=top*(m*n)*d:=by rw [this]
     _=top*d*(m*n):=by grind
   have W:aJ (a.natAbs+d.natAbs) H' 0 (.ref r') top bot:=⟨a,d,.ba er la (by lia) (by lia),by rw [ew,nW];exact jd 0,nb⟩
   exact W.bd bt bb
  | rem h0 h1 h2=>lia
 | rem h0 oN mO=>
  cases g1 with
  | ba e' l' E7 qj=>lia
  | rem g0 g1 UI=>
   have ql:2≤q:=by rcases hq with h | h <;> lia
   refine .inr ⟨ql,x,y,rfl,rfl,h0,by lia,k _ H (af.refl _) ⟨_,1,.rem (fI _ (by lia)) (fT _ (by lia)) mO,?_,nb⟩⟩
   rw [fS,fS] at key
   rw [hr] at key
   rw [fS]
   have c:Cg q (rm x y % q*bot) (rm x y*bot):=(qx q _).mulR bot
   exact c.trans key
theorem E8(hw:eK C H z q)(hq:a9 q)(hv:aJ X H q v T U)(hu:aJ Y H q u T' U')(bX:X≤10 ^ 300)(bY:Y≤10 ^ 300)(nb:¬q∣U*U')(bt:(T*U'-T'*U).natAbs≤Y')(bb:(U*U').natAbs≤Y')
  (k:∀(v':V) (H':Hp),af H H'→aJ Y' H' q v' (T*U'-T'*U) (U*U')→Q v' H'):kK C (fun x m y n=>x*n-y*m) (fun i j=>i-j) [.ref z,v,u] H Q E:=
 Lh hw hq hv hu bX bY _ _ (fun x m y n h1 h2=>by obtain ⟨a,ha⟩:=h1;obtain ⟨b,hb⟩:=h2;exact ⟨n*U'*a-m*U*b,by grind⟩) (fun x y=>by rw [fS,fS]) nb bt bb k
theorem E9(hw:eK C H z q)(hq:a9 q)(hv:aJ X H q v T U)(hu:aJ Y H q u T' U')(bX:X≤10 ^ 300)(bY:Y≤10 ^ 300)(nb:¬q∣U*U')(bt:(T*T').natAbs≤Y')(bb:(U*U').natAbs≤Y')
  (k:∀(v':V) (H':Hp),af H H'→aJ Y' H' q v' (T*T') (U*U')→Q v' H'):kK C (fun x m y n=>x*y) (fun i j=>i*j) [.ref z,v,u] H Q E:=
 Lh hw hq hv hu bX bY _ _ (fun x m y n h1 h2=>by obtain ⟨a,ha⟩:=h1;obtain ⟨b,hb⟩:=h2;exact ⟨y*U'*a+T*m*b,by grind⟩) (fun x y=>rfl) nb bt bb k
theorem dh(hq:a9 q){a b:Int}(ha:¬q∣a)(hb:¬q∣b):¬q∣a*b:=fun d=>hb (by
 have:=yC hq ha (show Cg q (a*b) 0 by unfold Cg;rwa [ku])
 unfold Cg at this
 rwa [ku] at this)
theorem Li(hw:eK C H z q)(hq:a9 q)(hv:aJ X H q v T U)(hu:aJ Y H q u T' U')(bX:X≤10 ^ 300)(bY:Y≤10 ^ 300)(nt:¬q∣T')(bt:(T*U').natAbs≤Y')(bb:(U*T').natAbs≤Y')
  (k:∀(v':V) (H':Hp),af H H'→aJ Y' H' q v' (T*U') (U*T')→Q v' H'):A2 C N [.ref z,v,u] H Q E:=by
 have ny:∀{y n},a_ Y H q u y n→q∣y*U'-T'*n→¬q∣U'→y≠0:=fun{y n} g1 g2 g3 e=>nt ((mY hq ⟨y,n,g1,g2,g3⟩).mpr ⟨y,n,g1,e⟩)
 obtain ⟨x,m,h1,h2,h3⟩:=hv
 obtain ⟨y,n,g1,g2,g3⟩:=hu
 have y0:=ny g1 g2 g3
 obtain ⟨a1,a2,a3⟩:=Bp h1 bX
 obtain ⟨b1,b2,b3⟩:=Bp g1 bY
 have nb:=dh hq h3 nt
 refine ⟨z,q,v,u,rfl,hw,?_⟩
 cases h1 with
 | ba e l bx bm=>
  cases g1 with
  | ba e' l' E7 qj=>
   refine .inl ⟨rfl,_,_,x,m,y,n,rfl,rfl,e,e',l,l',a1,a2,b1,b2,fun z=>absurd z y0,fun _ r' H' a d s' er la ea=>k _ H' s' ?_⟩
   have h2:=eX.mp h2
   have g2:=eX.mp g2
   have my:m*y≠0:=fun z=>(nO.mp z).elim (fun z=>by lia) y0
   have ew:a*(U*T')=T*U'*d:=by
    refine DE (a:=m*y) my ?_
    have e1:x*U=T*m:=by lia
    have e2:T'*n=y*U':=by lia
    calc a*(U*T')*(m*y)=a*(m*y)*(U*T'):=by grind
     _=x*n*d*(U*T'):=by rw [ea]
     _=x*U*(T'*n)*d:=by grind
     _=T*m*(y*U')*d:=by rw [e1,e2]
     _=T*U'*d*(m*y):=by grind
   have W:aJ (a.natAbs+d.natAbs) H' 0 (.ref r') (T*U') (U*T'):=⟨a,d,.ba er la (by lia) (by lia),by rw [ew,nW];exact jd 0,nb⟩
   exact W.bd bt bb
  | rem h0 h1 h2=>lia
 | rem h0 oN mO=>
  cases g1 with
  | ba e' l' E7 qj=>lia
  | rem g0 g1 UI=>
   have cV:2≤q∧q≤997∧fA q=true:=by rcases hq with h | h;lia;exact h
   refine .inr ⟨cV.1,x,y,rfl,rfl,cV.2.1,cV.2.2,h0,oN,g0,g1,fun z=>absurd z y0,fun _ r r0 r1 er=>k _ H (af.refl _) ⟨r,1,.rem r0 r1 mO,?_,nb⟩⟩
   have c1:Cg q (r*y) x:=by
    have:=qx q (r*y)
    rw [er] at this
    exact this.symm
   have c2:Cg q (x*U) (T*1):=h2
   have c3:Cg q (y*U') (T'*1):=g2
   rw [fS] at c2 c3 ⊢
   have e1:Cg q (r*(U*T')) (r*U*(y*U')):=(Cg.of_eq (by grind)).trans ((c3.symm).mulL (r*U))
   have e2:Cg q (r*U*(y*U')) (x*(U*U')):=(Cg.of_eq (show r*U*(y*U')=r*y*(U*U') by grind)).trans (c1.mulR (U*U'))
   have e3:Cg q (x*(U*U')) (T*U'):=(Cg.of_eq (show x*(U*U')=x*U*U' by grind)).trans (c2.mulR U')
   exact e1.trans (e2.trans e3)
end
def bg(o:List Nat):List V:=o.map fun k:Nat=>V.int (k:Int)
structure WTab (H:Hp) (a:Addr) (n:Nat) (rs:Nat→Addr) (vf:Nat→Nat→V):Prop where
 lst:H a=some (.lst ((List.range n).map fun i=>V.ref (rs i)))
 inj:∀i j,i<n→j<n→rs i=rs j→i=j
 ne:∀i,i<n→rs i≠a
 at':∀i,i<n→H (rs i)=some (.lst ((List.range n).map (vf i)))
def j_(vf:Nat→Nat→V)(i j:Nat)(w:V):Nat→Nat→V:=fun i' j'=>if i'=i∧j'=j then w else vf i' j'
variable {j:Nat} {w:V}
theorem map_set{f:Nat→V}:((List.range n).map f).set j w=(List.range n).map fun j'=>if j'=j then w else f j':=by
 refine gQ (by simp) fun i h1 h2=>?_
 rw [List.getElem_set];simp;by_cases e:j=i;·subst e;simp
 ·rw [ao e,ao (Ne.symm e)]
section
variable {H H':Hp} {a:Addr} {n:Nat} {rs:Nat→Addr} {vf:Nat→Nat→V}
theorem WTab.bR(h:WTab H a n rs vf)(k:∀b o,(b=a∨∃i,i<n∧b=rs i)→H b=some o→H' b=some o):WTab H' a n rs vf:=
 ⟨k _ _ (.inl rfl) h.lst,h.inj,h.ne,fun i hi=>k _ _ (.inr ⟨i,hi,rfl⟩) (h.at' i hi)⟩
theorem WTab.mono(h:WTab H a n rs vf)(s:af H H'):WTab H' a n rs vf:=h.bR fun b o _ e=>s b o e
theorem WTab.put(h:WTab H a n rs vf){i:Nat}(w:V)(hi:i<n):WTab (upd H (rs i) (.lst (((List.range n).map (vf i)).set j w))) a n rs (j_ vf i j w):=by
 refine ⟨by rw [aP (Ne.symm (h.ne i hi))];exact h.lst,h.inj,h.ne,fun i' cR=>?_⟩
 by_cases e:i'=i
 ·subst e
  rw [az,map_set]
  congr 2
  refine h_ fun j' _=>?_;unfold j_;simp
 ·rw [aP (fun z=>e (h.inj i' i cR hi z)),h.at' i' cR]
  congr 2
  refine h_ fun j' _=>?_;unfold j_;simp [e]
end
structure Lj (q:Int) (X n p:Nat) (ms:List Nat) (T U T' U':aO):Prop where
 iG:¬q∣T p p
 nz:∀i j,i<n→j<n→¬q∣U' i j
 bt:∀i j,i<n→j<n→(T' i j).natAbs≤X∧(U' i j).natAbs≤X
 low:∀i∈ms,Cg q (T i p*U p p*U' i p) (T' i p*(U i p*T p p))
 ent:∀i∈ms,∀j∈ms,Cg q ((T i j*(U' i p*U p j)-T' i p*T p j*U i j)*U' i j) (T' i j*(U i j*(U' i p*U p j)))
 yH:∀i j,i<n→j<n→(i∉ms∨(j≠p∧j∉ms))→Cg q (T i j*U' i j) (T' i j*U i j)
def fe(X:Nat)(H:Hp)(q:Int)(n:Nat)(vf:Nat→Nat→V)(T U:aO):Prop:=∀i j,i<n→j<n→aJ X H q (vf i j) (T i j) (U i j)
def fN(n:Nat)(rs:Nat→Addr)(H H':Hp):Prop:=∀b o,(∀i,i<n→b≠rs i)→H b=some o→H' b=some o
def UJ(C:Addr):Sp:=fun vs H Q _=>∃(z a b:Addr) (q:Int) (n X p:Nat) (rs:Nat→Addr) (vf:Nat→Nat→V) (ms:List Nat) (T U T' U':aO),vs=[.ref z,.ref a,.int (p:Int),.ref b]∧eK C H z q∧a9 q∧WTab H a n rs vf∧H b=some (.lst (bg ms))∧(∀i,i<n→b≠rs i∧z≠rs i)∧p<n∧(∀m∈ms,m<n∧m≠p)∧ms.Nodup∧n≤60∧1000≤X∧X≤10 ^ 100∧fe X H q n vf T U∧(∀i j,i<n→j<n→(T i j).natAbs≤X∧(U i j).natAbs≤X)∧Lj q X n p ms T U T' U' ∧
 ∀(H':Hp) (fE:Nat→Nat→V),fN n rs H H'→WTab H' a n rs fE→fe X H' q n fE T' U'→Q .aU H'
def fg(D:Nat→Nat→Bool)(T T':aO):Nat→Nat→Int:=fun i j=>if D i j then T' i j else T i j
theorem fN.refl(n:Nat)(rs:Nat→Addr)(H:Hp):fN n rs H H:=fun _ _ _ e=>e
variable {rs:Nat→Addr} {H H1:Hp}
theorem fN.same{H2:Hp}(h:fN n rs H H1)(s:af H1 H2):fN n rs H H2:=fun b o nb e=>s _ _ (h b o nb e)
variable {i:Nat}
theorem fN.put{o:HO}(h:fN n rs H H1)(hi:i<n):fN n rs H (upd H1 (rs i) o):=fun b u nb e=>by rw [aP (nb i hi)];exact h b u nb e
theorem int_at{x:V}(h:(bg ms)[k]?=some x):∃i:Nat,ms[k]?=some i∧x=.int (i:Int):=by
 unfold bg at h;rw [cz] at h;cases e:ms[k]? with
 | none=>rw [e] at h;cases h
 | some i=>rw [e] at h;exact ⟨i,rfl,(Option.some.inj h).symm⟩
theorem Bq(nd:ms.Nodup)(h:ms[k]?=some i):i∉ms.take k:=fun z=>by have h2:=(pE (k+1) ms).nodup nd;rw [take_snoc h,tZ] at h2;exact h2.2.2 i z i (dj.mpr rfl) rfl
variable {D:Nat→Nat→Bool} {T T':aO}
theorem d5(h:D i j=true):fg D T T' i j=T' i j:=by unfold fg;rw [ar h]
theorem cK(h:D i j=false):fg D T T' i j=T i j:=by unfold fg;rw [h];rfl
variable {X:Nat} {q:Int} {vf:Nat→Nat→V} {U U':aO}
theorem fe.put{H':Hp}(h:fe X H q n vf T U)(k:∀v t u,aJ X H q v t u→aJ X H' q v t u)(hw:aJ X H' q w (T' i j) (U' i j))(o:∀i' j',i'<n→j'<n→¬(i'=i∧j'=j)→T' i' j'=T i' j'∧U' i' j'=U i' j'):fe X H' q n (j_ vf i j w) T' U':=fun i' j' cR du=>by
 unfold j_;by_cases e:i'=i∧j'=j
 ·rw [ar e,e.1,e.2]
  exact hw
 ·rw [ao e,(o i' j' cR du e).1,(o i' j' cR du e).2]
  exact k _ _ _ (h i' j' cR du)
theorem fe.to(h:fe X H q n vf T U)(o:∀i' j',i'<n→j'<n→T' i' j'=T i' j'∧U' i' j'=U i' j'):fe X H q n vf T' U':=fun i j hi hj=>by rw [(o i j hi hj).1,(o i j hi hj).2];exact h i j hi hj
theorem fe.Ll(hq:a9 q)(h:fe X H q n vf T U)(o:∀i j,i<n→j<n→(T' i j=T i j∧U' i j=U i j)∨(Cg q (T i j*U' i j) (T' i j*U i j)∧¬q∣U' i j∧(T' i j).natAbs≤X∧(U' i j).natAbs≤X)):fe X H q n vf T' U':=fun i j hi hj=>by
 rcases o i j hi hj with ⟨e1,e2⟩ | ⟨e1,e2,e3,e4⟩
 ·rw [e1,e2]
  exact h i j hi hj
 ·exact ((h i j hi hj).eq hq e1 e2).bd e3 e4
theorem aJ.put{v:V}{t u:Int}{b:Addr}{xs:List V}{o:HO}(h:aJ X H q v t u)(e:H b=some (.lst xs)):aJ X (upd H b o) q v t u:=by
 obtain ⟨x,m,h1,h2⟩:=h;refine ⟨x,m,?_,h2⟩;cases h1 with
 | ba e' l bx bm=>exact .ba (by rw [aP (fun z=>by rw [z,e] at e';cases e')];exact e') l bx bm
 | rem a b c=>exact .rem a b c
end My
namespace L2
open PySem PySem.Spec PyProof.Rows
section
variable {X:Cx} {a b:Expr} {rest:List Expr} {pos:Pos} {ta tb:TE}
end
end L2
namespace My
open PySem L2
end My
namespace L2
open PySem PySem.Spec PyProof.Rows
section
variable {prog:Program} {w:World} {A:Around} {E:aX} {s:Shared}
end
section
variable {prog:Program} {w:World} {A:Around} {E:aX} {s:Shared}
end
section
variable {X:Cx}
end
section
variable {prog:Program} {w:World} {A:Around} {E:aX} {s:Shared}
end
end L2
namespace My
open PySem L2
end My
namespace L2
open PySem PySem.Spec PyProof.Rows
end L2
namespace My
open PySem L2
end My
namespace L2
open PySem PySem.Spec PyProof.Rows
section
variable {X:Cx}
end
end L2
namespace My
open PySem L2
end My
namespace L2
open PySem
section
variable {prog:Program} {w:World} {A:Around} {E:aX} {s:Shared}
end
end L2
namespace My
open PySem L2
end My
namespace L2
open PySem PySem.Spec PyProof.Rows My
end L2
namespace My
open PySem L2
section
variable {P a d:Addr} {H Hc:Hp} {n m:Nat} {L:cb}
end
section
variable {n:Nat} {E:Nat→Nat→Prop} {pos rk:Nat→Nat}
end
open PySem PySem.W PyProof.Rows Tm
section
variable {prog:Program} {w:World} {A:Around} {E:aX} {s:Shared}
end
open PySem PySem.W PyProof.Rows
section
variable {prog:Program} {w:World} {A:Around} {E:aX} {s:Shared}
end
end My
namespace L2
open PySem PySem.W PyProof.Rows My
end L2
namespace My
open PySem PySem.W PyProof.Rows
section
variable {prog:Program} {w:World} {A:Around} {E:aX} {s:Shared} {R:Result→Shared→Prop}
end
open PySem PySem.W PyProof.Rows L2
section
variable {prog:Program} {w:World} {A:Around} {s:Shared}
end
end My
namespace L2
open PySem PySem.W PyProof.Rows My
end L2
namespace My
open PySem L2
end My
namespace L2
open PySem PySem.Spec PyProof.Rows My
end L2
namespace My
open PySem L2
end My
namespace L2
open PySem
section
variable {prog:Program} {w:World} {A:Around} {E:aX} {s:Shared}
end
open PySem PySem.Spec PyProof.Rows My
end L2
namespace My
open PySem L2
end My
namespace L2
open PySem PySem.W PyProof.Rows
section
variable {prog:Program} {w:World} {A:Around} {E:aX} {s:Shared}
end
open AutoSeq1 (wpAny_loadPart')
section
variable {prog:Program} {w:World} {A:Around} {E:aX} {s:Shared}
end
end L2
namespace My
open PySem L2
end My
namespace L2
open PySem PySem.Spec PyProof.Rows My
end L2
namespace My
open PySem L2
open PySem L2 Classical
theorem aw{a b:TS}{D:Ends}{σ:St}{H:Hp}(h:∀R:St→Hp→Prop,(∀σ H,b D σ H→R σ H)→a {D with nx:=R} σ H):DS a b D σ H:=h _ fun _ _ h=>h
end My
namespace L2
open PySem PySem.Spec PyProof.Rows
end L2
namespace My
open PySem L2 Classical
open PySem L2
end My
namespace L2
open PySem PySem.Spec PyProof.Rows My
section
variable {X:Cx}
end
end L2
namespace My
open PySem L2
end My
namespace L2
open PySem PySem.Spec PyProof.Rows My
end L2
namespace My
open PySem L2
def sV(s:String):V:=.str (Str.ofString s)
end My
namespace L2
open PySem PySem.Spec PyProof.Rows
section
variable {prog:Program} {w:World} {A:Around} {E:aX} {s:Shared}
end
open AutoSeq1 (wpAny_loadPart')
section
variable {prog:Program} {w:World} {A:Around} {E:aX} {s:Shared}
end
section
variable {prog:Program} {w:World} {A:Around} {E:aX} {s:Shared}
end
section
variable {X:Cx}
end
open PySem PySem.Spec PyProof.Rows My
end L2
namespace My
open PySem L2
def b_(H:Hp)(T:Addr):Prop:=∃x:Int,H T=some (.lst [.int x])
def bh(T:Addr)(H H':Hp):Prop:=∀b o,b≠T→H b=some o→H' b=some o
variable {T:Addr} {H H1:Hp}
theorem bh.trans{H2:Hp}(a:bh T H H1)(b:bh T H1 H2):bh T H H2:=fun c o n e=>b c o n (a c o n e)
theorem bh.of(a:af H H1):bh T H H1:=fun c o _ e=>a c o e
theorem bh.upd{o:HO}:bh T H (L2.upd H T o):=fun c u n e=>(aP n).trans e
theorem b_.mono(h:b_ H T)(a:af H H1):b_ H1 T:=let ⟨x,e⟩:=h;⟨x,a _ _ e⟩
theorem b_.ne{b:Addr}(h:b_ H T)(n:H b=none):b≠T:=fun z=>by obtain ⟨x,e⟩:=h;rw [z,e] at n;cases n
def UK(K:aD):Sp:=fun vs H Q _=>∃(a:Addr) (ns:List Int) (k:Nat),vs=[.ref a,.int (k:Int)]∧bU K H a (ns.map V.int)∧∀z:Int,Q (.int z) H
def UL(K:aD):Sp:=fun vs H Q _=>∃(a:Addr) (ns:List Int) (k:Nat),vs=[.ref a,.int (k:Int)]∧bU K H a (ns.map V.int)∧k≤1000∧∀(T:Addr) (H':Hp),af H H'→H T=none→b_ H' T→Q (.ref T) H'
def UM:Sp:=fun vs H Q _=>∃(T:Addr) (m:Nat),vs=[.ref T,.int (m:Int)]∧b_ H T∧1≤m∧m≤1000∧∀(d:Nat) (H':Hp),d<m→bh T H H'→b_ H' T→Q (.int (d:Int)) H'
theorem bh.refl(T:Addr)(H:Hp):bh T H H:=fun _ _ _ e=>e
end My
namespace L2
open PySem
end L2
namespace My
open PySem L2
def E_(m:Nat):Nat:=m*m+3*m+1
end My
namespace L2
open PySem
variable {X:Cx}
def UN:V→List V→Hp→VK→Prop:=fun x vs H Q=>∃l xs,∃k:Nat,∃i:Int,∃y,x=.ref l∧vs=[.int i,y]∧i=(k:Int)∧H l=some (.lst xs)∧k≤xs.length∧xs.length≤1000∧Q .aU (upd H l (.lst (xs.take k++y::xs.drop k)))
theorem UO:ya X "list.insert" UN:=by
 intro pins s σ H x vs v us Q I rx rv h;obtain ⟨l,xs,k,i,y,rfl,rfl,hi,hH,hk,hz,q⟩:=h;cases rx;obtain ⟨u,w,rfl,ru,p7⟩:=rv.two;obtain ⟨t,rfl⟩:=ru;obtain ⟨z,aj,n,r,hl,e⟩:=I.mK hH;have l1:1001≤sizeLine:=by decide +kernel
 have lx:=r.length;have hf:¬(!Builtin.List.listFitsIndex i)=true:=by
  rw [fitsIndex_both (k:=i) (by lia) (by lia)]
  exact dA
 have hs:aj.toArray.size≤sizeLine:=by rw [cY];lia
 have M:=@AutoSeq1.list_insert_list_int_val_1 l aj.toArray n i t w hf hs;refine pG F.slot_list_insert ⟨_,e,rfl⟩ F.entry_list_insert (@F.args_list_insert_3 _ _ _) M ⟨e,?_⟩;refine ⟨.aU,_,I.yb (its':=aj.take k++w::aj.drop k) hH e ?_ ((r.take k).append (.cons p7 (r.drop k))) ?_,rfl,q⟩
 ·have e1:¬(i<0):=by lia
  have e2:min i.toNat aj.length=k:=by lia
  simp only [ao e1,cY,e2];apply Array.ext';simp;rw [nV (by simp)]
 ·rw [fo,gD,mq,xD]
  lia
open PySem PySem.Spec PyProof.Rows
section
variable {prog:Program} {w:World} {A:Around} {E:aX} {s:Shared}
end
section
variable {X:Cx} {tg:Expr}
end
section
variable {prog:Program} {w:World} {K:Type} [DecidableEq K] {knd:HeapKind prog w K} {A:Around} {E:aX} {s:Shared}
end
section
variable {prog:Program} {w:World} {A:Around} {E:aX} {s:Shared}
end
section
variable {X:Cx} {pins:a7} {σ:St} {H:Hp} {s:Shared}
end
section
variable {X:Cx} {tg:Expr}
end
open PySem PySem.W PyProof.Rows My
end L2
namespace My
open PySem L2
end My
namespace L2
open PySem
end L2
namespace My
end My
namespace L2
open PySem PySem.Spec PyProof.Rows
open PySem PySem.Spec PyProof.Rows PySem.W
open PySem PySem.Spec PyProof.Rows PySem.W Att
section
variable {prog:Program} {w:World} {A:Around} {E:aX} {s:Shared}
end
section
variable {X:Cx}
end
end L2
namespace My
open PySem L2
def nI(o:List Nat):List V:=o.map fun k:Nat=>V.int (k:Int)
def ke(n:Nat)(g:Nat→List Nat):Nat:=((List.range n).map fun x=>E_ (g x).length).sum
def UP:Sp:=fun vs H Q _=>∃(T:Addr) (n:Nat),vs=[.ref T,.int (n:Int)]∧b_ H T∧n≤60∧∀(D:Addr) (o:List Nat) (H':Hp),bh T H H'→b_ H' T→H D=none→H' D=some (.lst (nI o))→o.Perm (List.range n)→Q (.ref D) H'
def UQ:Sp:=fun vs H Q _=>∃(D:Addr) (n:Nat) (rs:Nat→Addr) (g:Nat→List Nat),vs=[.ref D]∧oP H D n rs g∧n≤60∧(∀p,p<n→(g p).length≤60)∧∀H',af H H'→Q (.int (ke n g:Int)) H'
structure gM (n:Nat) (bT:Nat→Nat→Prop) (b9:Nat→Prop) (p q:Nat) (here:Option Nat) (dn:Nat→Prop) (sn ws:List Nat) (hit:Prop):Prop where
 nd:sn.Nodup
 lt:∀x∈sn,x<n
 rc:∀x∈sn,x=p∨(b9 x∧Wk bT b9 p x)
 wt:∀x∈ws,x∈sn
 st:p∈sn
 cl:∀x∈sn,x∉ws→∀b,bT x b→((b9 b→b∈sn)∧(b=q→hit))∨(here=some x∧¬dn b)
 ht:hit→Wk bT b9 p q
section
variable {n:Nat} {bT:Nat→Nat→Prop} {b9:Nat→Prop} {p q:Nat}
variable {dn:Nat→Prop} {hit:Prop}
theorem gM.start(hp:p<n)(nh:¬hit):gM n bT b9 p q none dn [p] [p] hit:=
 ⟨by simp,fun x hx=>by rw [dj.mp hx];exact hp,fun x hx=>.inl (dj.mp hx),fun x hx=>hx,by simp,fun x hx nx=>absurd hx nx,fun h=>absurd h nh⟩
variable {qB:Nat→Prop} {sn ws:List Nat} {h:Nat}
theorem gM.UR(k:gM n bT b9 p q none dn sn (ws++[h]) hit)(Fb:∀b,¬qB b):gM n bT b9 p q (some h) qB sn ws hit:=
 ⟨k.nd,k.lt,k.rc,fun x hx=>k.wt x (mi _ hx),k.st,fun x hx nx b hb=>by
  by_cases e:x=h
  ·subst e
   exact .inr ⟨rfl,Fb b⟩
  ·exact (k.cl x hx (fun z=>(fk.mp z).elim nx fun y=>e (dj.mp y)) b hb).imp id (fun z=>nomatch z.1),k.ht⟩
theorem gM.step{ox qC:List Nat}{b:Nat}{Fe:Prop}(k:gM n bT b9 p q (some h) dn sn ws hit)(hh:h∈sn)(ab:bT h b)(bn:b<n)
  (hs:(b∉sn∧b9 b∧ox=sn++[b]∧qC=ws++[b])∨((b∈sn∨¬b9 b)∧ox=sn∧qC=ws)) (hd:∀x,qB x→dn x∨x=b) (yI:Fe↔hit∨b=q):gM n bT b9 p q (some h) qB ox qC Fe:=by
 have wb:Wk bT b9 p b:=by
  rcases k.rc h hh with rfl | ⟨h1,h2⟩;·exact .one ab
  ·exact .more h2 h1 ab
 have Lm:Fe→Wk bT b9 p q:=fun z=>by
  rcases yI.mp z with z | z;·exact k.ht z
  ·rw [←z];exact wb
 rcases hs with ⟨h1,h2,rfl,rfl⟩ | ⟨h1,rfl,rfl⟩
 ·refine ⟨?_,fun x hx=>?_,fun x hx=>?_,fun x hx=>?_,mi _ k.st,fun x hx nx c hc=>?_,Lm⟩
  ·rw [tZ]
   exact ⟨k.nd,by simp,fun a ha c hc=>fun z=>h1 (by rw [dj.mp hc] at z;rw [←z];exact ha)⟩
  ·rcases fk.mp hx with hx | hx
   ·exact k.lt x hx
   ·rw [dj.mp hx];exact bn
  ·rcases fk.mp hx with hx | hx
   ·exact k.rc x hx
   ·rw [dj.mp hx];exact .inr ⟨h2,wb⟩
  ·rcases fk.mp hx with hx | hx
   ·exact mi _ (k.wt x hx)
   ·exact eB _ hx
  ·have Aq:x∈sn:=(fk.mp hx).elim id fun z=>absurd (eB _ z) nx
   rcases k.cl x Aq (fun z=>nx (mi _ z)) c hc with z | ⟨z1,z2⟩;·exact .inl ⟨fun t=>mi _ (z.1 t),fun e=>yI.mpr (.inl (z.2 e))⟩
   ·by_cases e:c=b
    ·subst e
     exact .inl ⟨fun _=>eB _ (dj.mpr rfl),fun e=>yI.mpr (.inr e)⟩
    ·exact .inr ⟨z1,fun z=>(hd c z).elim z2 e⟩
 ·refine ⟨k.nd,k.lt,k.rc,k.wt,k.st,fun x hx nx c hc=>?_,Lm⟩
  rcases k.cl x hx nx c hc with z | ⟨z1,z2⟩;·exact .inl ⟨z.1,fun e=>yI.mpr (.inl (z.2 e))⟩
  ·by_cases e:c=b
   ·subst e
    exact .inl ⟨fun t=>h1.elim id fun y=>absurd t y,fun e=>yI.mpr (.inr e)⟩
   ·exact .inr ⟨z1,fun z=>(hd c z).elim z2 e⟩
theorem gM.next(k:gM n bT b9 p q (some h) dn sn ws hit)(all:∀b,bT h b→dn b):gM n bT b9 p q none qB sn ws hit:=
 ⟨k.nd,k.lt,k.rc,k.wt,k.st,fun x hx nx b hb=>by
  rcases k.cl x hx nx b hb with z | ⟨z1,z2⟩;·exact .inl z
  ·cases z1
   exact absurd (all b hb) z2,k.ht⟩
theorem gM.done(k:gM n bT b9 p q none dn sn [] hit):hit↔Wk bT b9 p q:=by
 refine ⟨k.ht,fun w=>?_⟩;have go:∀x,Wk bT b9 p x→(b9 x→x∈sn)∧(x=q→hit):=fun x w=>by
  induction w with
  | one a=>exact (k.cl p k.st (by simp) _ a).elim id fun z=>nomatch z.1
  | more _ t a ih=>exact (k.cl _ (ih.1 t) (by simp) _ a).elim id fun z=>nomatch z.1
 exact (go q w).2 rfl
end
variable {n k x:Nat} {o:List Nat}
theorem oR(ho:o.Perm (List.range n)):x∈o.take k↔jF n o k x:=by
 have nd:=e_ ho;constructor
 ·intro h
  obtain ⟨i,hi,e⟩:=xO h;rw [mq] at hi;rw [List.getElem_take] at e;subst e;exact ⟨(cJ ho).mp (dN _),by rw [g8 nd];lia⟩
 ·rintro ⟨h1,h2⟩
  obtain ⟨hk,e⟩:=fD ((cJ ho).mpr h1);have:o.idxOf x<(o.take k).length:=by rw [mq];lia
  have:=dN this
  rwa [List.getElem_take,e] at this
theorem Ln(ho:o.Perm (List.range n)):x∈o.drop k↔x<n∧k≤o.idxOf x:=by
 have nd:=e_ ho;constructor
 ·intro h
  obtain ⟨i,hi,e⟩:=xO h;rw [xD] at hi;rw [List.getElem_drop] at e;subst e;exact ⟨(cJ ho).mp (dN _),by rw [g8 nd];lia⟩
 ·rintro ⟨h1,h2⟩
  obtain ⟨hk,e⟩:=fD ((cJ ho).mpr h1);have hl:o.idxOf x-k<(o.drop k).length:=by rw [xD];lia
  have:=dN hl;rw [List.getElem_drop] at this;simp only [show k+(o.idxOf x-k)=o.idxOf x by lia,e] at this
  exact this
def iZ(R:List Nat)(q:Nat)(c:Bool):List Nat:=if c then R++[q] else R
variable {g:Nat→List Nat} {p:Nat}
theorem US{q:Nat}{R:List Nat}:kL (cP g p (iZ R q false)) p q=cP g p (iZ R q true):=by
 funext a
 unfold kL cP iZ;by_cases e:a=p <;> simp [e]
theorem UT:cP g p (g p)=g:=by
 funext a
 unfold cP;by_cases e:a=p <;> simp [e]
theorem iX.bR{H H':Hp}{D:Addr}{rs:Nat→Addr}(h:iX H D n rs g)(k:∀b o,(b=D∨∃i,i<n∧b=rs i)→H b=some o→H' b=some o):iX H' D n rs g:=
 ⟨k _ _ (.inl rfl) h.lst,h.inj,h.ne,fun i hi=>k _ _ (.inr ⟨i,hi,rfl⟩) (h.at' i hi)⟩
def cO(o:List Nat)(k:Nat):List Nat:=(o.take k).reverse
def sT(M:aO)(D:Nat→Int)(o:List Nat)(k i j:Nat):Int:=
 if k≤o.idxOf i∧k≤o.idxOf j then aF M (cO o k) (M i) j else if o.idxOf i≤o.idxOf j then aF M (cO o (o.idxOf i)) (M i) j else aF M (cO o (o.idxOf j)) (M i) j*D j
def sU(M:aO)(D:Nat→Int)(o:List Nat)(k i j:Nat):Int:=
 if k≤o.idxOf i∧k≤o.idxOf j then D i*aA M (cO o k) else if o.idxOf i≤o.idxOf j then D i*aA M (cO o (o.idxOf i)) else D i*aA M (cO o (o.idxOf j+1))
section
variable {q:Int} {M:aO} {D:Nat→Int} {o:List Nat} {n k:Nat}
theorem kM(h:k<o.length):cO o (k+1)=o[k]::cO o k:=by unfold cO;rw [List.take_succ,dF h];simp
theorem cX(ho:o.Perm (List.range n)):x∈cO o k↔jF n o k x:=by unfold cO;rw [List.mem_reverse];exact oR ho
theorem lU(h:cf q M (cO o k)):∀{j:Nat},j≤k→cf q M (cO o j):=by
 have go:∀d j,j+d=k→cf q M (cO o j):=fun d=>by
  induction d with
  | zero=>intro j e;rw [show j=k by lia];exact h
  | succ d ih=>
   intro j e;have:=ih (j+1) (by lia)
   by_cases hl:j<o.length
   ·rw [kM hl] at this
    exact this.1
   ·have e:cO o j=cO o (j+1):=by unfold cO;rw [nV (by lia),nV (by lia)]
    rw [e];exact this
 exact fun{j} hj=>go (k-j) j (by lia)
theorem UU(hq:a9 q){L:cb}{ms:List Nat}{X:Nat}(ho:o.Perm (List.range n))(hp:p<n)(ip:o.idxOf p=k)(g:cf q M (cO o k))(iG:¬q∣aF M (cO o k) (M p) p)(hD:∀i,¬q∣D i)
  (zero:∀a b,a<n→b<n→a≠b→¬aL n L a b→M a b=0) (eU:eM n L o p ms) (bd:∀k i j,k≤n→(sT M D o k i j).natAbs≤X∧(sU M D o k i j).natAbs≤X):Lj q X n p ms (sT M D o k) (sU M D o k) (sT M D o (k+1)) (sU M D o (k+1)):=by
 have lo:=fM ho;have yJ:=e_ ho;have kl:k<o.length:=by rw [←ip];exact (fD ((cJ ho).mpr hp)).1
 have kn:k<n:=by lia
 have pk:o[k]=p:=by have:=(fD ((cJ ho).mpr hp)).2;simp only [ip] at this;exact this
 have cs:cO o (k+1)=p::cO o k:=by rw [kM kl,pk]
 have g':cf q M (cO o (k+1)):=by rw [cs];exact ⟨g,iG⟩
 have dz:∀j,j≤k+1→¬q∣aA M (cO o j):=fun j hj=>iY hq (lU g' hj);have mlt:∀{i},i∈ms→i<n∧k<o.idxOf i:=fun{i} h=>by have:=(eU i).mp h;rw [ip] at this;exact ⟨this.1,this.2.1⟩
 have yK:aA M (cO o (k+1))=aF M (cO o k) (M p) p:=by rw [cs];rfl
 have step:∀i j,aF M (cO o k) (M p) p*aF M (cO o k) (M i) j-aF M (cO o k) (M i) p*aF M (cO o k) (M p) j=aA M (cO o k)*aF M (cO o (k+1)) (M i) j:=fun i j=>by rw [cs];exact yG hq g p (M i) j
 have bR:∀{i},i<n→k<o.idxOf i→i∉ms→aF M (cO o k) (M i) p=0∧aF M (cO o k) (M p) i=0:=fun{i} hi hk nm=>by
  have nc:i∉cO o k:=fun z=>by have:=((cX ho).mp z).2;lia
  have pc:p∉cO o k:=fun z=>by have:=((cX ho).mp z).2;lia
  have ne:p≠i:=fun z=>by rw [←z] at hk;lia
  have nw:¬Wk (aL n L) (·∈cO o k) p i:=fun z=>nm ((eU i).mpr ⟨hi,by lia,by rw [ip];exact z.mono fun x hx=>(cX ho).mp hx⟩)
  have lc:∀c∈cO o k,c<n:=fun c hc=>((cX ho).mp hc).1;exact ⟨oQ hq zero g lc i p hi hp nc pc (Ne.symm ne) fun z=>nw (z.symm Bj),oQ hq zero g lc p i hp hi pc nc ne nw⟩
 have tp:∀j,k≤o.idxOf j→sT M D o k p j=aF M (cO o k) (M p) j∧sU M D o k p j=D p*aA M (cO o k):=fun j hj=>by
  unfold sT sU;rw [ar ⟨by lia,hj⟩,ar ⟨by lia,hj⟩]
  exact ⟨rfl,rfl⟩
 have tk:∀i j,k≤o.idxOf i→k≤o.idxOf j→sT M D o k i j=aF M (cO o k) (M i) j∧sU M D o k i j=D i*aA M (cO o k):=fun i j hi hj=>by unfold sT sU;rw [ar ⟨hi,hj⟩,ar ⟨hi,hj⟩];exact ⟨rfl,rfl⟩
 have uh:∀i j,k+1≤o.idxOf i→k+1≤o.idxOf j→sT M D o (k+1) i j=aF M (cO o (k+1)) (M i) j∧sU M D o (k+1) i j=D i*aA M (cO o (k+1)):=fun i j hi hj=>by unfold sT sU;rw [ar ⟨hi,hj⟩,ar ⟨hi,hj⟩];exact ⟨rfl,rfl⟩
 have yL:∀i,k<o.idxOf i→sT M D o (k+1) i p=aF M (cO o k) (M i) p*D p∧sU M D o (k+1) i p=D i*aA M (cO o (k+1)):=fun i hi=>by
  unfold sT sU;rw [ao (by lia),ao (by lia),ao (by lia),ao (by lia),ip]
  exact ⟨rfl,rfl⟩
 refine ⟨?_,fun i j _ _=>?_,fun i j _ _=>bd (k+1) i j kn,fun i hi=>?_,fun i hi j hj=>?_,fun i j cE fh h=>?_⟩
 ·rw [(tp p (by lia)).1]
  exact iG
 ·unfold sU
  split
  ·exact dh hq (hD i) (dz _ (by lia))
  ·rename_i h1
   split
   ·exact dh hq (hD i) (dz _ (by lia))
   ·exact dh hq (hD i) (dz _ (by lia))
 ·have h1:=(mlt hi).2
  rw [(tk i p (by lia) (by lia)).1,(tk i p (by lia) (by lia)).2,(tp p (by lia)).1,(tp p (by lia)).2,(yL i h1).1,(yL i h1).2,yK]
  exact Cg.of_eq (by grind)
 ·have h1:=(mlt hi).2
  have h2:=(mlt hj).2;rw [(tk i j (by lia) (by lia)).1,(tk i j (by lia) (by lia)).2,(tp j (by lia)).1,(tp j (by lia)).2,(yL i h1).1,(yL i h1).2,(uh i j (by lia) (by lia)).1,(uh i j (by lia) (by lia)).2]
  have st:=step i j;rw [←yK] at st;generalize aF M (cO o k) (M i) j=x at st ⊢;generalize aF M (cO o k) (M i) p=y at st ⊢;generalize aF M (cO o k) (M p) j=w at st ⊢;generalize aF M (cO o (k+1)) (M i) j=x' at st ⊢;generalize aA M (cO o k)=d at st ⊢;generalize aA M (cO o (k+1))=d' at st ⊢;refine Cg.of_eq ?_;have e:(x*(D i*d'*(D p*d))-y*D p*w*(D i*d))*(D i*d')=D i*D p*d*(d'*x-y*w)*(D i*d'):=by grind
  rw [e,st];grind
 ·by_cases h1:k<o.idxOf i∧k<o.idxOf j
  ·rw [(tk i j (by lia) (by lia)).1,(tk i j (by lia) (by lia)).2,(uh i j (by lia) (by lia)).1,(uh i j (by lia) (by lia)).2]
   have st:=step i j;rw [←yK] at st;have z:aF M (cO o k) (M i) p*aF M (cO o k) (M p) j=0:=by
    rcases h with h | ⟨_,h⟩;·rw [(bR cE h1.1 h).1,gh]
    ·rw [(bR fh h1.2 h).2,gE]
   rw [z,ku] at st;exact Cg.of_eq (by grind)
  ·by_cases h2:k<o.idxOf i∧o.idxOf j=k
   ·have ej:j=p:=pL fun z=>qz ho fh hp z (by lia)
    subst ej;have nm:i∉ms:=by
     rcases h with h | ⟨h,_⟩;·exact h
     ·exact absurd rfl h
    rw [(tk i j (by lia) (by lia)).1,(yL i h2.1).1,(bR cE h2.1 nm).1]
    exact Cg.of_eq (by simp)
   ·have e:sT M D o (k+1) i j=sT M D o k i j∧sU M D o (k+1) i j=sU M D o k i j:=by
     by_cases h3:o.idxOf i=k∧k≤o.idxOf j
     ·have a1:¬(k+1≤o.idxOf i∧k+1≤o.idxOf j):=by lia
      have a2:o.idxOf i≤o.idxOf j:=by lia
      have a3:k≤o.idxOf i∧k≤o.idxOf j:=by lia
      unfold sT sU;rw [ao a1,ar a2,ar a3,ao a1,ar a2,ar a3,h3.1];exact ⟨rfl,rfl⟩
     ·have a1:¬(k+1≤o.idxOf i∧k+1≤o.idxOf j):=by lia
      have a2:¬(k≤o.idxOf i∧k≤o.idxOf j):=by lia
      unfold sT sU;rw [ao a1,ao a2,ao a1,ao a2];exact ⟨rfl,rfl⟩
    rw [e.1,e.2];exact Cg.refl _
end
end My
namespace L2
open PySem PySem.Spec PyProof.Rows
def yM(K:aD)(a:Addr)(n:Nat):It:=
 ⟨fun i H=>i<n∧∃xs,bU K H a xs∧xs.length=n,fun i H x H'=>H'=H∧∀xs,bU K H a xs→xs[n-1-i]?=some x,fun i H=>n≤i⟩
theorem UW{P:Program}{w:World}{K:aD}{tg:Expr}(a it:Addr)(n:Nat):Turn P w K tg (yM K a n) [it] it (fun i h=>i≤n∧h.IsRevIter it a ((n:Int)-1-i)) where
 mem:=by simp
 obj:=fun i h st b hb=>by
  have e:b=it:=by simpa using hb
  subst e;obtain ⟨_,o,e,c,d⟩:=st;exact ⟨o,e,fun v z=>by rw [d] at z;cases z⟩
 keep:=fun i h h' st k=>⟨st.1,by obtain ⟨_,o,e,c,d⟩:=st;exact ⟨o,k it (by simp) o e,c,d⟩⟩
 item:=by
  intro X hP hw hK hc i pins s σ H E I hf st hg;subst hP hw hK;obtain ⟨il,xs,hq,hx⟩:=hg;obtain ⟨aj,rv,p,hz⟩:=I.list hq;have hl:=rv.length;have hi:n-1-i<xs.length:=by lia
  obtain ⟨u,hu,ru⟩:=rv.get (dF hi);obtain ⟨f0,f1,f2,f3,f4,f5⟩:=hf it (by simp)
  have Ff:s.heap.IsRevIter it a ((n-1-i:Nat):Int):=by
   have:=st.2
   rwa [show (n:Int)-1-(i:Int)=((n-1-i:Nat):Int) by lia] at this
  refine wpAny_pyNext_rev_item Ff p.isList (x:=u) (by simpa using hu) fun h' gG sb=>?_
  have I1:Inv X pins σ H {s with heap:=h'}:=I.turned (t':=s.toks) (fun b o hb e=>(sb.2 b hb).trans e) f0 f1 f3 f4 f5;obtain ⟨o,e,c,d⟩:=id gG;have gH:i+1≤n∧h'.IsRevIter it a ((n:Int)-1-((i+1:Nat):Int)):=⟨by lia,by rwa [show (n:Int)-1-((i+1:Nat):Int)=((n-1-i:Nat):Int)-1 by lia]⟩
  exact ⟨u,rfl,t8 (s:={s with heap:=h'}) e c d (by decide) ⟨xs[n-1-i],H,I1,ru,⟨rfl,fun ys hy=>by rw [I.DQ hy hq];exact dF hi⟩,gH,fun b hb=>(hf b hb).1⟩⟩
 done:=by
  intro X hP hw hK hc i pins s σ H E I hf st hg;subst hP hw hK;have hg:n≤i:=hg;obtain ⟨f0,f1,f2,f3,f4,f5⟩:=hf it (by simp)
  have Ff:s.heap.IsRevIter it a (-1):=by
   have:=st.2
   rwa [show (n:Int)-1-(i:Int)=-1 by have:=st.1;lia] at this
  exact wpAny_pyNext_rev_end (I.ok.hd hc) Ff fun h' eb=>⟨rfl,I.turned (t':=s.toks) (fun b o hb e=>eb b o hb e) f0 f1 f3 f4 f5⟩
 self:=fun _ _ _ _ _ st h=>wpAny_pyIter_revIter st.2 h
section
variable {X:Cx} {tg:Expr}
def UX(K:aD)(ta:TA):TI:=fun σ H R=>ta σ H fun vs H1=>∃(l:Addr) (xs:List V),vs=[.ref l]∧bU K H1 l xs∧R (yM K l xs.length) H1
theorem UY{a:Expr}{ta:TA}{p pos:Pos}(hg:Gl X "reversed")(hm:X.mg "reversed"=none)(ha:PA X [a] ta)(hs:starEach [a] X.env=[(false,eval a X.env)]:=by rfl):PI X tg (.Call (.Name "reversed" p) [a] [] pos) (UX X.K ta):=by
 intro pins s σ H R I h;refine Call_ (n8 I hg hm boot_reversed (tS (aS (ha pos pins s σ H _ I h) fun us s1 ⟨vs,H1,I1,r1,q1⟩=>?_) hs rfl));obtain ⟨l,xs,e,hq,q⟩:=q1;subst e;cases r1 with
 | cons r rr=>
  cases rr;cases r;obtain ⟨aj,rv,pl,hz⟩:=I1.list hq;have hl:=rv.length;refine call_reversed_list pl.isList ?_;refine wpAny_pyIter_revIter (i:=(aj.toArray.size:Int)-1) ⟨_,fm _ rfl,rfl,rfl⟩ ?_;refine ⟨s1.heap.objs.size,[s1.heap.objs.size],_,_,H1,rfl,I1.kept (t':=s1.toks) fun b o e=>cL _ e,UW l _ xs.length,⟨ck _,_,fm _ rfl,rfl,?_⟩,fun b hb=>?_,q⟩
  ·rw [hl,cY,show ((aj.length:Int)-1-((0:Nat):Int))=(aj.length:Int)-1 by lia]
   rfl
  ·have e:b=s1.heap.objs.size:=by simpa using hb
   subst e;exact I1.p9 (aK _) (I1.aG.fresh (aK _))
theorem UZ{K:aD}{a:Addr}{xs:List V}{g:TG}{tb:TS}{D:Ends}{σ:St}{H:Hp}(Pv:Nat→St→Hp→Prop)(h0:Pv 0 σ H)(hl:∀i σ H,i≤xs.length→Pv i σ H→bU K H a xs)
  (hs:∀i x σ H,i<xs.length→xs[xs.length-1-i]?=some x→Pv i σ H→g x σ H fun σ2 H2=>tb {D with nx:=Pv (i+1),ct:=Pv (i+1),bk:=D.nx} σ2 H2) (hd:∀σ H,Pv xs.length σ H→D.nx σ H) :
  ∃W:Nat→Nat→St→Hp→Prop,(∃m,W 0 m σ H)∧∀i m σ H,W i m σ H→
   ((yM K a xs.length).stop i H∧D.nx σ H)∨((yM K a xs.length).go i H∧∃N:St→Hp→Prop,(∀σ' H',N σ' H'→∃m',m'<m∧W (i+1) m' σ' H')∧∀x H',(yM K a xs.length).gk i H x H'→g x σ H' fun σ2 H2=>tb {D with nx:=N,ct:=N,bk:=D.nx} σ2 H2):=by
 refine ⟨fun i m σ H=>m=xs.length-i∧i≤xs.length∧Pv i σ H,⟨xs.length,by simp,ck _,h0⟩,?_⟩
 rintro i m σ H ⟨rfl,hi,p⟩;have q1:=hl i σ H hi p;by_cases cu:i<xs.length
 ·refine .inr ⟨⟨cu,xs,q1,rfl⟩,Pv (i+1),fun σ' H' p'=>⟨xs.length-(i+1),by lia,rfl,cu,p'⟩,fun v H' hy=>?_⟩
  obtain ⟨rfl,hy⟩:=hy;exact hs i v σ H' cu (hy xs q1) p
 ·have e:i=xs.length:=by lia
  subst e;exact .inl ⟨aK _,hd σ H p⟩
end
end L2
namespace My
open PySem L2
structure Br (q:Int) (n X:Nat) (ah:dP) (o:List Nat) (M:aO) (D:Nat→Int):Prop where
 kN:∀i j,i<n→j<n→q∣(atT ah i j).1*D i-M i j*(atT ah i j).2
 dn:∀i,¬q∣D i
 zero:∀i j,i<n→j<n→(atT ah i j).1=0→M i j=0
 bd:∀k i j,k≤n→(sT M D o k i j).natAbs≤X∧(sU M D o k i j).natAbs≤X
 X1:1000≤X
 dB:X≤10 ^ 100
structure Fg (H0 H:Hp) (q:Int) (n X:Nat) (L:cb) (o:List Nat) (M:aO) (D:Nat→Int) (k:Nat) (wk ot:Addr) (rs:Nat→Addr) (vf:Nat→Nat→V) (ls:Nat→Addr) (g:Nat→List Nat):Prop where
 tab:WTab H wk n rs vf
 new:H0 wk=none∧∀i,i<n→H0 (rs i)=none
 kN:fe X H q n vf (sT M D o k) (sU M D o k)
 eU:oP H ot n ls g
 ok:∀p,p<n→fb n o p (g p)∧eM n L o p (g p)
 sep:(∀i,i<n→ot≠rs i∧∀j,j<n→ls j≠rs i)
def U1(C N:Addr):Sp:=fun vs H Q _=>∃(z a d:Addr) (q:Int) (B X n:Nat) (ah:dP) (o:List Nat) (M:aO) (D:Nat→Int),vs=[.ref z,.ref a,.ref d]∧eK C H z q∧a9 q∧jD B H q a ah∧B≤10 ^ 100∧ah.length=n∧1≤n∧n≤40∧(∀ps∈ah,ps.length=n)∧H d=some (.lst (bg o))∧o.Perm (List.range n)∧Br q n X ah o M D ∧
 (∀(k:Nat) (hk:k<o.length),cf q M (cO o k)→q∣aF M (cO o k) (M o[k]) o[k]→∀(tp wk ot:Addr) (H':Hp) (rs ls:Nat→Addr) (vf:Nat→Nat→V) (g:Nat→List Nat),af H H'→H' tp=some (.tup [.ref wk,.ref ot,.int ((k:Int)+1)])→Fg H H' q n X (dr n (b5 ah) n) o M D k wk ot rs vf ls g→Q (.ref tp) H') ∧
 (cf q M (cO o n)→∀(tp wk ot:Addr) (H':Hp) (rs ls:Nat→Addr) (vf:Nat→Nat→V) (g:Nat→List Nat),af H H'→H' tp=some (.tup [.ref wk,.ref ot,.aU])→Fg H H' q n X (dr n (b5 ah) n) o M D n wk ot rs vf ls g→Q (.ref tp) H')
section
variable {H:Hp} {q:Int} {a:Addr} {B n:Nat} {ah:dP}
theorem U2(h:jD B H q a ah)(l:ah.length=n)(w:∀ps∈ah,ps.length=n):∃(ra:Nat→Addr) (vf:Nat→Nat→V),H a=some (.lst ((List.range n).map fun i=>V.ref (ra i)))∧(∀i,i<n→H (ra i)=some (.lst ((List.range n).map (vf i))))∧∀i j,i<n→j<n→a_ B H q (vf i j) (atT ah i j).1 (atT ah i j).2:=by
 obtain ⟨vs,ea,lv,f⟩:=h;have row:∀i,i<n→∃(r:Addr) (us:List V),vs[i]?=some (.ref r)∧H r=some (.lst us)∧us.length=n∧∀j,j<n→a_ B H q (us.getD j .aU) (atT ah i j).1 (atT ah i j).2:=fun i hi=>by
  have hv:i<vs.length:=by lia
  have hp:i<ah.length:=by lia
  obtain ⟨r,er,us,eu,lu,fu⟩:=f i vs[i] ah[i] (dF hv) (dF hp);have lw:=w _ (dN hp);refine ⟨r,us,by rw [dF hv,er],eu,by lia,fun j hj=>?_⟩
  have hu:j<us.length:=by lia
  have hr:j<(ah[i]).length:=by lia
  have:=fu j us[j] ah[i][j] (dF hu) (dF hr);unfold atT;rw [getD_at hp,getD_at hr,getD_at hu];exact this
 refine ⟨fun i=>if h:i<n then (row i h).choose else 0,fun i j=>if h:i<n then (row i h).choose_spec.choose.getD j .aU else .aU,?_,fun i hi=>?_,fun i j hi hj=>?_⟩
 ·rw [ea]
  congr 2
  refine gQ (by simp;lia) fun i h1 h2=>?_
  have hi:i<n:=by simpa using h2
  have e:some vs[i]=some (V.ref (row i hi).choose):=(dF h1).symm.trans (row i hi).choose_spec.choose_spec.1;rw [Option.some.inj e];simp [hi]
 ·simp only [k_ hi]
  have e:=(row i hi).choose_spec.choose_spec;refine e.2.1.trans ?_
  congr 2
  refine gQ (by rw [aR,cC];exact e.2.2.1) fun j h1 h2=>?_
  rw [gF,jh,getD_at h1]
 ·simp only [k_ hi]
  exact (row i hi).choose_spec.choose_spec.2.2.2 j hj
theorem Bs{X:Nat}{v:V}{x m t u:Int}(h:a_ B H q v x m)(d:q∣x*u-t*m)(nu:¬q∣u)(bt:t.natAbs≤X)(bu:u.natAbs≤X):aJ X H q v t u:=aJ.bd (B:=B) ⟨x,m,h,d,nu⟩ bt bu
end
variable {n:Nat}
theorem U3{f:Nat→Nat→Bool}:∀z∈dr n f n,0≤z.1∧z.1<z.2∧z.2<(n:Int):=fun z hz=>by obtain ⟨i,j,_,h2,h3,h4,rfl⟩:=mem_of hz;dsimp only;lia
variable {ah:dP} {a b:Nat}
theorem Lo(ha:a<n)(hb:b<n)(ab:a≠b)(h:¬aL n (dr n (b5 ah) n) a b):(atT ah a b).1=0:=pL fun z=>h ⟨ha,hb,by
 have t1:jE ah a b=true:=by unfold jE;unfold atT at z;simpa using z
 rcases Nat.lt_or_gt_of_ne ab with l | l;·exact .inl (Bg l hb (by unfold b5;rw [t1];rfl) (by lia))
 ·exact .inr (Bg l ha (by unfold b5;rw [t1,Bool.or_true]) (by lia))⟩
variable {B:Nat} {H:Hp} {q x m:Int} {v:V}
theorem Fh{B':Nat}{x' m':Int}(h:a_ B H q v x m)(g:a_ B' H q v x' m'):x=x'∧m=m':=by
 cases h with
 | ba e l=>
  cases g with
  | ba e' l'=>rw [e] at e';cases e';exact ⟨rfl,rfl⟩
 | rem=>cases g;exact ⟨rfl,rfl⟩
def sL(M:aO)(o:List Nat)(n k i:Nat):Int:=aF M (cO o (min k (o.idxOf i))) (M i) n
def sW(M:aO)(D:Nat→Int)(o:List Nat)(k i:Nat):Int:=D i*aA M (cO o (min k (o.idxOf i)))
def dC(H:Hp)(e:Addr)(n:Nat)(av:Nat→V):Prop:=H e=some (.lst ((List.range n).map av))
def U4(C:Addr):Sp:=fun vs H Q _=>∃(z wk ot d e:Addr) (q:Int) (X n:Nat) (L:cb) (o:List Nat) (M:aO) (D:Nat→Int) (rs ls:Nat→Addr) (vf:Nat→Nat→V) (g:Nat→List Nat) (av:Nat→V),vs=[.ref z,.ref wk,.ref ot,.ref d,.ref e]∧eK C H z q∧a9 q∧1≤n∧n≤40∧WTab H wk n rs vf∧fe X H q n vf (sT M D o n) (sU M D o n)∧oP H ot n ls g∧(∀p,p<n→fb n o p (g p)∧eM n L o p (g p))∧H d=some (.lst (bg o))∧o.Perm (List.range n)∧dC H e n av∧(∀i,i<n→aJ X H q (av i) (M i n) (D i)) ∧
 cf q M (cO o n)∧(∀i,¬q∣D i)∧(∀a b,a<n→b<n→a≠b→¬aL n L a b→M a b=0)∧1000≤X∧X≤10 ^ 100∧(∀k i j,k≤n→(sT M D o k i j).natAbs≤X∧(sU M D o k i j).natAbs≤X)∧(∀k i,k≤n→(sL M o n k i).natAbs≤X∧(sW M D o k i).natAbs≤X) ∧
 ∀(r:Addr) (lv:Nat→V) (H':Hp),af H H'→H r=none→dC H' r n lv→(∀i,i<n→aJ X H' q (lv i) (sL M o n n i) (sW M D o n i))→Q (.ref r) H'
variable {L:cb}
theorem U5{M:aO}{D:Nat→Int}{o:List Nat}{k p:Nat}{ms:List Nat}(hq:a9 q)(ho:o.Perm (List.range n))(hp:p<n)(ip:o.idxOf p=k)(gn:cf q M (cO o n))
  (zero:∀a b,a<n→b<n→a≠b→¬aL n L a b→M a b=0) (eU:eM n L o p ms) :
  (∀i∈ms,Cg q ((sL M o n k i*(sU M D o n i p*sW M D o k p)-sT M D o n i p*sL M o n k p*sW M D o k i)*sW M D o (k+1) i) (sL M o n (k+1) i*(sW M D o k i*(sU M D o n i p*sW M D o k p)))) ∧
  ∀i,i<n→i∉ms→Cg q (sL M o n k i*sW M D o (k+1) i) (sL M o n (k+1) i*sW M D o k i):=by
 have lo:=fM ho;have kl:k<o.length:=by rw [←ip];exact (fD ((cJ ho).mpr hp)).1
 have pk:o[k]=p:=by have:=(fD ((cJ ho).mpr hp)).2;simp only [ip] at this;exact this
 have cs:cO o (k+1)=p::cO o k:=by rw [kM kl,pk]
 have g:=lU gn (show k≤n by lia)
 have yK:aA M (cO o (k+1))=aF M (cO o k) (M p) p:=by rw [cs];rfl
 have step:∀i j,aA M (cO o (k+1))*aF M (cO o k) (M i) j-aF M (cO o k) (M i) p*aF M (cO o k) (M p) j=aA M (cO o k)*aF M (cO o (k+1)) (M i) j:=fun i j=>by rw [yK,cs];exact yG hq g p (M i) j
 have lp:sL M o n k p=aF M (cO o k) (M p) n∧sW M D o k p=D p*aA M (cO o k):=by unfold sL sW;rw [ip,Nat.min_self];exact ⟨rfl,rfl⟩
 have lk:∀i,k<o.idxOf i→sL M o n k i=aF M (cO o k) (M i) n∧sW M D o k i=D i*aA M (cO o k)∧sL M o n (k+1) i=aF M (cO o (k+1)) (M i) n∧sW M D o (k+1) i=D i*aA M (cO o (k+1)):=fun i h=>by
  unfold sL sW;rw [Ae (by lia),Ae (by lia)]
  exact ⟨rfl,rfl,rfl,rfl⟩
 have tl:∀i,i<n→k<o.idxOf i→sT M D o n i p=aF M (cO o k) (M i) p*D p∧sU M D o n i p=D i*aA M (cO o (k+1)):=fun i hi h=>by
  have h1:¬(n≤o.idxOf i∧n≤o.idxOf p):=by lia
  have h2:¬o.idxOf i≤o.idxOf p:=by lia
  unfold sT sU;rw [ao h1,ao h2,ao h1,ao h2,ip];exact ⟨rfl,rfl⟩
 refine ⟨fun i hi=>?_,fun i hi nm=>?_⟩
 ·have hl:=(eU i).mp hi
  rw [ip] at hl;obtain ⟨a1,a2,a3,a4⟩:=lk i hl.2.1;rw [a1,a2,a3,a4,(tl i hl.1 hl.2.1).1,(tl i hl.1 hl.2.1).2,lp.1,lp.2];have st:=step i n;generalize aF M (cO o k) (M i) n=x at st ⊢;generalize aF M (cO o k) (M i) p=y at st ⊢;generalize aF M (cO o k) (M p) n=w at st ⊢;generalize aF M (cO o (k+1)) (M i) n=x' at st ⊢;generalize aA M (cO o k)=d at st ⊢;generalize aA M (cO o (k+1))=d' at st ⊢;refine Cg.of_eq ?_;have e:(x*(D i*d'*(D p*d))-y*D p*w*(D i*d))*(D i*d')=D i*D p*d*(d'*x-y*w)*(D i*d'):=by grind
  rw [e,st];grind
 ·by_cases h:k<o.idxOf i
  ·obtain ⟨a1,a2,a3,a4⟩:=lk i h
   rw [a1,a2,a3,a4];have nc:i∉cO o k:=fun z=>by have:=((cX ho).mp z).2;lia
   have pc:p∉cO o k:=fun z=>by have:=((cX ho).mp z).2;lia
   have ne:i≠p:=fun z=>by rw [z] at h;lia
   have z:aF M (cO o k) (M i) p=0:=oQ hq zero g (fun c hc=>((cX ho).mp hc).1) i p hi hp nc pc ne fun w=>nm ((eU i).mpr ⟨hi,by lia,by rw [ip];exact (w.symm Bj).mono fun x hx=>(cX ho).mp hx⟩)
   have st:=step i n;rw [z,gh,ku] at st;exact Cg.of_eq (by grind)
  ·have e:sL M o n (k+1) i=sL M o n k i∧sW M D o (k+1) i=sW M D o k i:=by
    unfold sL sW;rw [Nat.min_eq_right (by lia),Nat.min_eq_right (by lia)]
    exact ⟨rfl,rfl⟩
   rw [e.1,e.2];exact Cg.refl _
structure Fi (q:Int) (X n:Nat) (T U:aO) (g:Nat→List Nat) (ps:List Nat) (A B x y:Nat→Int) (S R:aO):Prop where
 s0:∀p∈ps,Cg q (A p*R p 0) (S p 0*B p)
 Fj:∀p∈ps,∀l j,(g p)[l]?=some j→Cg q ((S p l*(U p j*y j)-T p j*x j*R p l)*R p (l+1)) (S p (l+1)*(R p l*(U p j*y j)))
 fin:∀p∈ps,Cg q (S p (g p).length*U p p*y p) (x p*(R p (g p).length*T p p))
 Fl:∀p∈ps,∀l,¬q∣R p l
 Fm:∀p,¬q∣y p
 iG:∀p∈ps,¬q∣T p p
 bd:(∀p∈ps,∀l,l≤(g p).length→(S p l).natAbs≤X∧(R p l).natAbs≤X)∧∀p,(x p).natAbs≤X∧(y p).natAbs≤X
 yH:∀p,p<n→p∉ps→A p=x p∧B p=y p
def U6(C:Addr):Sp:=fun vs H Q _=>∃(z wk ot d e:Addr) (q:Int) (X n:Nat) (ps:List Nat) (T U:aO) (rs ls:Nat→Addr) (vf:Nat→Nat→V) (g:Nat→List Nat) (av:Nat→V) (A B x y:Nat→Int) (S R:aO),vs=[.ref z,.ref wk,.ref ot,.ref d,.ref e]∧eK C H z q∧a9 q∧n≤40∧WTab H wk n rs vf∧fe X H q n vf T U∧(∀i j,i<n→j<n→(T i j).natAbs≤X∧(U i j).natAbs≤X)∧oP H ot n ls g∧H d=some (.lst (bg ps))∧ps.Nodup∧(∀p∈ps,p<n∧(∀j∈g p,j<n∧j≠p))∧(∀k p,ps[k]?=some p→∀j∈g p,j∉ps.take (k+1))∧dC H e n av∧(∀i,i<n→aJ X H q (av i) (A i) (B i))∧1000≤X∧X≤10 ^ 100∧Fi q X n T U g ps A B x y S R ∧
 ∀(r:Addr) (lv:Nat→V) (H':Hp),af H H'→H r=none→dC H' r n lv→(∀i,i<n→aJ X H' q (lv i) (x i) (y i))→Q (.ref r) H'
theorem Bt{l l':List Int}(p:l.Perm l'):l.sum=l'.sum:=by
 induction p with
 | nil=>rfl
 | cons x _ ih=>rw [cM,cM,ih]
 | swap x y l=>rw [cM,cM,cM,cM];lia
 | trans _ _ a b=>exact a.trans b
theorem qD{F:Nat→Int}{p:Nat}:∀{C l:List Nat},C.Nodup→l.Nodup→(∀c∈l,c∈C)→(∀c∈C,c∉l→F c=0)→(C.map F).sum=(l.map F).sum
 | [],l,_,_,sub,_=>by
  cases l with
  | nil=>rfl
  | cons x r=>exact absurd (sub x (fQ ..)) (by simp)
 | c::C,l,nd,nl,sub,z=>by
  rw [iO] at nd;by_cases h:c∈l
  ·have pm:=List.perm_cons_erase h
   have e:(l.map F).sum=F c+((l.erase c).map F).sum:=by rw [Bt (pm.map F),cy,cM]
   rw [cy,cM,e,qD (p:=p) (l:=l.erase c) nd.2 (nl.erase c) (fun x hx=>?_) fun x hx nx=>?_]
   ·have:=sub x (List.mem_of_mem_erase hx)
    rcases cx.mp this with rfl | h2;·exact absurd hx (List.Nodup.not_mem_erase nl)
    ·exact h2
   ·refine z x (fj _ hx) fun hl=>nx ?_
    exact (List.mem_erase_of_ne (fun e:x=c=>nd.1 (e▸hx))).mpr hl
  ·rw [cy,cM,z c (fQ ..) h,hZ]
   exact qD (p:=p) nd.2 nl (fun x hx=>(cx.mp (sub x hx)).resolve_left fun e=>h (e▸hx)) fun x hx nx=>z x (fj _ hx) nx
section
variable {q:Int} {M:aO} {D:Nat→Int} {o:List Nat} {n:Nat} {L:cb} {g:Nat→List Nat}
def rS(M:aO)(o:List Nat)(g:Nat→List Nat)(C:List Nat)(m:Nat)(a:Nat→Int)(p l:Nat):Int:=aF M (cO o (o.idxOf p)) (M p) m*a p-(((g p).take l).map fun j=>aF M (cO o (o.idxOf p)) (M p) j*cQ M C m j).sum
theorem U7(hq:a9 q)(ho:o.Perm (List.range n))(gd:cf q M (cO o n))(zero:∀a b,a<n→b<n→a≠b→¬aL n L a b→M a b=0){p:Nat}(hp:p<n)(dw:fb n o p (g p)∧eM n L o p (g p)){m:Nat}(hm:m∉cO o n) :
  aF M (cO o (o.idxOf p)) (M p) p*cQ M (cO o n) m p+((g p).map fun j=>aF M (cO o (o.idxOf p)) (M p) j*cQ M (cO o n) m j).sum=aA M (cO o n)*aF M (cO o (o.idxOf p)) (M p) m:=by
 have lo:=fM ho;have kl:=(fD ((cJ ho).mpr hp)).1;have nd:(cO o n).Nodup:=by
  unfold cO;rw [nV (by lia)]
  exact (xP _).nodup_iff.mpr (e_ ho)
 have mem:∀c,c∈cO o n↔c<n:=fun c=>by rw [cX ho];exact ⟨fun h=>h.1,fun h=>⟨h,by have:=(fD ((cJ ho).mpr h)).1;lia⟩⟩
 have sub:∀r∈cO o (o.idxOf p),r∈cO o n:=fun r hr=>(mem r).mpr ((cX ho).mp hr).1;have Fn:(g p).Nodup:=dw.1.up.imp (fun h=>dE h);have pg:p∉g p:=fun zz=>by have:=dw.1.la p zz;lia
 rw [←Ld hq gd nd hm sub ((mem p).mpr hp),qD (p:=p) (l:=p::g p) nd (iO.mpr ⟨pg,Fn⟩) (fun c hc=>?_) fun c hc nc=>?_,cy,cM]
 ·rcases cx.mp hc with rfl | hc
  ·exact (mem _).mpr hp
  ·exact (mem _).mpr (dw.1.lt c hc)
 ·rw [cx,not_or] at nc
  have cn:=(mem c).mp hc;by_cases h:c∈cO o (o.idxOf p);·rw [Bm h,gh]
  ·have ci:o.idxOf p<o.idxOf c:=by have h1:¬o.idxOf c<o.idxOf p:=fun z=>h ((cX ho).mpr ⟨cn,z⟩);have h2:=qz ho cn hp nc.1;lia
   have pc:p∉cO o (o.idxOf p):=fun z=>by have:=((cX ho).mp z).2;lia
   rw [oQ hq zero (lU gd (by lia)) (fun c hc=>((cX ho).mp hc).1) p c hp cn pc h (Ne.symm nc.1) fun w=>nc.2 ((dw.2 c).mpr ⟨cn,ci,w.mono fun x hx=>(cX ho).mp hx⟩),gh]
theorem U8{X:Nat}(hq:a9 q)(ho:o.Perm (List.range n))(gd:cf q M (cO o n))(hD:∀i,¬q∣D i)(zero:∀a b,a<n→b<n→a≠b→¬aL n L a b→M a b=0)(dw:∀p,p<n→fb n o p (g p)∧eM n L o p (g p))
  (b1:∀p l,p<n→l≤(g p).length→(rS M o g (cO o n) n (fun _=>aA M (cO o n)) p l).natAbs≤X∧(D p*aA M (cO o (o.idxOf p))*aA M (cO o n)).natAbs≤X) (b2:∀p,(cQ M (cO o n) n p).natAbs≤X∧(aA M (cO o n)).natAbs≤X) :
  Fi q X n (sT M D o n) (sU M D o n) g o (sL M o n n) (sW M D o n) (cQ M (cO o n) n) (fun _=>aA M (cO o n)) (rS M o g (cO o n) n fun _=>aA M (cO o n)) (fun p _=>D p*aA M (cO o (o.idxOf p))*aA M (cO o n)):=by
 have lo:=fM ho;have lt:∀{p},p∈o→p<n∧o.idxOf p<n:=fun{p} hp=>⟨(cJ ho).mp hp,by have:=(fD hp).1;lia⟩
 have up:∀{p},p∈o→∀j,o.idxOf p≤o.idxOf j→sT M D o n p j=aF M (cO o (o.idxOf p)) (M p) j∧sU M D o n p j=D p*aA M (cO o (o.idxOf p)):=fun{p} hp j h=>by
  have h1:¬(n≤o.idxOf p∧n≤o.idxOf j):=by have:=(lt hp).2;lia
  unfold sT sU;rw [ao h1,ar h,ao h1,ar h];exact ⟨rfl,rfl⟩
 have dz:∀j,j≤n→¬q∣aA M (cO o j):=fun j hj=>iY hq (lU gd hj);have lw:∀{p},p∈o→sL M o n n p=aF M (cO o (o.idxOf p)) (M p) n∧sW M D o n p=D p*aA M (cO o (o.idxOf p)):=fun{p} hp=>by
  have:=(lt hp).2;unfold sL sW;rw [Nat.min_eq_right (by lia)]
  exact ⟨rfl,rfl⟩
 have U9:n∉cO o n:=fun z=>by have:=((cX ho).mp z).1;lia
 refine ⟨fun p hp=>?_,fun p hp l j hj=>?_,fun p hp=>?_,fun p hp l=>?_,fun p=>dz n (aK _),fun p hp=>?_,⟨fun p hp l hl=>b1 p l (lt hp).1 hl,b2⟩,fun p hp h=>absurd ((cJ ho).mpr hp) h⟩
 ·rw [(lw hp).1,(lw hp).2]
  refine Cg.of_eq ?_;unfold rS;simp;grind
 ·have jm:=hU hj
  have jl:=(dw p (lt hp).1).1.la j jm;rw [(up hp j (by lia)).1,(up hp j (by lia)).2]
  unfold rS;rw [take_snoc hj,jf,z_,Af,List.sum_singleton];exact Cg.of_eq (by grind)
 ·rw [(up hp p (aK _)).1,(up hp p (aK _)).2]
  have U_:=U7 hq ho gd zero (lt hp).1 (dw p (lt hp).1) U9;unfold rS;rw [je];exact Cg.of_eq (by grind)
 ·exact dh hq (dh hq (hD p) (dz _ (by have:=(lt hp).2;lia))) (dz n (aK _))
 ·rw [(up hp p (aK _)).1]
  have:=dz (o.idxOf p+1) (by have:=(lt hp).2;lia)
  have kl:=(fD hp).1
  rwa [kM kl,(fD hp).2] at this
end
section
variable {q:Int} {M:aO} {D:Nat→Int} {o:List Nat} {n:Nat} {L:cb} {g:Nat→List Nat}
def cF(M:aO)(o:List Nat)(k t c:Nat):Int:=if c=t then aA M (cO o k) else if o.idxOf c<k then -cQ M (cO o k) t c else 0
def mS(M:aO)(o:List Nat)(g:Nat→List Nat)(k t p l:Nat):Int:=-(((g p).take l).map fun j=>aF M (cO o (o.idxOf p)) (M p) j*cF M o k t j).sum
variable {k t:Nat}
theorem Va(hq:a9 q)(ho:o.Perm (List.range n))(ht:t<n)(it:o.idxOf t=k)(gd:cf q M (cO o k))(zero:∀a b,a<n→b<n→a≠b→¬aL n L a b→M a b=0){p:Nat}(hp:p<n)(pk:o.idxOf p<k)(dw:fb n o p (g p)∧eM n L o p (g p)) :
  aF M (cO o (o.idxOf p)) (M p) p*cF M o k t p+((g p).map fun j=>aF M (cO o (o.idxOf p)) (M p) j*cF M o k t j).sum=0:=by
 have lo:=fM ho;have all:∀c,c∈List.range n↔c<n:=fun c=>eW;have Lp:(cO o k).Nodup:=by unfold cO;exact (xP _).nodup_iff.mpr ((pE k o).nodup (e_ ho))
 have tC:t∉cO o k:=fun z=>by have:=((cX ho).mp z).2;lia
 have Fn:(g p).Nodup:=dw.1.up.imp (fun h=>dE h);have pg:p∉g p:=fun zz=>by have:=dw.1.la p zz;lia
 have e1:((List.range n).map fun c=>aF M (cO o (o.idxOf p)) (M p) c*cF M o k t c).sum=((p::g p).map fun c=>aF M (cO o (o.idxOf p)) (M p) c*cF M o k t c).sum:=qD (p:=p) pM (iO.mpr ⟨pg,Fn⟩) (fun c hc=>(all c).mpr (by
   rcases cx.mp hc with rfl | hc;·exact hp
   ·exact dw.1.lt c hc)) fun c hc nc=>by
  rw [cx,not_or] at nc;have cn:=(all c).mp hc;by_cases h:c∈cO o (o.idxOf p);·rw [Bm h,gh]
  ·have ci:o.idxOf p<o.idxOf c:=by have h1:¬o.idxOf c<o.idxOf p:=fun z=>h ((cX ho).mpr ⟨cn,z⟩);have h2:=qz ho cn hp nc.1;lia
   have pc:p∉cO o (o.idxOf p):=fun z=>by have:=((cX ho).mp z).2;lia
   rw [oQ hq zero (lU gd (by lia)) (fun c hc=>((cX ho).mp hc).1) p c hp cn pc h (Ne.symm nc.1) fun w=>nc.2 ((dw.2 c).mpr ⟨cn,ci,w.mono fun x hx=>(cX ho).mp hx⟩),gh]
 have e2:((List.range n).map fun c=>aF M (cO o (o.idxOf p)) (M p) c*cF M o k t c).sum=((t::cO o k).map fun c=>aF M (cO o (o.idxOf p)) (M p) c*cF M o k t c).sum:=qD (p:=p) pM (iO.mpr ⟨tC,Lp⟩) (fun c hc=>(all c).mpr (by
   rcases cx.mp hc with rfl | hc;·exact ht
   ·exact ((cX ho).mp hc).1)) fun c hc nc=>by
  rw [cx,not_or] at nc;have cn:=(all c).mp hc;have:¬o.idxOf c<k:=fun z=>nc.2 ((cX ho).mpr ⟨cn,z⟩);unfold cF;rw [ao nc.1,ao this,gE]
 rw [←cM,←cy (f:=fun j=>aF M (cO o (o.idxOf p)) (M p) j*cF M o k t j),←e1,e2,cy,cM];have e3:((cO o k).map fun c=>aF M (cO o (o.idxOf p)) (M p) c*cF M o k t c).sum=-((cO o k).map fun c=>aF M (cO o (o.idxOf p)) (M p) c*cQ M (cO o k) t c).sum:=by
  have:((cO o k).map fun c=>aF M (cO o (o.idxOf p)) (M p) c*cF M o k t c)=(cO o k).map fun c=>-1*(aF M (cO o (o.idxOf p)) (M p) c*cQ M (cO o k) t c):=h_ fun c hc=>by have h1:c≠t:=fun z=>tC (z▸hc);unfold cF;rw [ao h1,ar ((cX ho).mp hc).2];grind
  rw [this,mX];lia
 rw [e3,Ld hq gd Lp tC (fun r hr=>(cX ho).mpr ⟨((cX ho).mp hr).1,by have:=((cX ho).mp hr).2;lia⟩) ((cX ho).mpr ⟨hp,pk⟩)]
 unfold cF;rw [ar rfl];grind
theorem Vb{X:Nat}(hq:a9 q)(ho:o.Perm (List.range n))(ht:t<n)(it:o.idxOf t=k)(gd:cf q M (cO o k))(hD:∀i,¬q∣D i)(zero:∀a b,a<n→b<n→a≠b→¬aL n L a b→M a b=0)(dw:∀p,p<n→fb n o p (g p)∧eM n L o p (g p))
  (b1:∀p l,p<n→l≤(g p).length→(mS M o g k t p l).natAbs≤X∧(D p*aA M (cO o (o.idxOf p))*aA M (cO o k)).natAbs≤X) (b2:∀p,(cF M o k t p).natAbs≤X∧(aA M (cO o k)).natAbs≤X) :
  Fi q X n (sT M D o k) (sU M D o k) g (o.take k) (fun i=>if i=t then aA M (cO o k) else 0) (fun _=>aA M (cO o k)) (cF M o k t) (fun _=>aA M (cO o k)) (mS M o g k t) (fun p _=>D p*aA M (cO o (o.idxOf p))*aA M (cO o k)):=by
 have lo:=fM ho;have lt:∀{p},p∈o.take k→p<n∧o.idxOf p<k:=fun{p} hp=>(oR ho).mp hp;have up:∀{p},p∈o.take k→∀j,o.idxOf p≤o.idxOf j→sT M D o k p j=aF M (cO o (o.idxOf p)) (M p) j∧sU M D o k p j=D p*aA M (cO o (o.idxOf p)):=fun{p} hp j h=>by
  have h1:¬(k≤o.idxOf p∧k≤o.idxOf j):=by have:=(lt hp).2;lia
  unfold sT sU;rw [ao h1,ar h,ao h1,ar h];exact ⟨rfl,rfl⟩
 have dz:∀j,j≤k→¬q∣aA M (cO o j):=fun j hj=>iY hq (lU gd hj);refine ⟨fun p hp=>?_,fun p hp l j hj=>?_,fun p hp=>?_,fun p hp l=>?_,fun p=>dz k (aK _),fun p hp=>?_,⟨fun p hp l hl=>b1 p l (lt hp).1 hl,b2⟩,fun p hp h=>⟨?_,rfl⟩⟩
 ·have:p≠t:=fun z=>by have:=(lt hp).2;rw [z] at this;lia
  unfold mS;simp [this];exact Cg.refl _
 ·have jm:=hU hj
  have jl:=(dw p (lt hp).1).1.la j jm;rw [(up hp j (by lia)).1,(up hp j (by lia)).2]
  unfold mS;rw [take_snoc hj,jf,z_,Af,List.sum_singleton];exact Cg.of_eq (by grind)
 ·rw [(up hp p (aK _)).1,(up hp p (aK _)).2]
  have U_:=Va (M:=M) hq ho ht it gd zero (lt hp).1 (lt hp).2 (dw p (lt hp).1);unfold mS;rw [je];exact Cg.of_eq (by grind)
 ·exact dh hq (dh hq (hD p) (dz _ (by have:=(lt hp).2;lia))) (dz k (aK _))
 ·rw [(up hp p (aK _)).1]
  have:=dz (o.idxOf p+1) (by have:=(lt hp).2;lia)
  have pm:p∈o:=xQ hp;have kl:=(fD pm).1
  rwa [kM kl,(fD pm).2] at this
 ·have:¬o.idxOf p<k:=fun z=>h ((oR ho).mpr ⟨hp,z⟩)
  unfold cF;by_cases e:p=t;·rw [ar e,ar e]
  ·rw [ao e,ao e,ao this]
end
def Vc(C:Addr):Sp:=fun vs H Q _=>∃(z wk ot d:Addr) (q:Int) (X n k t:Nat) (L:cb) (o:List Nat) (M:aO) (D:Nat→Int) (rs ls:Nat→Addr) (vf:Nat→Nat→V) (g:Nat→List Nat),vs=[.ref z,.ref wk,.ref ot,.ref d,.int ((k:Int)+1)]∧eK C H z q∧a9 q∧n≤40∧WTab H wk n rs vf∧fe X H q n vf (sT M D o k) (sU M D o k)∧oP H ot n ls g∧(∀p,p<n→fb n o p (g p)∧eM n L o p (g p))∧H d=some (.lst (bg o))∧o.Perm (List.range n)∧t<n∧o.idxOf t=k∧cf q M (cO o k)∧(∀i,¬q∣D i)∧(∀a b,a<n→b<n→a≠b→¬aL n L a b→M a b=0)∧1000≤X∧X≤10 ^ 100∧(∀k i j,k≤n→(sT M D o k i j).natAbs≤X∧(sU M D o k i j).natAbs≤X) ∧
 (∀p l,p<n→l≤(g p).length→(mS M o g k t p l).natAbs≤X∧(D p*aA M (cO o (o.idxOf p))*aA M (cO o k)).natAbs≤X)∧(∀p,(cF M o k t p).natAbs≤X∧(aA M (cO o k)).natAbs≤X) ∧
 ∀(r:Addr) (lv:Nat→V) (H':Hp),af H H'→H r=none→dC H' r n lv→(∀i,i<n→aJ X H' q (lv i) (cF M o k t i) (aA M (cO o k)))→Q (.ref r) H'
structure Lq (q:Int) (n X:Nat) (H:Hp) (e:Addr) (av:Nat→V) (o:List Nat) (M:aO) (D:Nat→Int):Prop where
 row:dC H e n av
 kN:∀i,i<n→aJ X H q (av i) (M i n) (D i)
 bl:∀k i,k≤n→(sL M o n k i).natAbs≤X∧(sW M D o k i).natAbs≤X
 bo:∀(g:Nat→List Nat),(∀p,p<n→(g p).length≤n)→∀p l,p<n→l≤(g p).length→(rS M o g (cO o n) n (fun _=>aA M (cO o n)) p l).natAbs≤X∧(D p*aA M (cO o (o.idxOf p))*aA M (cO o n)).natAbs≤X
 bc:∀p,(cQ M (cO o n) n p).natAbs≤X∧(aA M (cO o n)).natAbs≤X
 bt:∀(g:Nat→List Nat),(∀p,p<n→(g p).length≤n)→∀k t p l,k<n→p<n→l≤(g p).length→(mS M o g k t p l).natAbs≤X∧(D p*aA M (cO o (o.idxOf p))*aA M (cO o k)).natAbs≤X
 bm:∀k t p,k<n→(cF M o k t p).natAbs≤X∧(aA M (cO o k)).natAbs≤X
def Vd(C:Addr):Sp:=fun vs H Q _=>∃(z a d e:Addr) (q:Int) (B X n:Nat) (ah:dP) (o:List Nat) (M:aO) (D:Nat→Int) (av:Nat→V),vs=[.ref z,.ref a,.ref d,.ref e]∧eK C H z q∧a9 q∧jD B H q a ah∧B≤10 ^ 100∧ah.length=n∧1≤n∧n≤40∧(∀ps∈ah,ps.length=n)∧H d=some (.lst (bg o))∧o.Perm (List.range n)∧Br q n X ah o M D∧Lq q n X H e av o M D ∧
 (∀(k:Nat) (hk:k<o.length),cf q M (cO o k)→q∣aF M (cO o k) (M o[k]) o[k]→∀(tp r:Addr) (lv:Nat→V) (H':Hp),af H H'→H r=none→H tp=none→H' tp=some (.tup [.str (Str.ofString "stops"),.int ((k:Int)+1),.ref r])→dC H' r n lv→(∀i,i<n→aJ X H' q (lv i) (cF M o k o[k] i) (aA M (cO o k)))→Q (.ref tp) H') ∧
 (cf q M (cO o n)→∀(tp r:Addr) (lv:Nat→V) (g:Nat→List Nat) (H':Hp),af H H'→H r=none→H tp=none→(∀p,p<n→fb n o p (g p)∧eM n (dr n (b5 ah) n) o p (g p))→H' tp=some (.tup [.str (Str.ofString "one"),.ref r,.int (ke n g:Int)])→dC H' r n lv→(∀i,i<n→aJ X H' q (lv i) (cQ M (cO o n) n i) (aA M (cO o n)))→Q (.ref tp) H')
variable {te:TE} {σ:St}
theorem Ve{r:List V→Hp→VK→Prop}{tr:TA}{Q:List V→Hp→Prop}(h:te σ H fun x H1=>r [x] H1 fun y H2=>tr σ H2 fun ys H3=>Q (y::ys) H3):qf (AF r (qf te kB)) tr σ H Q:=h
theorem Bu:∀n,1≤gL n
 | 0=>aK _
 | n+1=>by have:=Bu n;show 1≤(n+1)*gL n;exact aH this (ji _ (by lia))
theorem Vf(h:a≤b):gL a≤gL b:=by
 induction b with
 | zero=>rw [show a=0 by lia];exact aK _
 | succ b ih=>
  by_cases e:a=b+1;·rw [e];exact aK _
  ·refine aH (ih (by lia)) ?_
   show gL b≤(b+1)*gL b;exact ji _ (by lia)
def di(n B:Nat):Nat:=gL (n+2)*B ^ (n+2)
def bJ(n B:Nat):Nat:=(n+1)*(B*(di n B*di n B))
section
variable {q:Int} {M:aO} {D:Nat→Int} {o:List Nat} {n B:Nat}
theorem qE(b1:1≤B){m:Nat}(h:m≤n+2):gL m*B ^ m≤di n B:=fU (Vf h) (Nat.pow_le_pow_right b1 h)
theorem Fo(b1:1≤B):1≤di n B:=Nat.mul_pos (Bu _) (Nat.pow_pos b1)
theorem Fp(lo:o.length=n)(k:Nat):(cO o k).length≤n:=by unfold cO;rw [List.length_reverse,mq];lia
theorem qF(b1:1≤B)(hM:∀i k,(M i k).natAbs≤B)(lo:o.length=n)(k i j:Nat):(aF M (cO o k) (M i) j).natAbs≤di n B:=aH (Lf hM (hM i)) (qE b1 (by have:=Fp lo k;lia))
theorem iH(b1:1≤B)(hM:∀i k,(M i k).natAbs≤B)(lo:o.length=n)(k:Nat):(aA M (cO o k)).natAbs≤di n B:=aH (Lg hM) (qE b1 (by have:=Fp lo k;lia))
theorem uH(b1:1≤B)(hM:∀i k,(M i k).natAbs≤B)(lo:o.length=n)(k m c:Nat):(cQ M (cO o k) m c).natAbs≤di n B:=aH (UH b1 hM) (qE b1 (by have:=Fp lo k;lia))
theorem kP(b1:1≤B):di n B≤bJ n B:=by unfold bJ;refine aH (ji (di n B) (Fo (n:=n) b1)) ?_;refine aH (ji _ b1) (ji _ (by lia))
theorem lV(b1:1≤B){a b:Int}(ha:a.natAbs≤di n B)(hb:b.natAbs≤B):(a*b).natAbs≤bJ n B∧(b*a).natAbs≤bJ n B:=by
 have h:(a*b).natAbs≤bJ n B:=by rw [fH];unfold bJ;refine aH (fU ha hb) ?_;rw [Nat.mul_comm];refine aH (z8 B (ji (di n B) (Fo (n:=n) b1))) (ji _ (by lia))
 exact ⟨h,by rw [dX];exact h⟩
theorem Bv(b1:1≤B){a b c:Int}(ha:a.natAbs≤B)(hb:b.natAbs≤di n B)(hc:c.natAbs≤di n B):(a*b*c).natAbs≤bJ n B:=by rw [fH,fH,Nat.mul_assoc];unfold bJ;exact aH (fU ha (fU hb hc)) (ji _ (by lia))
theorem Fq{F:Nat→Int}{Z:Nat}(h:∀j,(F j).natAbs≤Z):∀l:List Nat,((l.map F).sum).natAbs≤l.length*Z
 | []=>by simp
 | x::l=>by rw [cy,cM,gD,Nat.succ_mul];have:=Fq h l;have:=h x;lia
theorem Lr(b1:1≤B){F:Nat→Int}{l:List Nat}(hl:l.length≤n)(h:∀j,(F j).natAbs≤di n B*di n B){a:Int}(ha:a.natAbs≤di n B*di n B):(a-(l.map F).sum).natAbs≤bJ n B:=by have h1:=Fq h l;have h2:l.length*(di n B*di n B)≤n*(di n B*di n B):=Nat.mul_le_mul_right _ hl;have h3:(n+1)*(di n B*di n B)≤bJ n B:=z8 _ (ji _ b1);rw [Nat.succ_mul] at h3;lia
theorem Fs{a b:Int}{F:Nat}(ha:a.natAbs≤F)(hb:b.natAbs≤F):(a*b).natAbs≤F*F:=by rw [fH];exact fU ha hb
theorem Vg(b1:1≤B)(hM:∀i k,(M i k).natAbs≤B)(hD:∀i,(D i).natAbs≤B)(lo:o.length=n)(k i j:Nat):(sT M D o k i j).natAbs≤bJ n B∧(sU M D o k i j).natAbs≤bJ n B:=by
 constructor
 ·unfold sT
  split
  ·exact aH (qF b1 hM lo _ _ _) (kP b1)
  ·split
   ·exact aH (qF b1 hM lo _ _ _) (kP b1)
   ·exact (lV b1 (qF b1 hM lo _ _ _) (hD j)).1
 ·unfold sU
  split
  ·exact (lV b1 (iH b1 hM lo _) (hD i)).2
  ·split <;> exact (lV b1 (iH b1 hM lo _) (hD i)).2
theorem Ls{e:Addr}{av:Nat→V}{Y:Nat}(b1:1≤B)(hM:∀i k,(M i k).natAbs≤B)(hD:∀i,(D i).natAbs≤B)(lo:o.length=n)(row:dC H e n av)(w:∀i,i<n→aJ Y H q (av i) (M i n) (D i)):Lq q n (bJ n B) H e av o M D:=by
 have bB:B≤di n B:=by
  have:=qE (n:=n) b1 (show 1≤n+2 by lia)
  rw [Nat.pow_one] at this;exact aH (by show B≤gL 1*B;exact ji _ (Bu 1)) this
 have bX:=aH bB (kP (n:=n) b1);refine ⟨row,fun i hi=>(w i hi).bd (aH (hM i n) bX) (aH (hD i) bX),fun k i _=>⟨?_,?_⟩,fun g hg p l hp hl=>⟨?_,?_⟩,fun p=>⟨?_,?_⟩,fun g hg k t p l _ hp hl=>⟨?_,?_⟩,fun k t p _=>⟨?_,?_⟩⟩;·exact aH (qF b1 hM lo _ _ _) (kP b1)
 ·exact (lV b1 (iH b1 hM lo _) (hD i)).2
 ·unfold rS
  exact Lr b1 (by rw [mq];have:=hg p hp;lia) (fun j=>Fs (qF b1 hM lo _ _ _) (uH b1 hM lo _ _ _)) (Fs (qF b1 hM lo _ _ _) (iH b1 hM lo _))
 ·exact Bv b1 (hD p) (iH b1 hM lo _) (iH b1 hM lo _)
 ·exact aH (uH b1 hM lo _ _ _) (kP b1)
 ·exact aH (iH b1 hM lo _) (kP b1)
 ·have mv:∀j,(cF M o k t j).natAbs≤di n B:=fun j=>by
   unfold cF
   split
   ·exact iH b1 hM lo _
   ·split
    ·rw [mB];exact uH b1 hM lo _ _ _
    ·exact ck _
  unfold mS;have:=Lr (n:=n) b1 (l:=(g p).take l) (a:=0) (by rw [mq];have:=hg p hp;lia) (fun j=>Fs (qF b1 hM lo (o.idxOf p) p j) (mv j)) (ck _)
  rwa [pK] at this
 ·exact Bv b1 (hD p) (iH b1 hM lo _) (iH b1 hM lo _)
 ·unfold cF
  split
  ·exact aH (iH b1 hM lo _) (kP b1)
  ·split
   ·rw [mB];exact aH (uH b1 hM lo _ _ _) (kP b1)
   ·exact ck _
 ·exact aH (iH b1 hM lo _) (kP b1)
theorem Vh(b1:1≤B)(hM:∀i k,(M i k).natAbs≤B)(hD:∀i,(D i).natAbs≤B)(lo:o.length=n)(w:∀i j,i<n→j<n→q∣(atT ah i j).1*D i-M i j*(atT ah i j).2)(dn:∀i,¬q∣D i)(zero:∀i j,i<n→j<n→(atT ah i j).1=0→M i j=0)(x1:1000≤bJ n B)(Vi:bJ n B≤10 ^ 100):Br q n (bJ n B) ah o M D:=
 ⟨w,dn,zero,fun k i j _=>Vg b1 hM hD lo k i j,x1,Vi⟩
end
theorem Vj(x y:Int):x=x.fmod y+y*x.fdiv y:=by have:=Int.mul_fdiv_add_fmod x y;lia
theorem Lu(x y:Int):Int.gcd y (x.fmod y)=Int.gcd x y:=by
 have e:=Vj x y;have e2:x.fmod y=x-y*x.fdiv y:=by lia
 refine Nat.dvd_antisymm (Int.ofNat_dvd.mp (Int.dvd_coe_gcd ?_ (kq ..))) (Int.ofNat_dvd.mp (Int.dvd_coe_gcd (jR ..) ?_))
 ·have:=tX (jR y (x.fmod y)) (DH (c:=x.fdiv y) (kq y (x.fmod y)))
  rwa [←e] at this
 ·have:=Int.dvd_sub (kq x y) (DH (c:=x.fdiv y) (jR x y))
  rwa [←e2] at this
variable {y:Int}
theorem Vk(h:y≠0):(x.fmod y).natAbs<y.natAbs:=by
 have h1:=fI x h;have h2:x % y<(y.natAbs:Int):=Int.emod_lt x h;rw [Int.fmod_eq_emod]
 split
 ·lia
 ·rename_i hn
  rw [not_or] at hn;have:x % y≠0:=fun z=>hn.2 (DF z);lia
def Vl:Sp:=fun vs H Q _=>∃a b:Int,vs=[.int a,.int b]∧Q (.int (Int.gcd a b:Int)) H
def Vm:Sp:=fun vs H Q _=>∃c p:Int,vs=[.int c,.int p]∧2≤p∧p≤997∧fA p=true∧¬p∣c∧∀(r:Int) (H':Hp),af H H'→0≤r→r<p→p∣r*c-1→Q (.int r) H'
def d8(H:Hp)(td:Addr)(q:Int):Prop:=(q=0∧H td=some (.tup [sV "fractions"]))∨(q≠0∧H td=some (.tup [sV "wheel",.int q]))
variable {H':Hp} {td:Addr}
theorem d8.mono(h:d8 H td q)(s:af H H'):d8 H' td q:=h.imp (fun h=>⟨h.1,s _ _ h.2⟩) fun h=>⟨h.1,s _ _ h.2⟩
def Vn:Sp:=fun vs H Q _=>∃(td:Addr) (q a b:Int) (Y:Nat),vs=[.ref td,.int a,.int b]∧d8 H td q∧a9 q∧¬q∣b∧a.natAbs≤Y∧b.natAbs≤Y∧Y≤10 ^ 300∧∀(v:V) (H':Hp),af H H'→aJ Y H' q v a b→Q v H'
theorem Vo{a b:Int}(hb:b≠0)(s:Int)(hs:s=if b<0 then -1 else 1):cj ((s*a).fdiv (Int.gcd a b:Int)) ((s*b).fdiv (Int.gcd a b:Int))∧(s*a).fdiv (Int.gcd a b:Int)*b=a*(s*b).fdiv (Int.gcd a b:Int):=by
 have gp:0<Int.gcd a b:=Int.gcd_pos_of_ne_zero_right a hb;obtain ⟨x,hx⟩:=kq a b;obtain ⟨y,hy⟩:=jR a b;generalize hg:Int.gcd a b=g at gp hx hy ⊢;have g0:(g:Int)≠0:=by lia
 have e1:(s*a).fdiv (g:Int)=s*x:=by
  rw [hx,show s*((g:Int)*x)=(g:Int)*(s*x) by grind]
  exact Int.mul_fdiv_cancel_left _ g0
 have e2:(s*b).fdiv (g:Int)=s*y:=by
  rw [hy,show s*((g:Int)*y)=(g:Int)*(s*y) by grind]
  exact Int.mul_fdiv_cancel_left _ g0
 rw [e1,e2];have f9:Int.gcd x y=1:=by have:=Int.gcd_mul_left (g:Int) x y;rw [←hx,←hy,hg,xK] at this;exact Nat.eq_of_mul_eq_mul_left gp (by lia)
 have ss:s=1∨s=-1:=by rw [hs];split <;> simp
 refine ⟨⟨?_,?_⟩,by rw [hx,hy];grind⟩
 ·have JN:(g:Int)*y<0∨0<(g:Int)*y:=by lia
  have ys:(b<0→y<0)∧(¬b<0→0<y):=by
   constructor
   ·intro h
    refine pL fun z=>?_;have:0≤(g:Int)*y:=Int.mul_nonneg (by lia) (by lia)
    lia
   ·intro h
    refine pL fun z=>?_;have:(g:Int)*y≤0:=Int.mul_nonpos_of_nonneg_of_nonpos (by lia) (by lia)
    lia
  rw [hs]
  split
  ·rename_i h
   have:=ys.1 h;lia
  ·rename_i h
   have:=ys.2 h;lia
 ·rcases ss with h | h
  ·rw [h,nQ,nQ]
   exact f9
  ·rw [h,show (-1:Int)*x=-x by lia,show (-1:Int)*y=-y by lia,Int.gcd_neg,Int.neg_gcd]
   exact f9
def Fu(tp bt:Int→Int→Int→Int→Int):Sp:=fun vs H Q _=>∃(td:Addr) (v u:V) (q T U T' U':Int) (X Y:Nat),vs=[.ref td,v,u]∧d8 H td q∧a9 q∧aJ X H q v T U∧aJ X H q u T' U'∧X≤10 ^ 140∧¬q∣bt T U T' U'∧(tp T U T' U').natAbs≤Y∧(bt T U T' U').natAbs≤Y∧∀(v':V) (H':Hp),af H H'→aJ Y H' q v' (tp T U T' U') (bt T U T' U')→Q v' H'
variable {X:Nat}
theorem g_(h:x.natAbs≤X)(hX:X≤10 ^ 140):eS x:=jQ (aH h hX) (by decide +kernel)
theorem lW(h:x.natAbs≤X)(h':y.natAbs≤X)(hX:X≤10 ^ 140):(x*y).natAbs≤10 ^ 280:=by rw [fH];exact aH (fU (aH h hX) (aH h' hX)) (by decide +kernel)
def Vp:Sp:=fun vs H Q _=>∃(td:Addr) (v u:V) (q T U T' U':Int) (X Y:Nat),vs=[.ref td,v,u]∧d8 H td q∧a9 q∧aJ X H q v T U∧aJ X H q u T' U'∧X≤10 ^ 140∧¬q∣T'∧(T*U').natAbs≤Y∧(U*T').natAbs≤Y∧∀(v':V) (H':Hp),af H H'→aJ Y H' q v' (T*U') (U*T')→Q v' H'
def Vq:Sp:=fun vs H Q _=>∃(td:Addr) (q:Int),vs=[.ref td]∧d8 H td q∧a9 q∧∀(v:V) (H':Hp),af H H'→a_ 1000 H' q v 0 1→Q v H'
variable {Y:Nat}
theorem Vr(hq:a9 q)(h:aJ Y H q v 0 1)(y:1≤Y):a_ 1000 H q v 0 1:=by
 obtain ⟨x,m,h1,h2⟩:=(mY hq h).mp (k9 q);subst h2;have hb:aJ 1000 H q v 0 1:=h.bd (by decide) (by decide)
 obtain ⟨x',m',g1,g2,g3⟩:=hb;obtain ⟨e1,e2⟩:=Fh h1 g1;subst e1;cases g1 with
 | ba e l bx bm=>
  have:=l.f9;rw [Int.gcd_zero_left] at this;have:=l.pos;have:m'=1:=by lia
  subst this;exact .ba e l bx bm
 | rem a b c=>exact .rem a b c
def Vs:Sp:=fun vs H Q _=>∃(td T:Addr) (q:Int),vs=[.ref td,.ref T]∧d8 H td q∧a9 q∧b_ H T∧∀(v:V) (x m:Int) (H':Hp),bh T H H'→b_ H' T→a_ 1000 H' q v x m→(q=0→x.natAbs≤3∧m∣6)→Q v H'
variable {T:Addr}
theorem d8.off(h:d8 H td q)(o:bh T H H')(t:b_ H T):d8 H' td q:=by
 obtain ⟨x,ex⟩:=t;have ne:∀{xs},H td=some (.tup xs)→td≠T:=fun{xs} e z=>by rw [z,ex] at e;cases e
 exact h.imp (fun h=>⟨h.1,o _ _ (ne h.2) h.2⟩) fun h=>⟨h.1,o _ _ (ne h.2) h.2⟩
theorem Lv{a b:Int}(h:aJ Y H q v a b)(ha:a.natAbs≤1000)(hb:b.natAbs≤1000)(q0:q=0):∃x m,a_ 1000 H q v x m∧x.natAbs≤a.natAbs∧m∣b:=by
 have h2:aJ a.natAbs H q v a b∨True:=.inr trivial;obtain ⟨x,m,g1,g2,g3⟩:=h.bd (Y:=1000) ha hb;subst q0;refine ⟨x,m,g1,?_,?_⟩
 ·cases g1 with
  | ba e l bx bm=>
   have e0:=eX.mp g2;have U0:b≠0:=fun z=>g3 (by rw [z];exact jd 0)
   by_cases up:0<b;·exact (ur l up (show x*b=a*m by lia)).2
   ·have:=ur l (show 0 < -b by lia) (show x * -b=-a*m by rw [k8,tY];lia)
    rw [mB] at this;exact this.2
  | rem _ _ _=>lia
 ·cases g1 with
  | ba e l bx bm=>have e0:=eX.mp g2;exact Tq l (show x*b=a*m by lia)
  | rem _ _ _=>lia
def Vt:Sp:=fun vs H Q _=>∃T:Addr,vs=[.ref T]∧b_ H T∧∀(td:Addr) (q:Int) (H':Hp),bh T H H'→b_ H' T→d8 H' td q→a9 q→Q (.ref td) H'
def Fv(w:Int):Bool:=[0,2,3,5,7,997,97,13,11].contains w
theorem Vu{w:Int}(h:Fv w=true):a9 w:=by unfold Fv at h;simp at h;rcases h with h | h | h | h | h | h | h | h | h <;> subst h <;> (unfold a9;decide +kernel)
theorem Vv{wi:TI}{ρ:St→St}{Q:VK}(hn:n<sizeLine)(hT:b_ H T)(mU:∀R:It→Hp→Prop,R (mH 0 n) H→wi σ H R)(Pr:Addr→Nat→V→Hp→Prop)
  (mono:∀D i y Ha Hb ys,Pr D i y Ha→b_ Ha T→Ha D=some (.lst ys)→(∀b o,b≠T→b≠D→Ha b=some o→Hb b=some o)→Pr D i y Hb)
  (step:∀(D:Addr) (i:Nat),i<n→∀(Hc:Hp) (R:VK),bh T H Hc→b_ Hc T→(∃ys,Hc D=some (.lst ys))→D≠T→H D=none→(∀y H3,bh T Hc H3→b_ H3 T→Pr D i y H3→R y H3)→te (some (.int (0+(i:Int)))::ρ σ) Hc R)
  (fin:∀(D:Addr) (ys:List V) (Hc:Hp),D≠T→H D=none→bh T H Hc→b_ Hc T→ys.length=n→(∀(i:Nat) (y:V),ys[i]?=some y→Pr D i y Hc)→Hc D=some (.lst ys)→Q (.ref D) Hc):jy wi ρ (fun _ H Q=>Q true H) te σ H Q:=by
 refine mU _ ?_;intro D nD;have nP:=hT.ne nD;have up:∀{Hc:Hp} {o:HO},b_ Hc T→b_ (L2.upd Hc D o) T:=fun⟨x,e⟩=>⟨x,(aP (Ne.symm nP)).trans e⟩;have off:∀{Hc:Hp} {o:HO},bh T H Hc→bh T H (L2.upd Hc D o):=fun h b u ne e=>(aP (fun z=>by rw [z,nD] at e;cases e)).trans (h b u ne e)
 refine ⟨fun i m ys Hc=>m=n-i∧i≤n∧Hc D=some (.lst ys)∧bh T H Hc∧b_ Hc T∧ys.length=i∧∀j y,ys[j]?=some y→Pr D j y Hc,⟨_,rfl,ck _,az,off (bh.refl T H),up hT,rfl,fun j y e=>by simp at e⟩,?_⟩
 rintro i m ys Hc ⟨rfl,hi,eD,sH,pc,el,hP⟩;refine ⟨eD,?_⟩;by_cases cu:i<n
 ·refine .inr ⟨cu,fun x H' hy=>?_⟩
  obtain ⟨rfl,rfl⟩:=hy;rw [ar rfl];refine step D i cu _ _ sH pc ⟨_,eD⟩ nP nD fun y H3 s3 p3 hp=>?_;have e3:=s3 _ _ nP eD;refine ⟨e3,by lia,n-(i+1),by lia,rfl,cu,az,off (sH.trans s3),up p3,by simp [el],fun j y' e=>?_⟩
  by_cases hj:j<i;·exact mono D j y' _ _ _ (mono D j y' _ _ _ (hP j y' (by rw [pD (by lia)] at e;exact e)) pc eD fun b o n1 n2 e=>s3 b o n1 e) p3 e3 fun b o n1 n2 e=>(aP n2).trans e
  ·have hj:j=i:=by have:=(bQ.mp e).1;simp at this;lia
   subst hj;have e':y'=y:=by rw [pB (by lia),el,Nat.sub_self] at e;simpa using e.symm
   subst e';exact mono D j y' _ _ _ hp p3 e3 fun b o n1 n2 e=>(aP n2).trans e
 ·have e:i=n:=by lia
  subst e;exact .inl ⟨aK _,fin D ys Hc nP nD sH pc el hP eD⟩
theorem a_.off{D:Addr}{ys:List V}(h:a_ B H q v x m)(t:b_ H T)(e:H D=some (.lst ys))(k:∀b o,b≠T→b≠D→H b=some o→H' b=some o):a_ B H' q v x m:=by
 obtain ⟨z,ez⟩:=t;cases h with
 | ba ep l bx bm=>exact .ba (k _ _ (fun zz=>by rw [zz,ez] at ep;cases ep) (fun zz=>by rw [zz,e] at ep;cases ep) ep) l bx bm
 | rem a b c=>exact .rem a b c
def lX(q x m:Int):Prop:=q=0→x.natAbs≤3∧m∣6
def Vw:Sp:=fun vs H Q _=>∃(td T:Addr) (q:Int) (n:Nat),vs=[.ref td,.ref T,.int (n:Int)]∧d8 H td q∧a9 q∧b_ H T∧n≤60∧∀(D:Addr) (ps:cb) (H':Hp),bh T H H'→b_ H' T→H D=none→qw 1000 H' q D ps→ps.length=n→(∀p∈ps,lX q p.1 p.2)→Q (.ref D) H'
def Vx:Sp:=fun vs H Q _=>∃(T:Addr) (n:Nat),vs=[.ref T,.int (n:Int)]∧b_ H T∧n≤20∧∀(D:Addr) (us:List V) (L:cb) (H':Hp),bh T H H'→b_ H' T→H D=none→H' D=some (.lst us)→cW H' us L→(∀z∈L,0≤z.1∧z.1<z.2∧z.2<(n:Int))→L.length≤400→Q (.ref D) H'
theorem cW.yN{us:List V}(h:cW H us L)(t:b_ H T)(o:bh T H H'):cW H' us L:=by obtain ⟨z,ez⟩:=t;refine ⟨h.1,fun k v p h1 h2=>?_⟩;obtain ⟨b,e1,e2⟩:=h.2 k v p h1 h2;exact ⟨b,e1,o b _ (fun zz=>by rw [zz,ez] at e2;cases e2) e2⟩
def Vy:Sp:=fun vs H Q _=>∃(td:Addr) (q:Int) (v:V) (x m:Int) (B:Nat),vs=[.ref td,v]∧d8 H td q∧a9 q∧a_ B H q v x m∧Q (.bl true) H
def Vz:Sp:=fun vs H Q _=>∃(td a:Addr) (q:Int) (ps:cb) (B:Nat),vs=[.ref td,.ref a,.int (ps.length:Int)]∧d8 H td q∧a9 q∧qw B H q a ps∧ps.length≤60∧∀H',af H H'→Q (.bl true) H'
def i3(ah:dP)(j i:Nat):List (Int×Int):=((List.range i).filter fun x=>b5 ah x j).map fun x:Nat=>((x:Int),(j:Int))
def gz(ah:dP)(j:Nat):List (Int×Int):=(List.range j).flatMap fun y=>i3 ah y y
variable {j i:Nat}
theorem Bw(h:b5 ah i j=true):i3 ah j (i+1)=i3 ah j i++[((i:Int),(j:Int))]:=by unfold i3;rw [nR,List.filter_append,jf];simp [h]
theorem Lw(h:b5 ah i j=false):i3 ah j (i+1)=i3 ah j i:=by unfold i3;rw [nR,List.filter_append,jf];simp [h]
theorem Fw:gz ah (j+1)=gz ah j++i3 ah j j:=by unfold gz;rw [nR,List.flatMap_append];simp
theorem Fx{z:Int×Int}:z∈gz ah n↔∃i j:Nat,z=((i:Int),(j:Int))∧i<j∧j<n∧b5 ah i j=true:=by
 unfold gz i3;simp only [List.mem_flatMap,eW,jg,pz];constructor
 ·rintro ⟨j,hj,i,⟨hi,ht⟩,rfl⟩
  exact ⟨i,j,rfl,hi,hj,ht⟩
 ·rintro ⟨i,j,rfl,hi,hj,ht⟩
  exact ⟨j,hj,i,⟨hi,ht⟩,rfl⟩
def VA:Sp:=fun vs H Q _=>∃(td a:Addr) (q:Int) (B n:Nat) (ah:dP),vs=[.ref td,.ref a]∧d8 H td q∧a9 q∧jD B H q a ah∧ah.length=n∧n≤20∧(∀ps∈ah,ps.length=n)∧∀(D:Addr) (us:List V) (H':Hp),af H H'→H D=none→H' D=some (.lst us)→cW H' us (gz ah n)→(gz ah n).length≤400→Q (.ref D) H'
end My
namespace L2
open PySem PySem.Spec PyProof.Rows
section
variable {X:Cx} {N:List Str} {scope:Scope} {cl:List (Str×Addr)} {x y:Str} {px py pos tp:Pos} {Sy:Nat} {iter elt:Expr} {ifs:List Expr} {wi:TI} {ρ:St→St} {tt:TT} {te:TE}
end
section
variable {X:Cx} {e:Expr} {te:TE} {pos p2:Pos}
end
end L2
namespace My
open PySem L2
theorem Lx{F:Nat→Int}:∀{l:List Nat},(∀c∈l,F c=0)→(l.map F).sum=0
 | [],_=>rfl
 | x::l,h=>by rw [cy,cM,h x (fQ ..),Lx fun c hc=>h c (fj _ hc),hZ]
theorem Ly{q:Int}:∀{m:Nat} {F:Nat→Int},(∀i,i<m→q∣F i)→q∣aZ m F
 | 0,_,_=>k9 q
 | m+1,F,h=>by show q∣F 0+aZ m fun i=>F (i+1);exact tX (h 0 (by lia)) (Ly fun i hi=>h (i+1) (by lia))
section
variable {q:Int} {M N N':aO} {D:Nat→Int}
theorem VB(hq:a9 q){u x:Int}(nu:¬q∣u)(h:q∣u*x):q∣x:=by
 have:=yC hq nu (show Cg q (u*x) 0 by unfold Cg;rwa [ku])
 unfold Cg at this
 rwa [ku] at this
theorem Fy(hq:a9 q):∀{C:List Nat},cf q M C→C.Nodup→∀y:Nat→Int,(∀r∈C,q∣(C.map fun c=>M r c*y c).sum)→∀c∈C,q∣y c
 | [],_,_,_,_,_,hc=>nomatch hc
 | p::C,g,nd,y,h,c,hc=>by
  rw [iO] at nd;have e:q∣((p::C).map fun c=>aF M C (M p) c*y c).sum:=by
   obtain ⟨z,hz⟩:=La M C (M p);have e1:(fun c=>aF M C (M p) c*y c)=fun c=>aA M C*(M p c*y c)+aZ C.length fun i=>z i*(M (C.getD i 0) c*y c):=by
    funext c
    rw [hz c,Int.add_mul,k7,dX (aZ _ _),jB]
    congr 1
    exact gw fun i _=>by grind
   rw [e1,E3,mX,E5];refine tX (DI (h p (fQ ..))) (Ly fun i hi=>?_);rw [mX];refine DI (h _ (fj _ ?_));rw [jb,dF hi];exact dN hi
  rw [cy,cM,Lx (fun c hc=>by rw [Bm hc,gh]),Int.add_zero] at e
  have yp:q∣y p:=VB hq g.2 e;have hC:∀r∈C,q∣(C.map fun c=>M r c*y c).sum:=fun r hr=>by
   have:=h r (fj _ hr);rw [cy,cM] at this;have e2:=Int.dvd_sub this (DI (b:=M r p) yp)
   rwa [show ∀x y:Int,x+y-x=y from fun x y=>by lia] at e2
  rcases cx.mp hc with rfl | hc;·exact yp
  ·exact Fy hq g.1 nd.2 y hC c hc
variable {C:List Nat}
theorem VC(hq:a9 q){t:Nat}(g:cf q M C)(nd:(t::C).Nodup)(h:q∣aF M C (M t) t):∃y:Nat→Int,(∃c∈t::C,¬q∣y c)∧∀r∈t::C,q∣((t::C).map fun c=>M r c*y c).sum:=by
 rw [iO] at nd;have ex:∀r,((t::C).map fun c=>M r c*(if c=t then aA M C else -cQ M C t c)).sum=aF M C (M r) t:=fun r=>by
  rw [Bn nd.2 nd.1,cy,cM,ar rfl];have:(C.map fun c=>M r c*(if c=t then aA M C else -cQ M C t c))=C.map fun c=>-1*(M r c*cQ M C t c):=h_ fun c hc=>by rw [ao (fun z:c=t=>nd.1 (z▸hc))];grind
  rw [this,mX];grind
 refine ⟨fun c=>if c=t then aA M C else -cQ M C t c,⟨t,fQ ..,?_⟩,fun r hr=>?_⟩
 ·show ¬q∣if t=t then aA M C else _
  rw [ar rfl];exact iY hq g
 ·rw [ex r]
  rcases cx.mp hr with rfl | hr;·exact h
  ·rw [uE hq g r hr t]
   exact k9 q
def cG:Nat→List Nat
 | 0=>[]
 | k+1=>k::cG k
theorem jG{x:Nat}:∀{k:Nat},x∈cG k↔x<k
 | 0=>by simp [cG]
 | k+1=>by show x∈k::cG k↔_;rw [cx,jG];lia
theorem yO:∀k,(cG k).Nodup
 | 0=>List.nodup_nil
 | k+1=>iO.mpr ⟨fun h=>by have:=jG.mp h;lia,yO k⟩
theorem Fz:∀k,(cG k).length=k
 | 0=>rfl
 | k+1=>by show (cG k).length+1=_;rw [Fz]
theorem FA:∀{C:List Nat},(∀r∈C,N' r=N r)→f_ N' C=f_ N C
 | [],_=>rfl
 | p::C,h=>by show aQ (N' p) (f_ N' C)=aQ (N p) (f_ N C);rw [h p (fQ ..),FA fun r hr=>h r (fj _ hr)]
theorem VD(h:∀r∈C,N' r=N r):aA N' C=aA N C:=by unfold aA;rw [FA h]
theorem Lz(h:∀r∈C,N' r=N r)(f:Nat→Int)(k:Nat):aF N' C f k=aF N C f k:=by unfold aF;rw [FA h]
theorem LA:∀{C:List Nat},(∀r∈C,N' r=N r)→cf q N C→cf q N' C
 | [],_,_=>trivial
 | p::C,h,g=>⟨LA (fun r hr=>h r (fj _ hr)) g.1,by rw [Lz (fun r hr=>h r (fj _ hr)),h p (fQ ..)];exact g.2⟩
def cw{α:Type}(k a:Nat)(f:Nat→α):Nat→α:=fun i=>if i=k then f a else if i=a then f k else f i
variable {k a:Nat}
theorem FC{α:Type}{i:Nat}{f:Nat→α}(h1:i<k)(h2:k≤a):cw k a f i=f i:=by unfold cw;rw [ao (by lia),ao (by lia)]
theorem LB{α:Type}{f:Nat→α}:cw k a f k=f a:=by unfold cw;rw [ar rfl]
theorem FD{α:Type}{f:Nat→α}{P:α→Prop}(h:∀i,P (f i))(i:Nat):P (cw k a f i):=by
 unfold cw
 split
 ·exact h a
 ·split
  ·exact h k
  ·exact h i
variable {m:Nat}
theorem FE{α:Type}(hk:k<m)(ha:a<m){f:Nat→α}{P:α→Prop}:(∀i,i<m→P (cw k a f i))↔∀i,i<m→P (f i):=by
 constructor
 ·intro h i hi
  by_cases e:i=k
  ·subst e
   have:=h a ha;unfold cw at this;by_cases z:a=i;·rw [ar z] at this;exact z▸this
   ·rw [ao z,ar rfl] at this;exact this
  ·by_cases e2:i=a
   ·subst e2
    have:=h k hk
    rwa [LB] at this
   ·have:=h i hi
    unfold cw at this
    rwa [ao e,ao e2] at this
 ·intro h i hi
  unfold cw
  split
  ·exact h a ha
  ·split
   ·exact h k hk
   ·exact h i hi
def VE(m:Nat)(N N0:aO):Prop:=∀P:(Nat→Int)→Prop,(∀i,i<m→P (N i))↔∀i,i<m→P (N0 i)
theorem VF(hk:k<m){F:Nat→Int}(z:∀c,k<c→F c=0):((List.range m).map F).sum=((k::cG k).map F).sum:=
 qD (p:=k) pM (yO (k+1)) (fun c hc=>eW.mpr (by have:=jG (k:=k+1).mp hc;lia)) fun c _ nc=>z c (by have:¬c<k+1:=fun zz=>nc (jG (k:=k+1).mpr zz);lia)
theorem VG(hq:a9 q)(km:k<m)(g:cf q N (cG k))(z:∀i,k≤i→i<m→q∣aF N (cG k) (N i) k):∃y:Nat→Int,¬q∣y k∧∀i,i<m→q∣((List.range m).map fun j=>N i j*y j).sum:=by
 refine ⟨fun c=>if c=k then aA N (cG k) else if c<k then -cQ N (cG k) k c else 0,by show ¬q∣if k=k then aA N (cG k) else _;rw [ar rfl];exact iY hq g,fun i hi=>?_⟩
 have kC:k∉cG k:=fun h=>by have:=jG.mp h;lia
 rw [VF km fun c hc=>by dsimp only;rw [ao (by lia),ao (by lia),gE]]
 have ex:((k::cG k).map fun c=>N i c*(if c=k then aA N (cG k) else if c<k then -cQ N (cG k) k c else 0)).sum=aF N (cG k) (N i) k:=by
  rw [Bn (yO k) kC,cy,cM,ar rfl];have:((cG k).map fun c=>N i c*(if c=k then aA N (cG k) else if c<k then -cQ N (cG k) k c else 0))=(cG k).map fun c=>-1*(N i c*cQ N (cG k) k c):=h_ fun c hc=>by
   have:=jG.mp hc;rw [ao (by lia),ar this]
   grind
  rw [this,mX];grind
 rw [ex];by_cases h:i<k
 ·rw [uE hq g i (jG.mpr h) k]
  exact k9 q
 ·exact z i (by lia) hi
theorem VH(hq:a9 q)(g:cf q N (cG m))(y:Nat→Int)(h:∀i,i<m→q∣((List.range m).map fun j=>N i j*y j).sum):∀j,j<m→q∣y j:=fun j hj=>by
 have pm:(cG m).Perm (List.range m):=(List.perm_ext_iff_of_nodup (yO m) pM).mpr fun x=>by rw [jG,eW]
 refine Fy hq g (yO m) y (fun r hr=>?_) j (jG.mpr hj);rw [Bt (pm.map _)];exact h r (jG.mp hr)
end
structure oS (H:Hp) (a:Addr) (n m:Nat) (ra:Nat→Addr) (vf:Nat→Nat→V):Prop where
 lst:H a=some (.lst ((List.range n).map fun i=>V.ref (ra i)))
 at':∀i,i<n→H (ra i)=some (.lst ((List.range m).map (vf i)))
variable {H H':Hp} {a:Addr} {n m:Nat} {vf:Nat→Nat→V}
theorem oS.mono{ra:Nat→Addr}(h:oS H a n m ra vf)(s:af H H'):oS H' a n m ra vf:=⟨s _ _ h.lst,fun i hi=>s _ _ (h.at' i hi)⟩
def gA(X:Nat)(H:Hp)(q:Int)(k m:Nat)(vf:Nat→Nat→V)(T U:aO):Prop:=∀i j,k≤i→i<m→k≤j→j<m→aJ X H q (vf i j) (T i j) (U i j)
variable {X k:Nat} {q:Int} {T U:aO}
theorem gA.mono(h:gA X H q k m vf T U)(s:af H H'):gA X H' q k m vf T U:=fun i j a b c d=>(h i j a b c d).mono s
variable {T' U':aO}
theorem gA.put{i j:Nat}{w:V}(h:gA X H q k m vf T U)(kk:∀v t u,aJ X H q v t u→aJ X H' q v t u)(hw:aJ X H' q w (T' i j) (U' i j))(o:∀i' j',k≤i'→i'<m→k≤j'→j'<m→¬(i'=i∧j'=j)→T' i' j'=T i' j'∧U' i' j'=U i' j'):gA X H' q k m (j_ vf i j w) T' U':=fun i' j' a b c d=>by
 unfold j_;by_cases e:i'=i∧j'=j
 ·rw [ar e,e.1,e.2]
  exact hw
 ·rw [ao e,(o i' j' a b c d e).1,(o i' j' a b c d e).2]
  exact kk _ _ _ (h i' j' a b c d)
theorem gA.to(h:gA X H q k m vf T U)(o:∀i' j',k≤i'→i'<m→k≤j'→j'<m→T' i' j'=T i' j'∧U' i' j'=U i' j'):gA X H q k m vf T' U':=fun i j a b c d=>by rw [(o i j a b c d).1,(o i j a b c d).2];exact h i j a b c d
theorem WTab.swap{b:Nat}{rs:Nat→Addr}(h:WTab H a n rs vf)(hk:k<n)(hb:b<n):WTab (upd H a (.lst ((((List.range n).map fun i=>V.ref (rs i)).set k (.ref (rs b))).set b (.ref (rs k))))) a n (cw k b rs) (cw k b vf):=by
 have ne:∀i,i<n→cw k b rs i≠a:=fun i hi=>by have:=(FE hk hb (f:=rs) (P:=fun r=>r≠a)).mpr h.ne;exact this i hi
 refine ⟨?_,fun i j hi hj e=>?_,ne,fun i hi=>?_⟩
 ·rw [az,map_set,map_set]
  congr 2
  refine h_ fun i _=>?_;unfold cw;by_cases e:i=b
  ·subst e
   by_cases e2:i=k;·subst e2;simp
   ·simp [e2]
  ·by_cases e2:i=k
   ·subst e2;simp [e]
   ·simp [e,e2]
 ·unfold cw at e
  have I:=h.inj;by_cases i1:i=k
  ·by_cases j1:j=k
   ·lia
   ·rw [ar i1,ao j1] at e
    by_cases j2:j=b
    ·rw [ar j2] at e
     have:=I _ _ hb hk e;lia
    ·rw [ao j2] at e
     exact absurd (I _ _ hb hj e).symm j2
  ·rw [ao i1] at e
   by_cases i2:i=b
   ·rw [ar i2] at e
    by_cases j1:j=k
    ·rw [ar j1] at e
     have:=I _ _ hk hb e;lia
    ·rw [ao j1] at e
     by_cases j2:j=b;·lia
     ·rw [ao j2] at e
      exact absurd (I _ _ hk hj e).symm j1
   ·rw [ao i2] at e
    by_cases j1:j=k
    ·rw [ar j1] at e
     exact absurd (I _ _ hi hb e) i2
    ·rw [ao j1] at e
     by_cases j2:j=b
     ·rw [ar j2] at e
      exact absurd (I _ _ hi hk e) i1
     ·rw [ao j2] at e
      exact I _ _ hi hj e
 ·rw [aP (ne i hi)]
  unfold cw
  split
  ·exact h.at' b hb
  ·split
   ·exact h.at' k hk
   ·exact h.at' i hi
def yP(q:Int)(M:aO)(ps:List Nat):Prop:=∃y:Nat→Int,(∃c∈ps,¬q∣y c)∧∀r∈ps,q∣(ps.map fun c=>M r c*y c).sum
def VI:Sp:=fun vs H Q _=>∃(td a p:Addr) (q:Int) (n B:Nat) (ra:Nat→Addr) (vf:Nat→Nat→V) (M:aO) (D:Nat→Int) (ps:List Nat),vs=[.ref td,.ref a,.ref p]∧d8 H td q∧a9 q∧oS H a n n ra vf∧(∀i j,i<n→j<n→aJ B H q (vf i j) (M i j) (D i))∧H p=some (.lst (bg ps))∧(∀x∈ps,x<n)∧ps.Nodup∧n≤40∧1≤B∧(∀i k,(M i k).natAbs≤B)∧(∀i,(D i).natAbs≤B)∧(∀i,¬q∣D i)∧bJ n B≤10 ^ 100 ∧
 ∀(b:Bool) (H':Hp),af H H'→(b=true↔yP q M ps)→Q (.bl b) H'
def VJ:Sp:=fun vs H Q _=>∃(td a p:Addr) (q:Int) (n B:Nat) (ra:Nat→Addr) (vf:Nat→Nat→V) (M:aO) (D:Nat→Int) (o:List Nat),vs=[.ref td,.ref a,.ref p]∧d8 H td q∧a9 q∧oS H a n n ra vf∧(∀i j,i<n→j<n→aJ B H q (vf i j) (M i j) (D i))∧H p=some (.lst (bg o))∧o.Perm (List.range n)∧n≤40∧1≤B∧(∀i k,(M i k).natAbs≤B)∧(∀i,(D i).natAbs≤B)∧(∀i,¬q∣D i)∧bJ n B≤10 ^ 100 ∧
 (∀(k:Nat) (hk:k<o.length),cf q M (cO o k)→q∣aF M (cO o k) (M o[k]) o[k]→∀H',af H H'→Q (.int ((k:Int)+1)) H')∧(cf q M (cO o n)→∀H',af H H'→Q (.int 0) H')
section
variable {q:Int} {M:aO} {o:List Nat} {n k:Nat}
theorem FF(ho:o.Perm (List.range n))(k:Nat):(cO o k).Nodup:=by unfold cO;exact (xP _).nodup_iff.mpr ((pE k o).nodup (e_ ho))
theorem LC{ps LD:List Nat}(p:ps.Perm LD):yP q M ps→yP q M LD:=fun⟨y,⟨c,hc,nc⟩,h⟩=>⟨y,⟨c,p.mem_iff.mp hc,nc⟩,fun r hr=>by rw [←Bt (p.map _)];exact h r (p.mem_iff.mpr hr)⟩
theorem VL(hq:a9 q)(ho:o.Perm (List.range n))(hk:k<o.length)(g:cf q M (cO o k)):yP q M (o.take (k+1))↔q∣aF M (cO o k) (M o[k]) o[k]:=by
 have e:=kM hk;have nd:=FF ho (k+1);have pm:(o.take (k+1)).Perm (cO o (k+1)):=(xP _).symm;constructor
 ·intro h
  refine pL fun z=>?_;obtain ⟨y,⟨c,hc,nc⟩,hr⟩:=LC pm h;have g':cf q M (cO o (k+1)):=by rw [e];exact ⟨g,z⟩
  exact nc (Fy hq g' nd y hr c hc)
 ·intro h
  refine LC pm.symm ?_;rw [e] at nd ⊢;exact VC hq g nd h
end
structure LF (q:Int) (X Y n m:Nat) (T U:aO) (t u:Nat→Int) (S:aO) (R:Nat→Int):Prop where
 s0:∀i,i<n→S i 0=0
 Fj:∀i k,i<n→k<m→Cg q ((S i k*(U i k*u k)+T i k*t k*R i)*R i) (S i (k+1)*(R i*(U i k*u k)))
 nz:∀i,i<n→¬q∣R i
 bd:∀i k,i<n→k≤m→(S i k).natAbs≤X∧(R i).natAbs≤X
 pr:∀i k,i<n→k<m→(T i k*t k).natAbs≤Y∧(U i k*u k).natAbs≤Y
 cB:X≤10 ^ 140
 VM:Y≤10 ^ 140
 X1:1000≤X
def VN:Sp:=fun vs H Q _=>∃(td a r:Addr) (q:Int) (X Y n m:Nat) (ra:Nat→Addr) (vf:Nat→Nat→V) (lv:Nat→V) (T U:aO) (t u:Nat→Int) (S:aO) (R:Nat→Int),vs=[.ref td,.ref a,.ref r]∧d8 H td q∧a9 q∧oS H a n m ra vf∧dC H r m lv∧n≤60∧m≤60∧(∀i j,i<n→j<m→aJ X H q (vf i j) (T i j) (U i j))∧(∀j,j<m→aJ X H q (lv j) (t j) (u j))∧LF q X Y n m T U t u S R ∧
 ∀(D:Addr) (wv:Nat→V) (H':Hp),af H H'→H D=none→dC H' D n wv→(∀i,i<n→aJ X H' q (wv i) (S i m) (R i))→Q (.ref D) H'
def kT(H:Hp)(q:Int)(n:Nat)(vf:Nat→Nat→V):Prop:=∀i j,i<n→j<n→∃x m,a_ 1000 H q (vf i j) x m∧lX q x m
variable {v:V}
theorem a_.yN{B:Nat}{x m:Int}{T:Addr}(h:a_ B H q v x m)(t:b_ H T)(o:bh T H H'):a_ B H' q v x m:=by
 obtain ⟨z,ez⟩:=t;cases h with
 | ba ep l bx bm=>exact .ba (o _ _ (fun zz=>by rw [zz,ez] at ep;cases ep) ep) l bx bm
 | rem a b c=>exact .rem a b c
theorem VO(hq:a9 q){Y:Nat}(h:aJ Y H q v 1 1):∃x m,a_ 1000 H q v x m∧lX q x m:=by
 by_cases q0:q=0
 ·obtain ⟨x,m,g1,g2,g3⟩:=Lv h (by decide) (by decide) q0
  exact ⟨x,m,g1,fun _=>⟨aH g2 (by decide),kr g3 (by decide)⟩⟩
 ·obtain ⟨x,m,g1,_⟩:=h.bd (Y:=1000) (by decide) (by decide)
  exact ⟨x,m,g1,fun z=>absurd z q0⟩
def VP:Sp:=fun vs H Q _=>∃(td T lk:Addr) (q:Int) (n:Nat) (us:List V) (L:cb),vs=[.ref td,.ref T,.int (n:Int),.ref lk]∧d8 H td q∧a9 q∧b_ H T∧n≤60∧lk≠T∧H lk=some (.lst us)∧cW H us L∧(∀z∈L,0≤z.1∧z.1<z.2∧z.2<(n:Int)) ∧
 ∀(D:Addr) (rs:Nat→Addr) (vf:Nat→Nat→V) (H':Hp),bh T H H'→b_ H' T→H D=none→(∀i,i<n→H (rs i)=none)→WTab H' D n rs vf→kT H' q n vf→Q (.ref D) H'
def nT(N:aO)(k i j:Nat):Int:=aF N (cG k) (N i) j
def nU(N:aO)(E:Nat→Int)(k i:Nat)(_:Nat):Int:=E i*aA N (cG k)
structure iI (q:Int) (B m k:Nat) (N:aO) (E:Nat→Int) (N0:aO):Prop where
 good:cf q N (cG k)
 rows:VE m N N0
 bN:∀i j,(N i j).natAbs≤B
 bE:∀i,(E i).natAbs≤B
 nE:∀i,¬q∣E i
section
variable {q:Int} {B X n m k b:Nat} {N N0:aO} {E:Nat→Int} {H H':Hp} {vf:Nat→Nat→V}
theorem iI.swap(h:iI q B m k N E N0)(kb:k≤b)(hb:b<m):iI q B m k (cw k b N) (cw k b E) N0:=
 ⟨LA (fun r hr=>FC (jG.mp hr) kb) h.good,fun P=>(FE (show k<m by lia) hb).trans (h.rows P),fun i j=>(FD (P:=fun r:Nat→Int=>∀j,(r j).natAbs≤B) h.bN i) j,fun i=>FD (P:=fun r:Int=>r.natAbs≤B) h.bE i,fun i=>FD (P:=fun r:Int=>¬q∣r) h.nE i⟩
theorem LG(kb:k≤b)(i j:Nat):nT (cw k b N) k i j=cw k b (fun i=>nT N k i j) i:=by
 unfold nT;rw [Lz (N:=N) (fun r hr=>FC (jG.mp hr) kb)];unfold cw
 split
 ·rfl
 ·split <;> rfl
theorem VQ(kb:k≤b)(i j:Nat):nU (cw k b N) (cw k b E) k i j=cw k b (fun i=>nU N E k i j) i:=by
 unfold nU;rw [VD (N:=N) (fun r hr=>FC (jG.mp hr) kb)];unfold cw
 split
 ·rfl
 ·split <;> rfl
theorem gA.swap(h:gA X H q k m vf (nT N k) (nU N E k))(kb:k≤b)(hb:b<m)(kk:∀v t u,aJ X H q v t u→aJ X H' q v t u):gA X H' q k m (cw k b vf) (nT (cw k b N) k) (nU (cw k b N) (cw k b E) k):=fun i j a c d e=>by
 rw [LG kb,VQ kb];unfold cw
 split
 ·exact kk _ _ _ (h b j kb hb d e)
 ·split
  ·exact kk _ _ _ (h k j (aK _) (by lia) d e)
  ·exact kk _ _ _ (h i j a c d e)
theorem iI.next(h:iI q B m k N E N0)(p:¬q∣nT N k k k):iI q B m (k+1) N E N0:=⟨⟨h.good,p⟩,h.rows,h.bN,h.bE,h.nE⟩
theorem uI(h:iI q B m k N E N0)(b1:1≤B)(kn:k≤n)(i j:Nat):(nT N k i j).natAbs≤di n B:=aH (Lf h.bN (h.bN i)) (by rw [Fz];exact qE b1 (by lia))
theorem LH(h:iI q B m k N E N0)(b1:1≤B)(kn:k≤n):(aA N (cG k)).natAbs≤di n B:=aH (Lg h.bN) (by rw [Fz];exact qE b1 (by lia))
theorem VR(h:iI q B m k N E N0)(b1:1≤B)(kn:k≤n)(i j:Nat):(nT N k i j).natAbs≤bJ n B:=aH (uI h b1 kn i j) (kP b1)
theorem VS(h:iI q B m k N E N0)(b1:1≤B)(kn:k≤n)(i j:Nat):(nU N E k i j).natAbs≤bJ n B:=(lV b1 (LH h b1 kn) (h.bE i)).2
theorem FG(hq:a9 q)(h:iI q B m k N E N0)(i j:Nat):¬q∣nU N E k i j:=dh hq (h.nE i) (iY hq h.good)
theorem VT(hq:a9 q)(h:iI q B m k N E N0)(i j:Nat):Cg q ((nT N k i j*(E i*nT N k k k*aA N (cG k))-nT N k i k*nT N k k j*nU N E k i j)*nU N E (k+1) i j) (nT N (k+1) i j*(nU N E k i j*(E i*nT N k k k*aA N (cG k)))):=by
 have st:=yG hq h.good k (N i) j;unfold nU;have e:aA N (cG (k+1))=nT N k k k:=rfl;have e2:aF N (k::cG k) (N i) j=nT N (k+1) i j:=rfl;rw [e];rw [e2] at st;have st:nT N k k k*nT N k i j-nT N k i k*nT N k k j=aA N (cG k)*nT N (k+1) i j:=st;generalize nT N k i j=x at st ⊢;generalize nT N k i k=y at st ⊢;generalize nT N k k j=w at st ⊢;generalize nT N k k k=p at st ⊢;generalize nT N (k+1) i j=x' at st ⊢;generalize aA N (cG k)=d at st ⊢;refine Cg.of_eq ?_;have e:(x*(E i*p*d)-y*w*(E i*d))*(E i*p)=E i*d*(p*x-y*w)*(E i*p):=by grind
 rw [e,st];grind
end
theorem LI{M:aO}{ps:List Nat}(hm:m=ps.length)(nd:ps.Nodup):yP q M ps↔∃y:Nat→Int,(∃j,j<m∧¬q∣y j)∧∀i,i<m→q∣((List.range m).map fun j=>M (ps.getD i 0) (ps.getD j 0)*y j).sum:=by
 have ee:∀F:Nat→Int,(ps.map F).sum=((List.range m).map fun j=>F (ps.getD j 0)).sum:=fun F=>by
  congr 1
  refine gQ (by simp [hm]) fun j h1 h2=>?_
  have hj:j<ps.length:=by simpa using h1
  rw [gF,gF,jh,getD_at hj]
 constructor
 ·rintro ⟨y,⟨c,hc,nc⟩,h⟩
  obtain ⟨j,hj,e⟩:=xO hc;refine ⟨fun j=>y (ps.getD j 0),⟨j,by lia,by dsimp only;rw [getD_at hj,e];exact nc⟩,fun i hi=>?_⟩
  have cR:i<ps.length:=by lia
  have:=h (ps.getD i 0) (by rw [getD_at cR];exact dN _)
  rwa [ee] at this
 ·rintro ⟨y,⟨j,hj,nj⟩,h⟩
  have du:j<ps.length:=by lia
  have Bx:∀j,j<m→ps.idxOf (ps.getD j 0)=j:=fun j hj=>by
   have du:j<ps.length:=by lia
   rw [getD_at du];exact g8 nd du
  refine ⟨fun c=>y (ps.idxOf c),⟨ps.getD j 0,by rw [getD_at du];exact dN _,by dsimp only;rw [Bx j hj];exact nj⟩,fun r hr=>?_⟩
  obtain ⟨i,hi,e⟩:=xO hr;have:=h i (by lia)
  rw [getD_at hi,e] at this;rw [ee]
  rwa [show ((List.range m).map fun j=>M r (ps.getD j 0)*y (ps.idxOf (ps.getD j 0)))=(List.range m).map fun j=>M r (ps.getD j 0)*y j from h_ fun j hj=>by rw [Bx j (eW.mp hj)]]
def VU:Sp:=fun vs H Q _=>∃(lt a:Addr) (n:Nat) (us:List V) (L:cb) (o:List Nat),vs=[.int (n:Int),.ref lt,.ref a]∧H lt=some (.lst us)∧cW H us L∧yE n L∧n≤12∧L.length≤400∧L.Nodup∧(∀z∈L,z.1<z.2)∧H a=some (.lst (nI o))∧o.Perm (List.range n) ∧
 ∀(H':Hp) (D:Addr) (rs:Nat→Addr) (g:Nat→List Nat),af H H'→oP H' D n rs g→(∀p,p<n→fb n o p (g p)∧eM n L o p (g p))→Q (.ref D) H'
end My
namespace L2
open PySem PySem.Spec PyProof.Rows
section
variable {X:Cx} {tg:Expr}
def uJ(c lo:Int)(n:Nat):It:=⟨fun i _=>i<n,fun i H x H'=>H'=H∧x=.int (lo+i*c),fun i _=>n≤i⟩
theorem VV{P:Program}{w:World}{K:aD}(it:Addr)(c lo:Int)(n:Nat):Turn P w K tg (uJ c lo n) [it] it (fun i h=>IsRangeIter h it (lo+(i:Nat)*c) ((n:Int)-(i:Nat)) c) where
 mem:=by simp
 obj:=fun i h st b hb=>by
  have e:b=it:=by simpa using hb
  subst e;exact ⟨_,st,fun v z=>by have z':Data.fields _=Data.cell v:=z;cases z'⟩
 keep:=fun i h h' st k=>k it (by simp) _ st
 item:=by
  intro X hP hw hK hc i pins s σ H E I hf st hg;subst hP hw hK;obtain ⟨f0,f1,f2,f3,f4,f5⟩:=hf it (by simp)
  have W:=Walks.range (prog:=X.prog) (w:=X.w) (I.ok.hd hc) it lo c n;refine W.item i s _ _ hg st fun v h' tk hv gG kk=>?_;obtain ⟨t,rfl⟩:=hv;have I1:Inv X pins σ H {s with heap:=h',toks:=tk}:=I.turned (fun b o hb e=>kk b o (by simpa using hb) e) f0 f1 f3 f4 f5
  refine ⟨_,rfl,t8 (s:={s with heap:=h',toks:=tk}) (n:="range_iterator") gG rfl rfl (by decide) ⟨.int (lo+i*c),H,I1,⟨t,rfl⟩,⟨rfl,rfl⟩,gG,fun b hb=>(hf b hb).1⟩⟩
 done:=by
  intro X hP hw hK hc i pins s σ H E I hf st hg;subst hP hw hK;obtain ⟨f0,f1,f2,f3,f4,f5⟩:=hf it (by simp)
  exact wpAny_pyNext_range_end (I.ok.hd hc) st (by have:n≤i:=hg;lia) fun h' eb=>⟨rfl,I.turned (t':=s.toks) (fun b o hb e=>eb b o hb e) f0 f1 f3 f4 f5⟩
 self:=fun _ _ _ _ _ st h=>wpAny_pyIter_rangeiter st h
variable {σ:St} {H:Hp} {c lo:Int}
theorem VW{pins:a7}{s:Shared}{R:It→Hp→Prop}{E:aX}{hi:Int}(c0:0<c){t u v:Tok}{tk:Nat}(I:Inv X pins σ H s)(VX:Builtin.Range.small lo hi c=true)
  (q:R (uJ c lo (Builtin.Range.rangeSize lo hi c).toNat) H):wpAny (model X.prog X.w) X.A (pyIter (.ref s.heap.objs.size)) (Ar X pins σ tg R) E {s with heap:=s.heap.push {cls:=.type "range",data:=.fields #[.int lo t,.int hi u,.int c v]},toks:=tk}:=by
 refine wpAny_pyIter_range (IsRange.new ..) VX ?_;have I1:Inv X pins σ H {s with heap:=s.heap.push {cls:=.type "range",data:=.fields #[.int lo t,.int hi u,.int c v]},toks:=tk}:=I.kept fun b o e=>cL _ e
 refine ⟨(s.heap.push {cls:=.type "range",data:=.fields #[.int lo t,.int hi u,.int c v]}).objs.size,[(s.heap.push {cls:=.type "range",data:=.fields #[.int lo t,.int hi u,.int c v]}).objs.size],_,_,H,rfl,
  I1.kept (t':=tk) fun b o e=>cL _ e,VV _ c lo (Builtin.Range.rangeSize lo hi c).toNat,?_,fun b hb=>?_,q⟩
 ·have e1:lo+((0:Nat):Int)*c=lo:=by simp
  have e2:(((Builtin.Range.rangeSize lo hi c).toNat:Nat):Int)-((0:Nat):Int)=Builtin.Range.rangeSize lo hi c:=by
   have:0≤Builtin.Range.rangeSize lo hi c:=by
    unfold Builtin.Range.rangeSize;rw [ar c0]
    split
    ·have:=Ag (show 0≤hi-lo-1 by lia) (Int.le_of_lt c0)
     lia
    ·lia
   lia
  show IsRangeIter _ _ (lo+((0:Nat):Int)*c) ((((Builtin.Range.rangeSize lo hi c).toNat:Nat):Int)-((0:Nat):Int)) c;rw [e1,e2];exact fm _ rfl
 ·have e:b=(s.heap.push {cls:=.type "range",data:=.fields #[.int lo t,.int hi u,.int c v]}).objs.size:=by simpa using hb
  subst e;exact I1.p9 (aK _) (I1.aG.fresh (aK _))
theorem VY{a b:Int}(c0:0<c)(c1:c≤1000)(h1:-(2 ^ 61)≤a)(h2:a<2 ^ 61)(h3:-(2 ^ 61)≤b)(h4:b<2 ^ 61):Builtin.Range.small a b c=true:=by
 have f:∀{x:Int},-(2 ^ 63)≤x→x<2 ^ 63→Builtin.Range.rangeFitsLong x=true:=fun{x} h1 h2=>by unfold Builtin.Range.rangeFitsLong;simp;lia
 have e:0≤Builtin.Range.rangeSize a b c∧Builtin.Range.rangeSize a b c<2 ^ 63:=by
  unfold Builtin.Range.rangeSize;rw [ar c0]
  split
  ·have g1:=Ag (show 0≤b-a-1 by lia) (Int.le_of_lt c0)
   have g2:=Int.ediv_le_self c (show 0≤b-a-1 by lia)
   lia
  ·lia
 unfold Builtin.Range.small;rw [f (x:=a) (by lia) (by lia),f (x:=b) (by lia) (by lia),f (x:=c) (by lia) (by lia),f (x:=Builtin.Range.rangeSize a b c) (by lia) (by lia),ar c0,f (x:=b+(c-1)) (by lia) (by lia)]
 simp
def VZ(ta:TA):TI:=fun σ H R=>ta σ H fun vs H1=>∃i j c:Int,vs=[.int i,.int j,.int c]∧(0<c∧c≤1000∧-(2 ^ 61)≤i∧i<2 ^ 61∧-(2 ^ 61)≤j∧j<2 ^ 61)∧R (uJ c i (Builtin.Range.rangeSize i j c).toNat) H1
theorem V0{a b c:Expr}{ta:TA}{p pos:Pos}(hg:Gl X "range")(hm:X.mg "range"=none)(ha:PA X [a,b,c] ta)(hs:starEach [a,b,c] X.env=[(false,eval a X.env),(false,eval b X.env),(false,eval c X.env)]:=by rfl)(lD:starEach [b,c] X.env=[(false,eval b X.env),(false,eval c X.env)]:=by rfl) :
  PI X tg (.Call (.Name "range" p) [a,b,c] [] pos) (VZ ta):=by
 intro pins s σ H R I h;refine Call_ (n8 I hg hm boot_range (tS (aS (ha pos pins s σ H _ I h) fun us s1 ⟨vs,H1,I1,r1,q1⟩=>?_) (by rw [hs,lD]) (by rw [lD];rfl)))
 obtain ⟨i,j,c,e,⟨c0,c1,q1,q2,q3,q4⟩,q⟩:=q1;subst e;cases r1 with
 | cons r rr=>
  cases rr with
  | cons r' rr=>
   cases rr with
   | cons r3 rr=>
    cases rr;obtain ⟨t,rfl⟩:=r;obtain ⟨t',rfl⟩:=r';obtain ⟨t3,rfl⟩:=r3;refine call_range_3 (by lia) (VW c0 I1 (VY c0 c1 q1 q2 q3 q4) q) (.inl ?_)
    have z:decide ((if (c == 0)=true then 0 else c.natAbs.log2 / 30+1)>300)=false:=by
     refine c_ ?_
     split
     ·lia
     ·have:=Nat.log2_le_self c.natAbs
      have h:c.natAbs.log2≤1000:=by lia
      lia
    unfold Builtin.divisionGoesByPylong;dsimp only;rw [z];rfl
theorem V1{n:Nat}{g:TG}{tb:TS}{D:Ends}(Pv:Nat→St→Hp→Prop)(h0:Pv 0 σ H)
  (hs:∀i σ H,i<n→Pv i σ H→g (.int (lo+i*c)) σ H fun σ2 H2=>tb {D with nx:=Pv (i+1),ct:=Pv (i+1),bk:=D.nx} σ2 H2) (hd:∀σ H,Pv n σ H→D.nx σ H) :
  ∃W:Nat→Nat→St→Hp→Prop,(∃m,W 0 m σ H)∧∀i m σ H,W i m σ H→
   ((uJ c lo n).stop i H∧D.nx σ H)∨((uJ c lo n).go i H∧∃N:St→Hp→Prop,(∀σ' H',N σ' H'→∃m',m'<m∧W (i+1) m' σ' H')∧∀x H',(uJ c lo n).gk i H x H'→g x σ H' fun σ2 H2=>tb {D with nx:=N,ct:=N,bk:=D.nx} σ2 H2):=by
 refine ⟨fun i m σ H=>m=n-i∧i≤n∧Pv i σ H,⟨n,by simp,ck _,h0⟩,?_⟩
 rintro i m σ H ⟨rfl,hi,p⟩;by_cases cu:i<n
 ·refine .inr ⟨cu,Pv (i+1),fun σ' H' p'=>⟨n-(i+1),by lia,rfl,cu,p'⟩,fun x H' y=>?_⟩
  obtain ⟨e,y⟩:=y;subst e y;exact hs i σ _ cu p
 ·have e:i=n:=by lia
  subst e;exact .inl ⟨aK _,hd σ H p⟩
end
end L2
namespace My
open PySem L2
def qG(q x m:Int):Prop:=(q=0→x.natAbs≤3∧m∣6∧0<m)∧(q≠0→0≤x∧x<q∧q≤997∧m=1)
variable {H:Hp} {q x m:Int} {v:V} {B:Nat}
theorem LJ(h:a_ B H q v x m)(s:lX q x m):qG q x m:=by
 cases h with
 | ba e l bx bm=>exact ⟨fun z=>⟨(s z).1,(s z).2,l.pos⟩,fun z=>absurd rfl z⟩
 | rem a b c=>exact ⟨fun z=>by lia,fun _=>⟨a,b,c,rfl⟩⟩
def d9(q:Int)(n:Nat)(f:Nat→Nat→Int×Int):Nat→Nat→Int:=fun i j=>if i<n∧j≤n then (if q=0 then (f i j).1*(6 / (f i j).2) else (f i j).1) else 0
def i4(q:Int):Nat→Int:=fun _=>if q=0 then 6 else 1
section
variable {q:Int} {n:Nat} {f:Nat→Nat→Int×Int} {H:Hp}
theorem oT(h:∀i j,i<n→j≤n→qG q (f i j).1 (f i j).2)(i j:Nat):(d9 q n f i j).natAbs≤997:=by
 unfold d9
 split
 ·rename_i Ap
  have hs:=h i j Ap.1 Ap.2
  split
  ·rename_i z
   obtain ⟨h1,⟨c,hc⟩,h3⟩:=hs.1 z;have e:6 / (f i j).2=c:=by rw [hc];exact jc _ (by lia)
   have c6:c.natAbs≤6:=by
    have:(6:Int).natAbs=(f i j).2.natAbs*c.natAbs:=by rw [←fH,←hc]
    have m1:1≤(f i j).2.natAbs:=by lia
    have:=ji c.natAbs m1;have e6:(6:Int).natAbs=6:=rfl;lia
   rw [e,fH];exact aH (fU h1 c6) (by decide)
  ·rename_i z
   have:=hs.2 z;lia
 ·decide
theorem lY(i:Nat):(i4 q i).natAbs≤997:=by unfold i4;split <;> decide
theorem uK(hq:a9 q)(i:Nat):¬q∣i4 q i:=by
 unfold i4
 split
 ·rename_i z
  rw [z];intro d;have:=eX.mp d;lia
 ·exact yB hq
variable {i j:Nat}
theorem FH(h:∀i j,i<n→j≤n→qG q (f i j).1 (f i j).2)(hi:i<n)(hj:j≤n):q∣(f i j).1*i4 q i-d9 q n f i j*(f i j).2:=by
 have hs:=h i j hi hj;have e1:d9 q n f i j=if q=0 then (f i j).1*(6 / (f i j).2) else (f i j).1:=by unfold d9;rw [ar ⟨hi,hj⟩]
 rw [e1];unfold i4
 split
 ·rename_i z
  obtain ⟨h1,⟨c,hc⟩,h3⟩:=hs.1 z;have e:6 / (f i j).2=c:=by rw [hc];exact jc _ (by lia)
  rw [e];exact ⟨0,by rw [hc];grind⟩
 ·rename_i z
  rw [(hs.2 z).2.2.2];exact ⟨0,by grind⟩
theorem V2(z:(f i j).1=0):d9 q n f i j=0:=by
 unfold d9
 split
 ·split
  ·rw [z,gh]
  ·exact z
 ·rfl
theorem By:∀n,n≤9→1000≤bJ n 997∧bJ n 997≤10 ^ 100:=fun n hn=>(show ∀n∈List.range 10,1000≤bJ n 997∧bJ n 997≤10 ^ 100 by decide +kernel) n (eW.mpr (by lia))
def gc(n m:Nat)(f:Nat→Nat→Int×Int):List (List (Int×Int)):=(List.range n).map fun i=>(List.range m).map (f i)
theorem LK{m:Nat}(hi:i<n)(hj:j<m):atT (gc n m f) i j=f i j:=by
 unfold atT gc;have h1:i<((List.range n).map fun i=>(List.range m).map (f i)).length:=by simpa using hi
 have h2:j<((List.range m).map (f i)).length:=by simpa using hj
 rw [getD_at h1,gF,jh,getD_at h2,gF,jh]
theorem FI{m:Nat}:(gc n m f).length=n:=by unfold gc;simp
theorem FJ{m:Nat}:∀ps∈gc n m f,ps.length=m:=fun ps h=>by unfold gc at h;obtain ⟨i,_,rfl⟩:=jg.mp h;simp
variable {a:Addr}
theorem FK{m:Nat}{lv:Nat→V}{f:Nat→Int×Int}(h:dC H a m lv)(k:∀j,j<m→a_ B H q (lv j) (f j).1 (f j).2):qw B H q a ((List.range m).map f):=by
 refine ⟨_,h,by simp,fun i v p h1 h2=>?_⟩
 have hi:i<m:=by have:=(bQ.mp h1).1;simpa using this
 rw [cz,hV hi] at h1 h2;cases h1;cases h2;exact k i hi
variable {vf:Nat→Nat→V}
theorem FL{m:Nat}{ra:Nat→Addr}(h:oS H a n m ra vf)(k:∀i j,i<n→j<m→a_ B H q (vf i j) (f i j).1 (f i j).2):jD B H q a (gc n m f):=by
 refine ⟨_,h.lst,by unfold gc;simp,fun i v ps h1 h2=>?_⟩
 have hi:i<n:=by have:=(bQ.mp h1).1;simpa using this
 unfold gc at h2;rw [cz,hV hi] at h1 h2;cases h1;cases h2;exact ⟨ra i,rfl,FK (h.at' i hi) fun j hj=>k i j hi hj⟩
theorem WTab.r{rs:Nat→Addr}(h:WTab H a n rs vf):oS H a n n rs vf:=⟨h.lst,h.at'⟩
end
variable {ah:dP} {n:Nat}
theorem V3:aL n (gz ah n)=aL n (dr n (b5 ah) n):=by
 have mm:∀{z:Int×Int},z∈gz ah n↔z∈dr n (b5 ah) n:=fun{z}=>by
  rw [Fx];constructor
  ·rintro ⟨i,j,rfl,h1,h2,h3⟩
   exact Bg h1 h2 h3 (by lia)
  ·intro h
   obtain ⟨i,j,_,h2,h3,h4,rfl⟩:=mem_of h;exact ⟨i,j,rfl,h2,h3,h4⟩
 funext a b
 unfold aL;rw [mm,mm]
theorem LL:∀{l l':List Nat},l.Pairwise (· < ·)→l'.Pairwise (· < ·)→(∀x,x∈l↔x∈l')→l=l'
 | [],[],_,_,_=>rfl
 | [],y::l',_,_,h=>by have:=(h y).mpr (fQ ..);simp at this
 | x::l,[],_,_,h=>by have:=(h x).mp (fQ ..);simp at this
 | x::l,y::l',p,p',h=>by
  rw [List.pairwise_cons] at p p';have e:x=y:=by
   rcases cx.mp ((h x).mp (fQ ..)) with h1 | h1;·exact h1
   ·rcases cx.mp ((h y).mpr (fQ ..)) with h2 | h2
    ·exact h2.symm
    ·have:=p'.1 x h1
     have:=p.1 y h2;lia
  subst e;rw [LL p.2 p'.2 fun z=>?_];have hz:=h z;rw [cx,cx] at hz;constructor
  ·intro m
   rcases hz.mp (.inr m) with e | e;·have:=p.1 z m;lia
   ·exact e
  ·intro m
   rcases hz.mpr (.inr m) with e | e;·have:=p'.1 z m;lia
   ·exact e
variable {L L':cb} {o:List Nat}
theorem V4{p:Nat}{ms FN:List Nat}(e:aL n L=aL n L')(h:fb n o p ms∧eM n L o p ms)(h':fb n o p FN∧eM n L' o p FN):ms=FN:=
 LL h.1.up h'.1.up fun x=>by rw [h.2 x,h'.2 x,e]
theorem V5{g g':Nat→List Nat}(e:aL n L=aL n L')(h:∀p,p<n→fb n o p (g p)∧eM n L o p (g p))(h':∀p,p<n→fb n o p (g' p)∧eM n L' o p (g' p)):ke n g=ke n g':=by
 unfold ke
 congr 1
 refine h_ fun p hp=>?_;rw [V4 e (h p (eW.mp hp)) (h' p (eW.mp hp))]
inductive fF (H:Hp) (f:Addr) (q:Int) (X n:Nat) (o:List Nat) (M:aO) (L:cb) (r:Addr) (lv:Nat→V) (at':Nat):Prop where
 | one (g:Nat→List Nat):cf q M (cO o n)→(∀p,p<n→fb n o p (g p)∧eM n L o p (g p))→H f=some (.tup [.str (Str.ofString "one"),.ref r,.int (ke n g:Int)])→dC H r n lv→(∀i,i<n→aJ X H q (lv i) (cQ M (cO o n) n i) (aA M (cO o n)))→at'=1→fF H f q X n o M L r lv at'
 | iJ (k:Nat) (hk:k<o.length):cf q M (cO o k)→q∣aF M (cO o k) (M o[k]) o[k]→H f=some (.tup [.str (Str.ofString "stops"),.int ((k:Int)+1),.ref r])→dC H r n lv→(∀i,i<n→aJ X H q (lv i) (cF M o k o[k] i) (aA M (cO o k)))→at'=2→fF H f q X n o M L r lv at'
variable {H':Hp} {X:Nat} {M:aO} {lv:Nat→V}
theorem fF.mono{f:Addr}{r:Addr}{at':Nat}(h:fF H f q X n o M L r lv at')(s:af H H'):fF H' f q X n o M L r lv at':=by
 cases h with
 | one g a b c d e z=>exact .one g a b (s _ _ c) (s _ _ d) (fun i hi=>(e i hi).mono s) z
 | iJ k hk a b c d e z=>exact .iJ k hk a b (s _ _ c) (s _ _ d) (fun i hi=>(e i hi).mono s) z
section
variable {q:Int} {M:aO} {o:List Nat} {n k k':Nat}
theorem LM(ho:o.length=n)(hk:k<o.length)(fO:k'<o.length)(g:cf q M (cO o k))(d:q∣aF M (cO o k) (M o[k]) o[k])(g':cf q M (cO o k'))(d':q∣aF M (cO o k') (M o[k']) o[k']):k=k':=by
 rcases Nat.lt_trichotomy k k' with h | h | h
 ·have:=lU g' (show k+1≤k' by lia)
  rw [kM hk] at this;exact absurd d this.2
 ·exact h
 ·have:=lU g (show k'+1≤k by lia)
  rw [kM fO] at this;exact absurd d' this.2
theorem Bz(ho:o.length=n)(hk:k<o.length)(d:q∣aF M (cO o k) (M o[k]) o[k])(g:cf q M (cO o n)):False:=by
 have:=lU g (show k+1≤n by lia)
 rw [kM hk] at this;exact this.2 d
end
variable {Y:Nat} {v':V}
theorem BA(hq:a9 q){T U T' U':Int}(h:aJ X H q v T U)(h':aJ Y H q v' T' U')(e:Cg q (T*U') (T'*U)):∃x m,a_ X H q v x m∧a_ Y H q v' x m:=by
 have h2:=h.eq hq e h'.choose_spec.choose_spec.2.2;obtain ⟨x,m,a1,a2,a3⟩:=h2;obtain ⟨x',m',b1,b2,b3⟩:=h';have c:Cg q (x*m') (x'*m):=by
  have c1:Cg q (U'*(x*m')) (U'*(x'*m)):=by have d1:Cg q (m'*(x*U')) (m'*(T'*m)):=Cg.mulL m' a2;have d2:Cg q (m*(x'*U')) (m*(T'*m')):=Cg.mulL m b2;exact (Cg.of_eq (by grind)).trans (d1.trans ((Cg.of_eq (by grind)).trans (d2.symm.trans (Cg.of_eq (by grind)))))
  have c2:Cg q (U'*(x*m'-x'*m)) 0:=(Cg.of_eq (by grind)).trans ((c1.sub (Cg.refl _)).trans (Cg.of_eq (nW _)))
  have:=yC hq a3 c2;unfold Cg at this ⊢
  rwa [ku] at this
 cases a1 with
 | ba ea la _ _=>
  cases b1 with
  | ba eb lb bx bm=>
   have e:x*m'=x'*m:=by unfold Cg at c;have:=eX.mp c;lia
   obtain ⟨e1,e2⟩:x=x'∧m=m':=by have u1:=Kl la lb.pos e;have u2:=Kl lb lb.pos rfl;exact ⟨u1.1.trans u2.1.symm,u1.2.trans u2.2.symm⟩
   subst e1 e2;exact ⟨x,m,.ba ea la (by assumption) (by assumption),.ba eb lb bx bm⟩
  | rem=>lia
 | rem a b d=>
  cases b1 with
  | ba=>lia
  | rem a' b' d'=>
   have:x=x':=by
    rw [fS,fS] at c;obtain ⟨k,hk⟩:=c;have:k=0:=by
     rcases Int.lt_trichotomy k 0 with z | z | z
     ·have:q*k≤q*(-1):=tW (by lia) (by lia)
      lia
     ·exact z
     ·have:q*1≤q*k:=tW (by lia) (by lia)
      lia
    rw [this,gE] at hk;lia
   subst this;exact ⟨x,1,.rem a b d,.rem a' b' d'⟩
variable {K:aD}
theorem qH(h:a_ X H q v x m)(h':a_ Y H q v' x m):oK K H 1 v v':=by
 cases h with
 | ba e l _ _=>
  cases h' with
  | ba e' l' _ _=>exact .inr ⟨_,_,_,_,rfl,rfl,.inr ⟨.of e,.of e'⟩,rfl,fun j x y hx hy=>by
    rw [hx] at hy;cases hy
    match j,hx with
    | 0,hx=>cases hx;exact ⟨rfl,rfl⟩
    | 1,hx=>cases hx;exact ⟨rfl,rfl⟩
    | j+2,hx=>simp at hx⟩
  | rem a b d=>lia
 | rem a b d=>
  cases h' with
  | ba=>lia
  | rem=>exact .inl ⟨rfl,rfl⟩
structure i5 (H:Hp) (q:Int) (tab od am:Addr) (n:Nat) (o:List Nat) (rs:Nat→Addr) (vf:Nat→Nat→V) (av:Nat→V) (f:Nat→Nat→Int×Int):Prop where
 tab:WTab H tab n rs vf
 ord:H od=some (.lst (bg o))
 gB:o.Perm (List.range n)
 kU:dC H am n av
 num:∀i j,i<n→j<n→a_ 1000 H q (vf i j) (f i j).1 (f i j).2
 BB:∀i,i<n→a_ 1000 H q (av i) (f i n).1 (f i n).2
 sm:∀i j,i<n→j≤n→qG q (f i j).1 (f i j).2
variable {tab od am:Addr} {rs:Nat→Addr} {vf:Nat→Nat→V} {av:Nat→V} {f:Nat→Nat→Int×Int}
theorem i5.mono(h:i5 H q tab od am n o rs vf av f)(s:af H H'):i5 H' q tab od am n o rs vf av f:=
 ⟨h.tab.mono s,s _ _ h.ord,h.gB,s _ _ h.kU,fun i j hi hj=>(h.num i j hi hj).mono s,fun i hi=>(h.BB i hi).mono s,h.sm⟩
def V6(K:aD):Sp:=fun vs H Q _=>∃(sc:Addr) (ns:List Int) (k:Nat),vs=[.ref sc,.int (k:Int)]∧bU K H sc (ns.map V.int)∧k≤900 ∧
 ∀(tp td tab od am:Addr) (q:Int) (n:Nat) (o:List Nat) (rs:Nat→Addr) (vf:Nat→Nat→V) (av:Nat→V) (f:Nat→Nat→Int×Int) (H':Hp),af H H'→H' tp=some (.tup [.ref td,.ref tab,.ref od,.ref am])→d8 H' td q→a9 q→1≤n→n≤6→i5 H' q tab od am n o rs vf av f→H tab=none→H od=none→H am=none→(∀i,i<n→H (rs i)=none)→Q (.ref tp) H'
theorem V7(h1:kT H q n vf)(h2:∀i,i<n→∃x m,a_ 1000 H q (av i) x m∧lX q x m):∃f:Nat→Nat→Int×Int,(∀i j,i<n→j<n→a_ 1000 H q (vf i j) (f i j).1 (f i j).2)∧(∀i,i<n→a_ 1000 H q (av i) (f i n).1 (f i n).2)∧∀i j,i<n→j≤n→qG q (f i j).1 (f i j).2:=by
 have g1:∀i j,i<n→j<n→∃p:Int×Int,a_ 1000 H q (vf i j) p.1 p.2∧qG q p.1 p.2:=fun i j hi hj=>let ⟨x,m,a,b⟩:=h1 i j hi hj;⟨(x,m),a,LJ a b⟩
 have g2:∀i,i<n→∃p:Int×Int,a_ 1000 H q (av i) p.1 p.2∧qG q p.1 p.2:=fun i hi=>let ⟨x,m,a,b⟩:=h2 i hi;⟨(x,m),a,LJ a b⟩
 refine ⟨fun i j=>if h:i<n then (if h':j<n then (g1 i j h h').choose else (g2 i h).choose) else (0,1),fun i j hi hj=>?_,fun i hi=>?_,fun i j hi hj=>?_⟩
 ·dsimp only
  rw [k_ hi,k_ hj];exact (g1 i j hi hj).choose_spec.1
 ·dsimp only
  rw [k_ hi,dif_neg (by lia)]
  exact (g2 i hi).choose_spec.1
 ·dsimp only
  rw [k_ hi];by_cases h:j<n
  ·rw [k_ h]
   exact (g1 i j hi h).choose_spec.2
  ·rw [dif_neg h]
   exact (g2 i hi).choose_spec.2
section
variable {H:Hp} {q:Int} {tab od am:Addr} {n:Nat} {o:List Nat} {rs:Nat→Addr} {vf:Nat→Nat→V} {av:Nat→V} {f:Nat→Nat→Int×Int}
variable {i:Nat}
theorem i5.kN(hq:a9 q)(h:i5 H q tab od am n o rs vf av f){j:Nat}(hi:i<n)(hj:j<n):aJ 997 H q (vf i j) (d9 q n f i j) (i4 q i):=Bs (h.num i j hi hj) (FH h.sm hi (by lia)) (uK hq i) (oT h.sm i j) (lY i)
theorem i5.FO(hq:a9 q)(h:i5 H q tab od am n o rs vf av f)(hi:i<n):aJ 997 H q (av i) (d9 q n f i n) (i4 q i):=Bs (h.BB i hi) (FH h.sm hi (aK _)) (uK hq i) (oT h.sm i n) (lY i)
theorem i5.dG(hq:a9 q)(h:i5 H q tab od am n o rs vf av f)(n9:n≤9):Br q n (bJ n 997) (gc n n f) o (d9 q n f) (i4 q):=
 Vh (by decide) (oT h.sm) lY (fM h.gB) (fun i j hi hj=>by rw [LK hi hj];exact FH h.sm hi (by lia)) (uK hq) (fun i j hi hj z=>V2 (by rw [LK hi hj] at z;exact z)) (By n n9).1 (By n n9).2
theorem i5.V8(h:i5 H q tab od am n o rs vf av f):jD 1000 H q tab (gc n n f):=FL h.tab.r h.num
end
def V9:Sp:=fun vs H Q _=>∃(td tab od am fd r:Addr) (q:Int) (n at':Nat) (o:List Nat) (rs:Nat→Addr) (vf:Nat→Nat→V) (av lv:Nat→V) (f:Nat→Nat→Int×Int),vs=[.ref td,.ref tab,.ref od,.ref am,.ref fd]∧d8 H td q∧a9 q∧1≤n∧n≤9∧i5 H q tab od am n o rs vf av f∧fF H fd q (bJ n 997) n o (d9 q n f) (dr n (b5 (gc n n f)) n) r lv at'∧∀H',af H H'→Q (.bl true) H'
variable {R:VK}
theorem V_{B':Nat}{u:V}(hv:a_ B H q v x m)(hu:a_ B' H q u x m)(k:R (.bl false) H):A4 K v u H R:=by
 cases hv with
 | ba e l bx bm=>
  cases hu with
  | ba e' l' _ _=>refine .inl ⟨_,_,_,_,rfl,rfl,.of e,.of e',rfl,rfl,?_⟩;rw [Sx];exact k
  | rem h0 h1 _=>lia
 | rem h0 h1 h2=>
  cases hu with
  | ba _ _ _ _=>lia
  | rem _ _ _=>refine .inr ⟨rfl,?_⟩;simpa using k
theorem BC{T U:Nat→Int}(h:∀i,i<n→aJ X H q (lv i) (T i) (U i)):∃fr:Nat→Int×Int,∀i,i<n→a_ X H q (lv i) (fr i).1 (fr i).2:=by
 have g:∀i,i<n→∃p:Int×Int,a_ X H q (lv i) p.1 p.2:=fun i hi=>let ⟨x,m,a,_⟩:=h i hi;⟨(x,m),a⟩
 refine ⟨fun i=>if h:i<n then (g i h).choose else (0,1),fun i hi=>?_⟩
 dsimp only;rw [k_ hi];exact (g i hi).choose_spec
theorem LN{D y:Nat→Int}{d:Int}(hq:a9 q)(b1:1≤B)(hM:∀i k,(M i k).natAbs≤B)(hD:∀i,(D i).natAbs≤B)(hy:∀c,(y c).natAbs≤di n B)(hd:d.natAbs≤di n B)(nd:¬q∣d)(nD:∀i,¬q∣D i)(X1:1000≤bJ n B)(dB:bJ n B≤10 ^ 100) :
  LF q (bJ n B) (bJ n B) n n M (fun i _=>D i) y (fun _=>d) (fun i k=>((List.range k).map fun c=>M i c*y c).sum) (fun i=>D i*d):=by
 have cB:bJ n B≤10 ^ 140:=aH dB (by decide +kernel)
 refine ⟨fun i _=>rfl,fun i k _ _=>Cg.of_eq ?_,fun i _=>dh hq (nD i) nd,fun i k _ hk=>⟨?_,(lV b1 hd (hD i)).2⟩,fun i k _ _=>⟨(lV b1 (hy k) (hM i k)).2,(lV b1 hd (hD i)).2⟩,cB,cB,X1⟩
 ·rw [nR,jf,z_,Af,List.sum_singleton]
  grind
 ·have h1:=Fq (F:=fun c=>M i c*y c) (Z:=B*di n B) (fun c=>by rw [fH];exact fU (hM i c) (hy c)) (List.range k)
  refine aH h1 ?_;rw [cC];unfold bJ;refine fU (by lia) (z8 B (ji _ (Fo b1)))
section
variable {q:Int} {M:aO} {o:List Nat} {n k:Nat}
theorem We(ho:o.Perm (List.range n))(hk:k<o.length)(r:Nat):((List.range n).map fun c=>M r c*cF M o k o[k] c).sum=aF M (cO o k) (M r) o[k]:=by
 have lo:=fM ho;have ht:o[k]<n:=(cJ ho).mp (dN hk);have it:o.idxOf o[k]=k:=g8 (e_ ho) hk;have nd:=FF ho k;have tC:o[k]∉cO o k:=fun z=>by have:=((cX ho).mp z).2;lia
 rw [Bn nd tC,qD (p:=0) (l:=o[k]::cO o k) pM (iO.mpr ⟨tC,nd⟩) (fun c hc=>eW.mpr (by
  rcases cx.mp hc with rfl | hc;·exact ht
  ·exact ((cX ho).mp hc).1)) fun c hc nc=>?_,cy,cM]
 ·have e:((cO o k).map fun c=>M r c*cF M o k o[k] c)=(cO o k).map fun c=>-1*(M r c*cQ M (cO o k) o[k] c):=h_ fun c hc=>by have h1:c≠o[k]:=fun z=>tC (z▸hc);unfold cF;rw [ao h1,ar ((cX ho).mp hc).2];grind
  rw [e,mX];unfold cF;rw [ar rfl];grind
 ·rw [cx,not_or] at nc
  have cn:=eW.mp hc;have:¬o.idxOf c<k:=fun z=>nc.2 ((cX ho).mpr ⟨cn,z⟩);unfold cF;rw [ao nc.1,ao this,gE]
theorem Wf(ho:o.Perm (List.range n)):(cO o n).Perm (List.range n):=by
 unfold cO;rw [nV (by rw [fM ho];exact aK _)]
 exact (xP _).trans ho
theorem Wg(hq:a9 q)(ho:o.Perm (List.range n))(g:cf q M (cO o n)){r:Nat}(hr:r<n):((List.range n).map fun c=>M r c*cQ M (cO o n) n c).sum=aA M (cO o n)*M r n:=by
 have pm:=Wf ho;rw [←E2 hq g (FF ho n) (fun z=>by have:=((cX ho).mp z).1;lia) (pm.mem_iff.mpr (eW.mpr hr))]
 exact (Bt (pm.map _)).symm
end
theorem Wh(ah:dP)(j i:Nat):(i3 ah j i).Nodup:=by unfold i3;refine List.Pairwise.map _ (fun a b (h:a≠b) z=>h ?_) (pM.filter _);have:=(Prod.mk.inj z).1;lia
theorem LO(ah:dP):∀j,(gz ah j).Nodup
 | 0=>by unfold gz;simp
 | j+1=>by rw [Fw];refine tZ.mpr ⟨LO ah j,Wh ah j j,fun a ha b hb z=>?_⟩;obtain ⟨i,j',rfl,_,h2,_⟩:=Fx.mp ha;unfold i3 at hb;obtain ⟨x,_,rfl⟩:=jg.mp hb;have:=(Prod.mk.inj z).2;lia
theorem LP:∀z∈gz ah n,0≤z.1∧z.1<z.2∧z.2<(n:Int):=fun z hz=>by obtain ⟨i,j,rfl,h1,h2,_⟩:=Fx.mp hz;dsimp only;lia
theorem d8.at{td:Addr}(h:d8 H td q):Kk H td q:=by
 unfold Kk lO;rcases h with ⟨h1,h2⟩ | ⟨h1,h2⟩;·rw [ar h1];exact h2
 ·rw [ao h1];exact h2
def iK(Cl:Addr→Prop)(H H':Hp):Prop:=∀b o,¬Cl b→H b=some o→H' b=some o
def mZ(Cl:Addr→Prop)(H:Hp):Prop:=∀l,Cl l→∃ys,H l=some (.lst ys)
section
variable {Cl:Addr→Prop} {H H':Hp} {q:Int}
theorem iK.refl(Cl:Addr→Prop)(H:Hp):iK Cl H H:=fun _ _ _ e=>e
theorem mZ.tup(h:mZ Cl H){b:Addr}{xs:List V}(e:H b=some (.tup xs)):¬Cl b:=fun z=>by obtain ⟨ys,ey⟩:=h b z;rw [ey] at e;cases e
theorem a_.oU(h:a_ B H q v x m)(l:mZ Cl H)(o:iK Cl H H'):a_ B H' q v x m:=by
 cases h with
 | ba e a b c=>exact .ba (o _ _ (l.tup e) e) a b c
 | rem a b c=>exact .rem a b c
theorem aJ.oU{t u:Int}(h:aJ B H q v t u)(l:mZ Cl H)(o:iK Cl H H'):aJ B H' q v t u:=let ⟨x,m,a,b⟩:=h;⟨x,m,a.oU l o,b⟩
theorem fF.oU{f r:Addr}{od:List Nat}{at':Nat}(h:fF H f q X n od M L r lv at')(l:mZ Cl H)(o:iK Cl H H')(nr:¬Cl r):fF H' f q X n od M L r lv at':=by
 cases h with
 | one g a b c d e z=>exact .one g a b (o _ _ (l.tup c) c) (o _ _ nr d) (fun i hi=>(e i hi).oU l o) z
 | iJ k hk a b c d e z=>exact .iJ k hk a b (o _ _ (l.tup c) c) (o _ _ nr d) (fun i hi=>(e i hi).oU l o) z
theorem eK.oU{C z:Addr}(h:eK C H z q)(l:mZ Cl H)(o:iK Cl H H'):eK C H' z q:=by obtain ⟨d,e⟩:=h;refine ⟨d,o _ _ (fun zz=>?_) e⟩;obtain ⟨ys,ey⟩:=l z zz;rw [ey] at e;cases e
theorem iK.clear{H0:Hp}{l:Addr}(h:iK Cl H0 H)(c:Cl l):iK Cl H0 (upd H l (.lst [])):=fun b o nb e=>by
 rw [aP (fun z:b=l=>nb (by rw [z];exact c))]
 exact h b o nb e
theorem iK.same{Hn:Hp}(h:iK Cl H H')(nw:∀l,Cl l→Hn l=none)(s:af Hn H):af Hn H':=fun b o e=>h b o (fun z=>by rw [nw b z] at e;cases e) (s _ _ e)
variable {f f2 r r2:Addr} {X n:Nat} {o:List Nat} {M:aO} {L:cb} {lv BD:Nat→V} {at' at2:Nat}
theorem fF.at(h:fF H f q X n o M L r lv at'):∃xs,H f=some (.tup xs)∧gZ xs (at':Int)=some (.ref r):=by
 cases h with
 | one g a b c d e z=>subst z;exact ⟨_,c,rfl⟩
 | iJ k hk a b c d e z=>subst z;exact ⟨_,c,rfl⟩
theorem fF.row(h:fF H f q X n o M L r lv at'):dC H r n lv:=by
 cases h with
 | one g a b c d e z=>exact d
 | iJ k hk a b c d e z=>exact d
theorem fF.nums(h:fF H f q X n o M L r lv at'):∃fr:Nat→Int×Int,∀i,i<n→a_ X H q (lv i) (fr i).1 (fr i).2:=by
 cases h with
 | one g a b c d e z=>exact BC e
 | iJ k hk a b c d e z=>exact BC e
theorem fF.same(hq:a9 q)(lo:o.length=n)(h:fF H f q X n o M L r lv at')(h2:fF H f2 q X n o M L r2 BD at2):at'=at2∧∀i,i<n→oK K H 1 (BD i) (lv i):=by
 cases h with
 | one g a b c d e z=>
  cases h2 with
  | one g' a' b' c' d' e' z'=>exact ⟨z.trans z'.symm,fun i hi=>by obtain ⟨x,m,u1,u2⟩:=BA hq (e' i hi) (e i hi) (Cg.refl _);exact qH u1 u2⟩
  | iJ k hk a' b'=>exact (Bz lo hk b' a).elim
 | iJ k hk a b c d e z=>
  cases h2 with
  | one g' a'=>exact (Bz lo hk b a').elim
  | iJ k' fO a' b' c' d' e' z'=>have e0:=LM lo hk fO a b a' b';subst e0;exact ⟨z.trans z'.symm,fun i hi=>by obtain ⟨x,m,u1,u2⟩:=BA hq (e' i hi) (e i hi) (Cg.refl _);exact qH u1 u2⟩
theorem i6{α:Type}{j:Nat}{lv:Nat→α}{x:α}(h:((List.range n).map lv)[j]?=some x):j<n∧x=lv j:=by
 have hj:j<n:=by have:=(bQ.mp h).1;simpa using this
 rw [cz,hV hj] at h;exact ⟨hj,(Option.some.inj h).symm⟩
end
structure lZ (H0 H:Hp) (hd h0 h1 h2:Addr) (n:Nat) (o:List Nat) (rs:Nat→Addr) (vf:Nat→Nat→V) (av:Nat→V):Prop where
 lst:H hd=some (.lst [.ref h0,.ref h1,.ref h2])
 tab:WTab H h0 n rs vf
 ord:H h1=some (.lst (bg o))
 kU:dC H h2 n av
 new:H0 hd=none∧H0 h0=none∧H0 h1=none∧H0 h2=none∧∀i,i<n→H0 (rs i)=none
variable {H0:Hp} {hd h0 h1 h2:Addr}
theorem lZ.mono(h:lZ H0 H hd h0 h1 h2 n o rs vf av)(s:af H H'):lZ H0 H' hd h0 h1 h2 n o rs vf av:=
 ⟨s _ _ h.lst,h.tab.mono s,s _ _ h.ord,s _ _ h.kU,h.new⟩
def m4(h0 h1 h2:Addr)(n:Nat)(rs:Nat→Addr)(l:Addr):Prop:=l=h0∨l=h1∨l=h2∨∃i,i<n∧l=rs i
theorem lZ.yQ(h:lZ H0 H hd h0 h1 h2 n o rs vf av):mZ (m4 h0 h1 h2 n rs) H:=fun l hl=>by
 rcases hl with rfl | rfl | rfl | ⟨i,hi,rfl⟩;·exact ⟨_,h.tab.lst⟩
 ·exact ⟨_,h.ord⟩
 ·exact ⟨_,h.kU⟩
 ·exact ⟨_,h.tab.at' i hi⟩
theorem lZ.Wi(h:lZ H0 H hd h0 h1 h2 n o rs vf av):∀l,m4 h0 h1 h2 n rs l→H0 l=none:=fun l hl=>by
 obtain ⟨_,a,b,c,d⟩:=h.new;rcases hl with rfl | rfl | rfl | ⟨i,hi,rfl⟩;·exact a
 ·exact b
 ·exact c
 ·exact d i hi
theorem LQ{rt:Nat→Addr}(h:lZ H0 H hd h0 h1 h2 n o rs vf av)(p:i5 H q tab od am n o rt vf av f):∀(j:Nat) (x y:V),[V.ref h0,.ref h1,.ref h2][j]?=some x→[V.ref tab,.ref od,.ref am][j]?=some y→oK K H 3 x y:=by
 have up:∀{v u:V},oK K H 1 v u→oK K H 2 v u:=fun{v u} hl=>by
  rcases hl with hl | ⟨a,b,xs,ys,e1,e2,e3,e4,e5⟩;·exact .inl hl
  ·exact .inr ⟨a,b,xs,ys,e1,e2,e3,e4,fun j x y hx hy=>.inl (e5 j x y hx hy)⟩
 intro j x y hx hy
 match j,hx,hy with
 | 0,hx,hy=>
  cases hx;cases hy;refine .inr ⟨h0,tab,_,_,rfl,rfl,.inl ⟨.of h.tab.lst,.of p.tab.lst⟩,by simp,fun j x y hx hy=>?_⟩
  obtain ⟨hj,rfl⟩:=i6 hx;obtain ⟨_,rfl⟩:=i6 hy;refine .inr ⟨rs j,rt j,_,_,rfl,rfl,.inl ⟨.of (h.tab.at' j hj),.of (p.tab.at' j hj)⟩,rfl,fun i x y hx hy=>?_⟩;obtain ⟨hi,rfl⟩:=i6 hx;obtain ⟨_,rfl⟩:=i6 hy;exact qH (p.num j i hj hi) (p.num j i hj hi)
 | 1,hx,hy=>cases hx;cases hy;refine .inr ⟨h1,od,_,_,rfl,rfl,.inl ⟨.of h.ord,.of p.ord⟩,rfl,fun j x y hx hy=>?_⟩;rw [hx] at hy;cases hy;obtain ⟨i,_,rfl⟩:=int_at hx;exact .inl ⟨rfl,rfl⟩
 | 2,hx,hy=>cases hx;cases hy;refine .inr ⟨h2,am,_,_,rfl,rfl,.inl ⟨.of h.kU,.of p.kU⟩,rfl,fun j x y hx hy=>?_⟩;obtain ⟨hj,rfl⟩:=i6 hx;obtain ⟨_,rfl⟩:=i6 hy;exact up (qH (p.BB j hj) (p.BB j hj))
 | j+3,hx,_=>simp at hx
variable {te:TE} {σ:St}
theorem yR(M:V→Hp→Prop)(h1:∀R':VK,(∀x H,M x H→R' x H)→te σ H R')(h2:∀x H,M x H→R x H):te σ H R:=h1 R h2
theorem LR{tr:TA}{Q:VK}(h:te σ H fun x H1=>tr σ H1 fun ys H2=>(x::ys).length≤sizeLine∧∀p,H2 p=none→Q (.ref p) (upd H2 p (.lst (x::ys)))):Jq (qf te tr) σ H Q:=h
end My
set_option maxRecDepth 100000
set_option maxHeartbeats 4000000
namespace My
open PySem L2
def top(i:Nat):Stmt:=PySem.Challenge.pw_bandwright_k35_along_one_or_stops.main.body.getD i (.Pass ⟨0,0,0,0⟩)
abbrev BE:Stmt:=top 8
abbrev BF:Stmt:=top 9
abbrev BG:Stmt:=top 10
abbrev BH:Stmt:=top 14
abbrev FP:Stmt:=top 15
abbrev BI:Stmt:=top 16
abbrev BJ:Stmt:=top 17
abbrev BK:Stmt:=top 19
abbrev BL:Stmt:=top 20
abbrev BM:Stmt:=top 21
abbrev BN:Stmt:=top 23
abbrev BO:Stmt:=top 24
abbrev BP:Stmt:=top 25
abbrev BQ:Stmt:=top 26
abbrev BR:Stmt:=top 27
abbrev BS:Stmt:=top 28
abbrev BU:Stmt:=top 30
abbrev BV:Stmt:=top 31
abbrev BW:Stmt:=top 33
abbrev BX:Stmt:=top 34
abbrev BY:Stmt:=top 35
abbrev BZ:Stmt:=top 36
abbrev B0:Stmt:=top 38
abbrev B1:Stmt:=top 39
abbrev B2:Stmt:=top 40
abbrev B3:Stmt:=top 41
abbrev B4:Stmt:=top 42
abbrev B5:Stmt:=top 44
abbrev B6:Stmt:=top 45
abbrev B7:Stmt:=top 48
abbrev B8:Stmt:=top 49
abbrev B9:Stmt:=top 52
abbrev B_:Stmt:=top 53
abbrev Ca:Stmt:=top 54
abbrev Cb:Stmt:=top 55
abbrev Cc:Stmt:=top 56
abbrev Cd:Stmt:=top 57
abbrev Ce:Stmt:=top 58
abbrev Cf:Stmt:=top 59
abbrev Ci:Stmt:=top 60
abbrev Cj:Stmt:=top 61
abbrev Ck:Stmt:=top 62
abbrev Cm:Stmt:=top 63
abbrev Cn:Stmt:=top 64
abbrev Co:Stmt:=top 65
abbrev Cp:Stmt:=top 66
abbrev Cq:Stmt:=top 67
abbrev Cr:Stmt:=top 68
abbrev Cs:Stmt:=top 69
abbrev Ct:Stmt:=top 70
abbrev Cu:Stmt:=top 71
abbrev Cv:Stmt:=top 72
abbrev Cw:Stmt:=top 73
abbrev Cy:Stmt:=top 74
abbrev Cz:Stmt:=top 75
abbrev CA:Stmt:=top 76
abbrev CB:Stmt:=top 77
abbrev CD:Stmt:=top 78
abbrev CF:Stmt:=top 79
abbrev CG:Stmt:=top 80
abbrev CH:Stmt:=inClass (top 50) 0
abbrev kf:Stmt:=inClass (top 50) 3
abbrev FQ:Stmt:=inClass (top 50) 4
abbrev CI:Stmt:=inClass (top 50) 5
abbrev CJ:Stmt:=inClass (top 50) 6
abbrev CK:Stmt:=inClass (top 50) 7
set_option genInjectivity false in
set_option genSizeOf false in
structure FR where
 qI:Addr
 uM:FuncData
 qJ:Addr
 uN:FuncData
 qK:Addr
 uO:FuncData
 qL:Addr
 uP:FuncData
 uQ:Addr
 yS:FuncData
 qM:Addr
 uR:FuncData
 qN:Addr
 uS:FuncData
 qO:Addr
 uT:FuncData
 qP:Addr
 uU:FuncData
 qQ:Addr
 uV:FuncData
 qS:Addr
 uW:FuncData
 qT:Addr
 uX:FuncData
 qU:Addr
 uY:FuncData
 qV:Addr
 uZ:FuncData
 qW:Addr
 u0:FuncData
 qX:Addr
 u3:FuncData
 qY:Addr
 u4:FuncData
 qZ:Addr
 u5:FuncData
 q5:Addr
 u6:FuncData
 q8:Addr
 u7:FuncData
 q_:Addr
 u9:FuncData
 rf:Addr
 u_:FuncData
 rj:Addr
 va:FuncData
 rl:Addr
 vb:FuncData
 rn:Addr
 vc:FuncData
 rq:Addr
 vd:FuncData
 rz:Addr
 ve:FuncData
 rA:Addr
 vg:FuncData
 rB:Addr
 vh:FuncData
 rD:Addr
 vi:FuncData
 rE:Addr
 vj:FuncData
 rF:Addr
 vk:FuncData
 rH:Addr
 vm:FuncData
 rJ:Addr
 vn:FuncData
 rK:Addr
 vo:FuncData
 rM:Addr
 vp:FuncData
 rN:Addr
 vq:FuncData
 rO:Addr
 vt:FuncData
 rP:Addr
 vv:FuncData
 rQ:Addr
 vw:FuncData
 rR:Addr
 vx:FuncData
 rV:Addr
 vy:FuncData
 rW:Addr
 vz:FuncData
 rX:Addr
 vA:FuncData
 rY:Addr
 vB:FuncData
 rZ:Addr
 vC:FuncData
 r6:Addr
 vD:FuncData
 r9:Addr
 vE:FuncData
 r_:Addr
 vF:FuncData
 sk:Addr
 vG:FuncData
 sq:Addr
 vH:FuncData
 sv:Addr
 vI:FuncData
 sA:Addr
 vJ:FuncData
 sC:Addr
 vK:FuncData
 sD:Addr
 vL:FuncData
 sE:Addr
 vM:FuncData
 sF:Addr
 vN:FuncData
 sG:Addr
 vO:FuncData
 sI:Addr
 vP:FuncData
 oV:Addr
 sJ:FuncData
 sM:Addr
 vQ:FuncData
 m5:Addr
 yT:FuncData
 vR:Addr
 yU:FuncData
 sN:Addr
 vS:FuncData
 sO:Addr
 vT:FuncData
 sP:Addr
 vU:FuncData
 bF:Addr
 sQ:Addr
 i7:Addr
 l4:Addr
 m6:Addr
abbrev bG (mg:dc) (x:Str) (f:Addr):Prop:=mg x=some (.ref f)
abbrev CL (K:aD) (a:Addr):Prop:=PySem.W.excIn K a [.type "ValueError",.type "Exception",.type "BaseException",.type "object"] "ValueError.__new__"=true
structure Txt (K:aD) (mg:dc) (t:FR):Prop where
 vV:ay K "width" BE t.qI t.uM
 LS:Binds K t.uM ["table"] []
 LU:bG mg "width" t.qI
 vW:ay K "square_size" BF t.qJ t.uN
 LV:Binds K t.uN ["table"] []
 LW:bG mg "square_size" t.qJ
 vX:ay K "check_aim" BG t.qK t.uO
 LX:Binds K t.uO ["n","aim"] []
 LY:bG mg "check_aim" t.qK
 sR:ay K "is_whole" BH t.qL t.uP
 FT:Binds K t.uP ["thing"] []
 FU:bG mg "is_whole" t.qL
 CM:ay K "shortened" FP t.uQ t.yS
 Wj:Binds K t.yS ["one","other"] []
 Wl:bG mg "shortened" t.uQ
 l6:ay K "common_divisor" BI t.qM t.uR
 vY:Binds K t.uR ["one","other"] []
 vZ:bG mg "common_divisor" t.qM
 v_:ay K "is_prime" BJ t.qN t.uS
 LZ:Binds K t.uS ["number"] []
 L0:bG mg "is_prime" t.qN
 wc:ay K "links_of_place" BK t.qO t.uT
 L3:Binds K t.uT ["world","table","i"] []
 L4:bG mg "links_of_place" t.qO
 we:ay K "shape_of" BL t.qP t.uU
 L5:Binds K t.uU ["world","table"] []
 L6:bG mg "shape_of" t.qP
 wg:ay K "neighbours" BM t.qQ t.uV
 L7:Binds K t.uV ["shape"] []
 L8:bG mg "neighbours" t.qQ
 wm:ay K "is_order" BN t.qS t.uW
 L9:Binds K t.uW ["thing","n"] []
 L_:bG mg "is_order" t.qS
 wo:ay K "check_order" BO t.qT t.uX
 Ma:Binds K t.uX ["order","n"] []
 Mb:bG mg "check_order" t.qT
 wq:ay K "turns_of" BP t.qU t.uY
 Mc:Binds K t.uY ["order"] []
 Md:bG mg "turns_of" t.qU
 wu:ay K "link_all" BQ t.qV t.uZ
 Me:Binds K t.uZ ["linked","places"] []
 Mf:bG mg "link_all" t.qV
 wx:ay K "later" BR t.qW t.u0
 Mg:Binds K t.u0 ["shape","order"] []
 Mh:bG mg "later" t.qW
 wz:ay K "place_deeds" BS t.qX t.u3
 Mi:Binds K t.u3 ["many"] []
 Mj:bG mg "place_deeds" t.qX
 wA:ay K "undo_place" BU t.qY t.u4
 Ml:Binds K t.u4 ["world","work","place","others"] []
 Mm:bG mg "undo_place" t.qY
 wB:ay K "packed" BV t.qZ t.u5
 Mn:Binds K t.u5 ["world","table","order"] []
 Mo:bG mg "packed" t.qZ
 wC:ay K "lowered" BW t.q5 t.u6
 Mp:Binds K t.u6 ["world","work","others","order","aim"] []
 Mq:bG mg "lowered" t.q5
 sS:ay K "raised" BX t.q8 t.u7
 FV:Binds K t.u7 ["world","work","others","places","row"] []
 FW:bG mg "raised" t.q8
 wD:ay K "tied_move" BY t.q_ t.u9
 Mr:Binds K t.u9 ["world","work","others","order","many"] []
 Ms:bG mg "tied_move" t.q_
 sX:ay K "along" BZ t.rf t.u_
 FX:Binds K t.u_ ["world","table","order","aim"] []
 FY:bG mg "along" t.rf
 wF:ay K "ratio" B0 t.rj t.va
 Mt:Binds K t.va ["top","bottom"] []
 Mu:bG mg "ratio" t.rj
 wG:ay K "ratio_plus" B1 t.rl t.vb
 Mv:Binds K t.vb ["a","b"] []
 Mw:bG mg "ratio_plus" t.rl
 wH:ay K "ratio_minus" B2 t.rn t.vc
 Mx:Binds K t.vc ["a","b"] []
 Mz:bG mg "ratio_minus" t.rn
 oW:ay K "ratio_times" B3 t.rq t.vd
 CN:Binds K t.vd ["a","b"] []
 CO:bG mg "ratio_times" t.rq
 wI:ay K "ratio_over" B4 t.rz t.ve
 MA:Binds K t.ve ["a","b"] []
 MB:bG mg "ratio_over" t.rz
 wJ:ay K "remainder_back" B5 t.rA t.vg
 MC:Binds K t.vg ["prime","number"] []
 MD:bG mg "remainder_back" t.rA
 sY:ay K "remainder_over" B6 t.rB t.vh
 FZ:Binds K t.vh ["prime","a","b"] []
 F0:bG mg "remainder_over" t.rB
 wK:ay K "is_fractions" B7 t.rD t.vi
 ME:Binds K t.vi ["told"] []
 MF:bG mg "is_fractions" t.rD
 wL:ay K "is_wheel" B8 t.rE t.vj
 MG:Binds K t.vj ["told"] []
 MH:bG mg "is_wheel" t.rE
 wM:ay K "_law_acell" B9 t.rF t.vk
 MI:Binds K t.vk ["script","k"] []
 MJ:bG mg "_law_acell" t.rF
 m7:ay K "_law_atape" B_ t.rH t.vm
 yV:Binds K t.vm ["script","k"] []
 yW:bG mg "_law_atape" t.rH
 gN:ay K "_law_adigit" Ca t.rJ t.vn
 jH:Binds K t.vn ["tape","many"] []
 jI:bG mg "_law_adigit" t.rJ
 sZ:ay K "_law_adivisor" Cb t.rK t.vo
 F8:Binds K t.vo ["one","other"] []
 F9:bG mg "_law_adivisor" t.rK
 s_:ay K "_law_aturned" Cc t.rM t.vp
 F_:Binds K t.vp ["number","p"] []
 Ga:bG mg "_law_aturned" t.rM
 jJ:ay K "_law_anumber" Cd t.rN t.vq
 m8:Binds K t.vq ["told","top","bottom"] []
 m9:bG mg "_law_anumber" t.rN
 wN:ay K "_law_aplus" Ce t.rO t.vt
 MK:Binds K t.vt ["told","a","b"] []
 ML:bG mg "_law_aplus" t.rO
 tf:ay K "_law_atimes" Cf t.rP t.vv
 Gb:Binds K t.vv ["told","a","b"] []
 Gd:bG mg "_law_atimes" t.rP
 wO:ay K "_law_aless" Ci t.rQ t.vw
 MM:Binds K t.vw ["told","a","b"] []
 MN:bG mg "_law_aless" t.rQ
 wQ:ay K "_law_aover" Cj t.rR t.vx
 MO:Binds K t.vx ["told","a","b"] []
 MP:bG mg "_law_aover" t.rR
 wR:ay K "_law_aworld" Ck t.rV t.vy
 MQ:Binds K t.vy ["tape"] []
 MR:bG mg "_law_aworld" t.rV
 m_:ay K "_law_asome" Cm t.rW t.vz
 yX:Binds K t.vz ["told","tape"] []
 yY:bG mg "_law_asome" t.rW
 jK:ay K "_law_anought" Cn t.rX t.vA
 ng:Binds K t.vA ["told"] []
 ni:bG mg "_law_anought" t.rX
 wU:ay K "_law_atable" Co t.rY t.vB
 MS:Binds K t.vB ["told","tape","size","links"] []
 MT:bG mg "_law_atable" t.rY
 wV:ay K "_law_alinks" Cp t.rZ t.vC
 MU:Binds K t.vC ["tape","size"] []
 MV:bG mg "_law_alinks" t.rZ
 wW:ay K "_law_aorder" Cq t.r6 t.vD
 MW:Binds K t.vD ["tape","size"] []
 MX:bG mg "_law_aorder" t.r6
 wX:ay K "_law_arow" Cr t.r9 t.vE
 MY:Binds K t.vE ["told","tape","size"] []
 MZ:bG mg "_law_arow" t.r9
 tj:ay K "_law_acarried" Cs t.r_ t.vF
 Ge:Binds K t.vF ["told","table","row"] []
 Gf:bG mg "_law_acarried" t.r_
 wY:ay K "_law_atied" Ct t.sk t.vG
 M0:Binds K t.vG ["told","table","places"] []
 M1:bG mg "_law_atied" t.sk
 wZ:ay K "_law_afirst_tied" Cu t.sq t.vH
 M3:Binds K t.vH ["told","table","order"] []
 M4:bG mg "_law_afirst_tied" t.sq
 w5:ay K "_law_ashape" Cv t.sv t.vI
 M5:Binds K t.vI ["told","table"] []
 M6:bG mg "_law_ashape" t.sv
 w9:ay K "_law_alater" Cw t.sA t.vJ
 M7:Binds K t.vJ ["size","links","order"] []
 M8:bG mg "_law_alater" t.sA
 w_:ay K "_law_adeeds" Cy t.sC t.vK
 M9:Binds K t.vK ["behind"] []
 M_:bG mg "_law_adeeds" t.sC
 l7:ay K "_law_awhole" Cz t.sD t.vL
 xa:Binds K t.vL ["found"] []
 xb:bG mg "_law_awhole" t.sD
 xc:ay K "_law_ais_number" CA t.sE t.vM
 Na:Binds K t.vM ["told","found"] []
 Nb:bG mg "_law_ais_number" t.sE
 tu:ay K "_law_ais_row" CB t.sF t.vN
 Gg:Binds K t.vN ["told","found","size"] []
 Gh:bG mg "_law_ais_row" t.sF
 xf:ay K "_law_apiece" CD t.sG t.vO
 Nc:Binds K t.vO ["script","start"] []
 Nd:bG mg "_law_apiece" t.sG
 tD:ay K "_law_aright" CF t.sI t.vP
 Gi:Binds K t.vP ["told","table","order","aim","found"] []
 Gj:bG mg "_law_aright" t.sI
 xg:ay K "law" CG t.oV t.sJ
 Wm:Binds K t.sJ ["script"] []
 Nf:bG mg "law" t.oV
 yZ:eE K "__init__" "World.__init__" CH t.sM t.vQ
 Ng:Binds K t.vQ ["self","told"] []
 CP:Mk K t.bF t.sM
 Nh:jA K "of" "World.of" kf 1 t.m5 t.yT
 Wn:Binds K t.yT ["self","top","bottom"] []
 CQ:∃v,Vals [V.int 1] [v]∧Binds K t.yT ["self","top","bottom"] [v]
 Wo:∀(s:Shared) (us ws:List Value),K.In s.heap→ws.length=1→us.length+1=(["self","top","bottom"]:List Str).length→BindsTo s t.yT ⟨us,[("bottom":Str)].zip ws⟩ ((["self","top","bottom"]:List Str).zip (us++ws))
 y3:Meth K t.bF "of" t.m5
 CS:eE K "plus" "World.plus" FQ t.vR t.yU
 Wq:Binds K t.yU ["self","a","b"] []
 Gk:Meth K t.bF "plus" t.vR
 y4:eE K "minus" "World.minus" CI t.sN t.vS
 CT:Binds K t.vS ["self","a","b"] []
 xh:Meth K t.bF "minus" t.sN
 y6:eE K "times" "World.times" CJ t.sO t.vT
 CU:Binds K t.vT ["self","a","b"] []
 xi:Meth K t.bF "times" t.sO
 y7:eE K "over" "World.over" CK t.sP t.vU
 Gm:Binds K t.vU ["self","a","b"] []
 y8:Meth K t.bF "over" t.sP
 d_:kA K t.bF
 Ni:bG mg "World" t.bF
 jL:qd K t.bF "prime"
 Nj:bG mg "NoWorld" t.sQ
 CV:bG mg "NoOver" t.i7
 CW:bG mg "NoFit" t.l4
 Nk:bG mg "NoOrder" t.m6
 Wr:mg "ValueError"=none
 CY:mg "abs"=none
 Nl:mg "all"=none
 Nm:mg "any"=none
 Gn:mg "bool"=none
 Gp:mg "enumerate"=none
 xj:mg "int"=none
 kW:mg "isinstance"=none
 dH:mg "len"=none
 i8:mg "list"=none
 Nn:mg "max"=none
 Np:mg "min"=none
 eA:mg "range"=none
 Nq:mg "reversed"=none
 CZ:mg "sorted"=none
 Gq:mg "sum"=none
 xk:mg "tuple"=none
 Ws:mg "zip"=none
 Nr:∃u,mg "GREATEST_PRIME"=some u∧RelV (.int 997) u
 Nt:∃u,mg "LONG"=some u∧RelV (.int 2048) u
 Nu:CL K t.sQ
 C0:CL K t.i7
 C1:CL K t.l4
 Nv:CL K t.m6
section
variable {P:Program} {w:World} {K:aD} {mg:dc} {base:Heap} {t:FR}
theorem Wu:a8 ["thing"] ["thing"] (aM BH):=bH
theorem Nw(T:Txt K mg t):aY P w K mg base bI 1 t.qL t.uP ["thing"] J4:=by
 have S:=Wu;refine T.sR.bS S (fun _ _ _ _ H _ Q _ hr h=>?_);obtain ⟨v,rfl,ha,k⟩:=h;refine ⟨_,(aq (aI (mF (bW (lJ (K:=K)) rfl T.kW boot_isinstance (aa (pv 0) (aa (lA (v:=.ty "int") rfl T.xj boot_int rfl) ae))) (pZ (IS (bW (lJ (K:=K)) rfl T.kW boot_isinstance (aa (pv 0) (aa (lA (v:=.ty "bool") rfl T.Gn boot_bool rfl) ae)))))))),?_⟩;obtain ⟨Ty,ty,k1,k2,_⟩:=ha.AS (K:=K);refine ⟨_,rfl,_,_,_,_,rfl,rfl,ty,k1,_,rfl,b7 (fun h1=>?_) (fun h1=>?_)⟩
 ·refine ⟨_,rfl,_,_,_,_,rfl,rfl,ty,k2,_,rfl,?_⟩
  have e:(!mQ v)=mP v:=by
   cases h2:mQ v with
   | true=>rw [J3 h2];rfl
   | false=>rw [h2,Bool.or_false] at h1;rw [h1];rfl
  show Q (.bl (!mQ v)) H;rw [e];exact k
 ·have e:mP v=false:=by
   cases h2:mP v with
   | true=>rw [h2] at h1;exact absurd rfl h1
   | false=>rfl
  rw [e] at k;exact k
theorem Wv:a8 ["one","other","left","shorter"] ["one","other"] (aM BI):=bH
theorem y9(T:Txt K mg t):aY P w K mg base bI 1 t.qM t.uR ["one","other"] R1:=by
 have S:=Wv;obtain ⟨uL,hL,rL⟩:=T.Nt;refine T.l6.bS S (fun _ _ _ _ H _ _ _ hr h=>?_);obtain ⟨a,b,rfl,mb,k⟩:=h
 refine ⟨_,(ak (putL 0 S.nd (bW D8 rfl T.CY boot_abs (aa (pv 0) ae)))
  (ak (putL 1 S.nd (bW D8 rfl T.CY boot_abs (aa (pv 1) ae)))
  (ak (p8 cq (bj ua (pv 1) ag) (ak (putL 2 S.nd (ax ft (pv 0) (pv 1)))
  (ak (putL 0 S.nd (pv 1))
  (ak (putL 1 S.nd (pv 2))
  (aq (bL (bj ua (AL PySem.F.plainAttrs_int PySem.F.slot_int_bit_length PySem.F.type_int_bit_length RW (pv 0)) (IP (v:=.int 2048) rfl hL rL)) Pu bO))))))
  (aq (aI (pv 0)))))),?_⟩
 refine ⟨_,rfl,a,rfl,_,rfl,b,rfl,fun m σ H'=>H'=H∧∃(x y:Nat) (v u:Option V),σ=[some (.int (x:Int)),some (.int (y:Int)),v,u]∧m=y∧y≤b.natAbs∧Nat.gcd x y=Int.gcd a b,⟨b.natAbs,rfl,a.natAbs,b.natAbs,none,none,?_,rfl,aK _,rfl⟩,?_⟩
 ·show [some (V.int (if a<0 then -a else a)),some (V.int (if b<0 then -b else b)),none,none]=_
  rw [Ex,Ex]
 ·rintro m σ H' ⟨rfl,x,y,v,u,rfl,em,hb,hg⟩
  refine ⟨_,rfl,_,_,rfl,rfl,_,rfl,b7 (fun hy=>?_) (fun hy=>?_)⟩
  ·have hy:(0:Int)<y:=eY hy
   refine ⟨fun σ' H2=>H2=H'∧σ'=[some (.int (y:Int)),some (.int (((x % y:Nat)):Int)),some (.int (((x % y:Nat)):Int)),u],?_,?_⟩
   ·rintro σ' H2 ⟨rfl,rfl⟩
    exact ⟨x % y,by rw [em];exact Nat.mod_lt _ (by lia),rfl,y,x % y,_,_,rfl,rfl,aH (Nat.le_of_lt (Nat.mod_lt _ (by lia))) hb,by rw [RY];exact hg⟩
   ·have hm:eS (y:Int):=jQ (by rw [xK];exact hb) mb
    have hbt:=RX hm;refine ⟨_,rfl,_,rfl,_,_,rfl,rfl,hy,_,rfl,_,rfl,_,rfl,rfl,_,rfl,rfl,_,_,rfl,rfl,_,rfl,b7 (fun hz=>?_) (fun _=>⟨rfl,rfl⟩)⟩;have hz:=eY hz;exact absurd hz (by lia)
  ·have hy:¬(0:Int)<y:=fun z=>hy (cA z)
   have y0:y=0:=by lia
   subst y0;rw [Nat.gcd_zero_right] at hg;rw [←hg] at k;exact ⟨_,rfl,k⟩
theorem Ww:a8 ["number","divisor"] ["number"] (aM BJ):=bH
theorem Wx(T:Txt K mg t):aY P w K mg base bI 1 t.qN t.uS ["number"] R3:=by
 have S:=Ww;refine T.v_.bS S (fun _ _ _ _ H _ Q _ hr h=>?_);obtain ⟨n,rfl,Wy,ub,k⟩:=h
 refine ⟨_,(ak (putL 1 S.nd ag)
  (ak (p8 cq (bj Ay (ax eZ (pv 1) (pv 1)) (pv 0)) (ak (bL (bj dU (ax ft (pv 0) (pv 1)) ag) (aq (aI eQ)) bO)
  (aq (PJ (i:=1) S.nd rfl (Or.inl rfl) ag PM))))
  (aq (aI (kz Ji (pv 0) ag))))),?_⟩
 refine ⟨fun m σ H'=>H'=H∧∃d:Int,σ=[some (.int n),some (.int d)]∧2≤d∧d≤32∧m=(33-d).toNat∧∀e:Int,2≤e→e<d→n % e≠0,⟨_,rfl,2,rfl,by lia,by lia,rfl,fun e a b=>by lia⟩,?_⟩
 rintro m σ H' ⟨rfl,d,rfl,h1,h2,rfl,h3⟩;refine ⟨_,rfl,_,rfl,_,_,rfl,rfl,.inl ⟨by lia,by lia⟩,_,rfl,_,_,rfl,rfl,_,rfl,b7 (fun hq=>?_) (fun hq=>?_)⟩
 ·have hq:=eY hq
  have hd:d<32:=by
   by_cases z:d<32;·exact z
   ·have:d=32:=by lia
    subst this;lia
  refine ⟨fun σ' H2=>H2=H'∧σ'=[some (.int n),some (.int (d+1))]∧n % d≠0,?_,?_⟩
  ·rintro σ' H2 ⟨rfl,rfl,hm⟩
   refine ⟨(33-(d+1)).toNat,by lia,rfl,d+1,rfl,by lia,by lia,rfl,fun e a b=>?_⟩
   by_cases z:e=d;·subst z;exact hm
   ·exact h3 e a (by lia)
  ·refine ⟨_,rfl,_,rfl,_,_,rfl,rfl,(show (0:Int)<d by lia),rfl,_,rfl,b7 (fun hm=>?_) (fun hm=>?_)⟩
   ·have hm:=V.int.inj (eY hm)
    rw [JY ub h1 hq hm] at k;exact k
   ·exact ⟨_,rfl,_,_,rfl,rfl,rfl,rfl,fun z=>hm (cA (hJ V.int z))⟩
 ·have hq:¬d*d≤n:=fun z=>hq (cA z)
  refine ⟨_,rfl,_,_,rfl,rfl,?_⟩;rw [RL (n:=n) (d:=d) (by lia) h1 h3] at k
  have e:decide ((2:Int)≤n)=true:=cA Wy;show Q (.bl (decide ((2:Int)≤n))) H';rw [e];exact k
theorem Wz:a8 ["told"] ["told"] (aM B7):=bH
theorem WA(T:Txt K mg t):aY P w K mg base bI 1 t.rD t.vi ["told"] R4:=by
 have S:=Wz;refine T.wK.bS S (fun _ _ _ _ H _ _ _ hr h=>?_);obtain ⟨p,d,rfl,hp,k⟩:=h;refine ⟨_,(aq (aI (mF (bW (lJ (K:=K)) rfl T.kW boot_isinstance (aa (pv 0) (aa (lA (v:=.ty "tuple") rfl T.xk boot_tuple rfl) ae))) (mF (kz dU (bW e8 rfl T.dH dO (aa (pv 0) ae)) ag) (pZ (kz dU (ai aC (pv 0) ag) dY)))))),?_⟩;refine ⟨_,rfl,_,_,_,true,rfl,rfl,.of (.tup hp),qm,true,rfl,dZ ?_⟩;cases d with
 | a x=>refine ⟨_,rfl,p,_,rfl,.inr (.of hp),rfl,true,rfl,dZ ?_⟩;refine ⟨_,rfl,p,_,0,.str x,rfl,rfl,.of hp,rfl,rfl,?_⟩;rw [Ew];exact k
 | b x n=>exact ⟨_,rfl,p,_,rfl,.inr (.of hp),rfl,false,rfl,bM k⟩
theorem WB:a8 ["told"] ["told"] (aM B8):=bH
theorem WC(T:Txt K mg t):aY P w K mg base bI 2 t.rE t.vj ["told"] R5:=by
 have S:=WB;obtain ⟨uG,hG,rG⟩:=T.Nr;refine T.wL.bS S (fun _ _ _ _ H _ _ _ hr h=>?_);obtain ⟨p,d,rfl,hp,k⟩:=h
 refine ⟨_,(ak (bL (PW.pt (pw_or (ig (fW (bW (lJ (K:=K)) rfl T.kW boot_isinstance (aa (pv 0) (aa (lA (v:=.ty "tuple") rfl T.xk boot_tuple rfl) ae))))) (pw_or (bj gI (bW e8 rfl T.dH dO (aa (pv 0) ae)) ag) (pw_or1 (bj gI (ai aC (pv 0) ag) dY))))) (aq (aI eQ)) bO)
  (aq (aI (mF (aB (Nw T) hr T.FU T.sR.kp T.FT aE (aa (ai aC (pv 0) ag) ae)) (mF (Jk Ay Ay ag (ai aC (pv 0) ag) (IP (v:=.int 997) rfl hG rG)) (pZ (aB (Wx T) hr T.L0 T.v_.kp T.LZ aE (aa (ai aC (pv 0) ag) ae)))))))),?_⟩
 refine ⟨_,rfl,_,_,_,true,rfl,rfl,.of (.tup hp),qm,true,rfl,bM ?_⟩;cases d with
 | a x=>exact ⟨_,rfl,p,_,rfl,.inr (.of hp),rfl,true,rfl,dZ (dZ k)⟩
 | b x n=>
  refine ⟨_,rfl,p,_,rfl,.inr (.of hp),rfl,false,rfl,bM ?_⟩;refine ⟨_,rfl,p,_,0,.str x,rfl,rfl,.of hp,rfl,rfl,_,rfl,b7 (fun hw=>?_) (fun hw=>?_)⟩
  ·have hw:¬x="wheel":=by rw [Ew] at hw;simpa using hw
   have e:(Td.b x n).jZ=false:=by simp [Td.jZ,hw]
   rw [e] at k;exact k
  ·have hw:x="wheel":=by rw [Ew] at hw;simpa using hw
   refine ⟨_,rfl,p,_,1,.int n,rfl,rfl,.of hp,rfl,.int n,rfl,.int n,true,rfl,dZ ?_⟩;refine ⟨_,rfl,p,_,1,.int n,rfl,rfl,.of hp,rfl,_,_,rfl,rfl,_,rfl,?_⟩;refine b7 (fun h2=>?_) (fun h2=>?_)
   ·have h2:=eY h2
    refine ⟨_,_,rfl,rfl,_,rfl,b7 (fun h3=>?_) (fun h3=>?_)⟩
    ·have h3:=eY h3
     refine ⟨_,rfl,p,_,1,.int n,rfl,rfl,.of hp,rfl,n,rfl,h2,h3,?_⟩;have e:(Td.b x n).jZ=fA n:=by simp [Td.jZ,hw,h2,h3]
     rw [e] at k;exact k
    ·have h3:¬n≤997:=fun z=>h3 (cA z)
     have e:(Td.b x n).jZ=false:=by simp [Td.jZ,h3]
     rw [e] at k;exact k
   ·have h2:¬2≤n:=fun z=>h2 (cA z)
    have e:(Td.b x n).jZ=false:=by simp [Td.jZ,h2]
    rw [e] at k;exact ⟨false,rfl,bM k⟩
theorem WD:a8 ["self","told"] ["self","told"] (aM CH):=bH
theorem WE(T:Txt K mg t):aY P w K mg base (dW P w) 3 t.sM t.vQ ["self","told"] (R6 t.bF t.sQ):=by
 have S:=WD;refine T.yZ.fz S (fun _ _ _ _ H _ _ _ hr h L=>?_);obtain ⟨x,dx,p,d,rfl,hx,hp,k1,k2⟩:=h;refine ⟨_,(aq (bL (fW (aB (WA T) hr T.MF T.wK.kp T.ME aE (aa (pv 1) ae))) (aq (Jo (pv 0) pY rfl)) (aq (bL (fW (aB (WC T) hr T.MH T.wL.kp T.MG aE (aa (pv 1) ae))) (aq (Jo (pv 0) (ai aC (pv 1) ag) rfl)) (aq (ou L rfl nX T.Nu rfl T.Nj (aa dY ae))))))),?_⟩;refine ⟨_,rfl,p,d,rfl,hp,_,rfl,b7 (fun hF=>?_) (fun hF=>?_)⟩
 ·refine ⟨_,rfl,x,t.bF,dx,[],rfl,hx,T.d_,T.jL,(by show 0<1000;decide),?_⟩
  have e:d.prime=.aU:=by
   cases d with
   | a x=>rfl
   | b x n=>cases hF
  have k:=k1 (by unfold Td.good;rw [hF];rfl)
  rw [e] at k;exact k
 ·have hF:d.yg=false:=by simpa using hF
  refine ⟨_,rfl,p,d,rfl,hp,_,rfl,b7 (fun hW=>?_) (fun hW=>?_)⟩
  ·have k:=k1 (by unfold Td.good;rw [hW,Bool.or_true])
   cases d with
   | a x=>cases hW
   | b y n=>exact ⟨_,rfl,p,_,1,.int n,rfl,rfl,.of hp,rfl,_,rfl,x,t.bF,dx,[],rfl,hx,T.d_,T.jL,(by show 0<1000;decide),k⟩
  ·have hW:d.jZ=false:=by simpa using hW
   exact ⟨by show 1≤sizeLine;decide,k2 (by unfold Td.good;rw [hF,hW];rfl)⟩
theorem WG:a8 ["top","bottom","shared"] ["top","bottom"] (aM B0):=bH
theorem WH(T:Txt K mg t):aY P w K mg base (dW P w) 2 t.rj t.va ["top","bottom"] (So t.i7):=by
 have S:=WG;refine T.wF.fz S (fun _ _ _ _ H _ _ _ hr h L=>?_);obtain ⟨a,b,rfl,mb,kE,k⟩:=h
 refine ⟨_,(ak (bL (bj dU (pv 1) ag) (aq (ou L rfl nX T.C0 rfl T.CV (aa dY ae))) bO)
  (eP.lC (ak (putL 2 S.nd (aB (y9 T) hr T.vZ T.l6.kp T.vY aE (aa (pv 0) (aa (pv 1) ae))))
  (ak (bL (bj om (pv 1) ag) (aq (putL 2 S.nd (Au Ax (pv 2)))) bO)
  (aq (aI (fJ (aa (ax AX (pv 0) (pv 2)) (aa (ax AX (pv 1) (pv 2)) ae))))))))),?_⟩
 have n2:2≤sizeLine:=by decide
 refine ⟨_,rfl,rfl,_,rfl,b7 (fun hz=>?_) (fun hz=>?_)⟩
 ·have hz:b=0:=V.int.inj (eY hz)
  exact ⟨by show 1≤sizeLine;decide,kE hz⟩
 have hz:b≠0:=fun z=>hz (cA (by rw [z]))
 have ok:=R0 (a:=a) hz mb;have kk:=k hz;unfold lM lN at kk;refine ⟨_,rfl,_,rfl,a,b,rfl,mb,_,rfl,_,_,rfl,rfl,_,rfl,b7 (fun hn=>?_) (fun hn=>?_)⟩
 ·have hn:b<0:=eY hn
  have e:lowG a b=-(Int.gcd a b:Int):=by unfold lowG;rw [ar hn,pK]
  rw [e] at ok kk;refine ⟨_,rfl,_,rfl,_,rfl,_,rfl,_,_,rfl,rfl,ok,_,rfl,_,rfl,_,_,rfl,rfl,ok,n2,fun r hr=>kk r _ (aT hr) az⟩
 ·have hn:¬b<0:=fun z=>hn (cA z)
  have e:lowG a b=(Int.gcd a b:Int):=by unfold lowG;rw [ao hn]
  rw [e] at ok kk;refine ⟨_,rfl,_,rfl,_,_,rfl,rfl,ok,_,rfl,_,rfl,_,_,rfl,rfl,ok,n2,fun r hr=>kk r _ (aT hr) az⟩
theorem WI:a8 ["prime","number","last","last_times","now","now_times","fits","left","left_times"] ["prime","number"] (aM B5):=bH
theorem WJ(T:Txt K mg t):aY P w K mg base (dW P w) 1 t.rA t.vg ["prime","number"] (Sf t.i7):=by
 have S:=WI;refine T.wJ.fz S (fun _ _ _ _ H _ _ _ hr h L=>?_);obtain ⟨q,b,rfl,q1,q2,q3,b0,b1,kE,k⟩:=h
 refine ⟨_,(ak (bL (bj dU (pv 1) ag) (aq (ou L rfl nX T.C0 rfl T.CV (aa dY ae))) bO)
  (eP.lC (ak (putL 2 S.nd (pv 0))
  (ak (putL 3 S.nd ag)
  (ak (putL 4 S.nd (pv 1))
  (ak (putL 5 S.nd ag)
  (ak (p8 cq (bj ua (pv 4) ag) (ak (putL 6 S.nd (ax Aw (pv 2) (pv 4)))
  (ak (putL 7 S.nd (ax jV (pv 2) (ax eZ (pv 6) (pv 4))))
  (ak (putL 8 S.nd (ax jV (pv 3) (ax eZ (pv 6) (pv 5))))
  (ak (putL 2 S.nd (pv 4))
  (ak (putL 3 S.nd (pv 5))
  (ak (putL 4 S.nd (pv 7))
  (aq (putL 5 S.nd (pv 8))))))))))
  (aq (aI (ax ft (pv 5) (pv 0))))))))))),?_⟩
 refine ⟨_,rfl,rfl,_,rfl,b7 (fun hz=>?_) (fun hz=>?_)⟩
 ·have hz:b=0:=V.int.inj (eY hz)
  exact ⟨by show 1≤sizeLine;decide,kE hz⟩
 have hz:b≠0:=fun z=>hz (cA (by rw [z]))
 refine ⟨_,rfl,_,rfl,fun m σ H'=>H'=H∧∃(l lt n nt:Int) (v1 v2 v3:Option V),σ=[some (.int q),some (.int b),some (.int l),some (.int lt),some (.int n),some (.int nt),v1,v2,v3]∧m=n.toNat∧mT q b l lt n nt∧l≤997,
  ⟨b.toNat,rfl,q,0,b,1,none,none,none,rfl,rfl,mT.start q1 q2 q3 (by lia) b1,q2⟩,?_⟩
 rintro m σ H' ⟨rfl,l,lt,n,nt,v1,v2,v3,rfl,em,hb,hl⟩;have p1:=hb.pos;have p2:=hb.less;refine ⟨_,rfl,_,_,rfl,rfl,_,rfl,b7 (fun hy=>?_) (fun hy=>?_)⟩
 ·have hy:1<n:=eY hy
  have hs:=hb.step hy;have f0:0≤l / n:=Ag (by lia) (by lia)
  have f1:l / n≤l:=Int.ediv_le_self _ (by lia)
  refine ⟨fun σ' H2=>H2=H'∧σ'=[some (.int q),some (.int b),some (.int n),some (.int nt),some (.int (l-l / n*n)),some (.int (lt-l / n*nt)),some (.int (l / n)),some (.int (l-l / n*n)),some (.int (lt-l / n*nt))],?_,?_⟩
  ·rintro σ' H2 ⟨rfl,rfl⟩
   exact ⟨(l-l / n*n).toNat,by rw [em];lia,rfl,_,_,_,_,_,_,_,rfl,rfl,hs.1,by lia⟩
  ·exact ⟨_,rfl,_,rfl,_,_,rfl,rfl,⟨by lia,by lia⟩,_,rfl,_,rfl,_,rfl,_,_,rfl,rfl,.inr ⟨by lia,by lia⟩,_,_,rfl,rfl,
    _,rfl,_,rfl,_,rfl,_,_,rfl,rfl,.inl ⟨by lia,by lia⟩,_,_,rfl,rfl,_,rfl,_,rfl,_,rfl,_,rfl,rfl,rfl⟩
 ·have hy:¬1<n:=fun z=>hy (cA z)
  have n1:n=1:=by lia
  subst n1;exact ⟨_,rfl,_,rfl,_,_,rfl,rfl,(show (0:Int)<q by lia),k hz _ (fI _ (by lia)) (fT _ (by lia)) (hb.done q1)⟩
theorem WK:a8 ["prime","a","b"] ["prime","a","b"] (aM B6):=bH
theorem Nx(T:Txt K mg t):aY P w K mg base (dW P w) 2 t.rB t.vh ["prime","a","b"] (Sh t.i7):=by
 have S:=WK;refine T.sY.fz S (fun _ _ _ _ H _ _ _ hr h L=>?_);obtain ⟨q,i,j,rfl,q1,q2,q3,i0,i1,j0,j1,kE,k⟩:=h;refine ⟨_,(aq (aI (ax ft (ax eZ (pv 1) (aB (WJ T) hr T.MD T.wJ.kp T.MC (oq L) (aa (pv 0) (aa (pv 2) ae)))) (pv 0)))),?_⟩
 exact ⟨_,rfl,_,rfl,_,rfl,q,j,rfl,q1,q2,q3,j0,j1,kE,fun hj r r0 r1 xl=>⟨_,_,rfl,rfl,.inl ⟨by lia,by lia⟩,_,rfl,_,_,rfl,rfl,(show (0:Int)<q by lia),
  k hj _ (fI _ (by lia)) (fT _ (by lia)) (Sk q1 i0 i1 xl)⟩⟩
theorem WL:a8 ["self","top","bottom"] ["self","top","bottom"] (aM kf):=bH
theorem Gr(T:Txt K mg t):aY P w K mg base (dW P w) 3 t.m5 t.yT ["self","top","bottom"] (Sq t.bF t.i7):=by
 have S:=WL;refine T.Nh.Em S (fun vs H Q E h=>?_) (fun bf A outer s H vs Q E hr h L=>?_)
 ·obtain ⟨z,q,a,b,rfl,_⟩:=h
  rfl
 ·obtain ⟨z,q,a,b,rfl,⟨dx,hx⟩,hq,mb,kE,k⟩:=h
  refine ⟨_,(ak (bL (bj Az (lF (pv 0) rfl) pY) (aq (aI (aB (WH T) hr T.Mu T.wF.kp T.Mt (oq L) (aa (pv 1) (aa (pv 2) ae))))) bO)
   (aq (aI (aB (Nx T) hr T.F0 T.sY.kp T.FZ (oq L) (aa (lF (pv 0) rfl) (aa (ax ft (pv 1) (lF (pv 0) rfl)) (aa (ax ft (pv 2) (lF (pv 0) rfl)) ae))))))),?_⟩
  refine ⟨_,rfl,z,t.bF,dx,_,_,rfl,hx,T.d_,T.jL,lK _,rfl,_,rfl,?_⟩;rcases hq with rfl | ⟨q2,q3,q4⟩
  ·rw [ar rfl]
   refine dZ ⟨_,rfl,_,rfl,a,b,rfl,mb,fun hb=>kE (by unfold oH;rw [ar rfl];exact hb),fun hb r H' s' er=>k (fun hn=>hb (by unfold oH at hn;rw [ar rfl] at hn;exact hn)) _ H' s' (.inl ⟨rfl,r,rfl,er⟩)⟩
  ·have hq:q≠0:=by lia
   rw [ao hq] at hx ⊢;have p0:(0:Int)<q:=by lia
   refine bM ⟨_,rfl,z,t.bF,dx,_,_,rfl,hx,T.d_,T.jL,lK _,_,rfl,_,rfl,z,t.bF,dx,_,_,rfl,hx,T.d_,T.jL,lK _,_,_,rfl,rfl,p0,_,rfl,_,rfl,z,t.bF,dx,_,_,rfl,hx,T.d_,T.jL,lK _,_,_,rfl,rfl,p0,?_⟩;have nv:oH q b↔b % q=0:=by unfold oH;rw [ao hq]
   exact ⟨q,a % q,b % q,rfl,q2,q3,q4,fI _ hq,fT _ p0,fI _ hq,fT _ p0,fun hj=>kE (nv.mpr hj),fun hj r r0 r1 xl=>k (fun z=>hj (nv.mp z)) _ H (af.refl H) (.inr ⟨q2,r,rfl,r0,r1,xl⟩)⟩
theorem WM:a8 ["a","b","shared","top","again"] ["a","b"] (aM B1):=bH
theorem WN(T:Txt K mg t):aY P w K mg base bI 2 t.rl t.vb ["a","b"] Sb:=by
 have S:=WM;refine T.wG.bS S (fun _ _ _ _ H _ _ _ hr h=>?_);obtain ⟨p,q,x,m,y,n,rfl,hp,hq,la,lb,bx,bm,fG,bn,k⟩:=h
 refine ⟨_,(ak (putL 2 S.nd (aB (y9 T) hr T.vZ T.l6.kp T.vY aE (aa (ai aC (pv 0) ag) (aa (ai aC (pv 1) ag) ae))))
  (ak (bL (bj dU (pv 2) ag) (aq (aI (fJ (aa (ax dS (ax gu (ai aC (pv 0) ag) (ai aC (pv 1) ag)) (ax gu (ai aC (pv 1) ag) (ai aC (pv 0) ag))) (aa (ax gu (ai aC (pv 0) ag) (ai aC (pv 1) ag)) ae))))) bO)
  (ak (putL 3 S.nd (ax dS (ax gu (ai aC (pv 0) ag) (ax mM (ai aC (pv 1) ag) (pv 2))) (ax gu (ai aC (pv 1) ag) (ax mM (ai aC (pv 0) ag) (pv 2)))))
  (ak (putL 4 S.nd (aB (y9 T) hr T.vZ T.l6.kp T.vY aE (aa (pv 3) (aa (pv 2) ae))))
  (aq (aI (fJ (aa (ax mM (pv 3) (pv 4)) (aa (ax gu (ax mM (ai aC (pv 0) ag) (pv 2)) (ax mM (ai aC (pv 1) ag) (pv 4))) ae))))))))),?_⟩
 have n2:2≤sizeLine:=by decide
 have m0:=la.pos;have n0:=lb.pos;refine ⟨_,rfl,p,_,_,_,rfl,rfl,.of hp,rfl,_,rfl,q,_,_,_,rfl,rfl,.of hq,rfl,m,n,rfl,bn.mid,?_⟩;have gp:(0:Int)<(Int.gcd m n:Int):=A1 (by lia)
 have gb:b8 (Int.gcd m n:Int):=bn.gcd (by lia)
 refine ⟨_,rfl,rfl,_,rfl,b7 (fun e=>?_) (fun _=>?_)⟩
 ·have e:Int.gcd m n=1:=by have z:=eY e;have z:=V.int.inj z;lia
  exact ⟨_,rfl,p,_,_,_,rfl,rfl,.of hp,rfl,_,rfl,q,_,_,_,rfl,rfl,.of hq,rfl,_,_,rfl,rfl,⟨bx.mid,bn.mid⟩,
   _,rfl,q,_,_,_,rfl,rfl,.of hq,rfl,_,rfl,p,_,_,_,rfl,rfl,.of hp,rfl,_,_,rfl,rfl,⟨fG.mid,bm.mid⟩,_,_,rfl,rfl,
   _,rfl,p,_,_,_,rfl,rfl,.of hp,rfl,_,rfl,q,_,_,_,rfl,rfl,.of hq,rfl,_,_,rfl,rfl,⟨bm.mid,bn.mid⟩,n2,fun r hr=>k r _ _ _ (aT hr) az (R8 la lb e) rfl⟩
 refine ⟨_,rfl,p,_,_,_,rfl,rfl,.of hp,rfl,_,rfl,q,_,_,_,rfl,rfl,.of hq,rfl,_,rfl,_,_,rfl,rfl,⟨gp,gb.mid⟩,_,_,rfl,rfl,⟨bx.mid,bn.over.mid⟩,
  _,rfl,q,_,_,_,rfl,rfl,.of hq,rfl,_,rfl,p,_,_,_,rfl,rfl,.of hp,rfl,_,rfl,_,_,rfl,rfl,⟨gp,gb.mid⟩,_,_,rfl,rfl,⟨fG.mid,bm.over.mid⟩,_,_,rfl,rfl,?_⟩
 refine ⟨_,rfl,_,rfl,_,_,rfl,gb.mid,?_⟩;have ap:(0:Int)<(Int.gcd (x*(n / (Int.gcd m n:Int))+y*(m / (Int.gcd m n:Int))) (Int.gcd m n:Int):Int):=A1 (by lia)
 have ab:b8 (Int.gcd (x*(n / (Int.gcd m n:Int))+y*(m / (Int.gcd m n:Int))) (Int.gcd m n:Int):Int):=gb.gcd (by lia)
 have z:=R9 la lb _ _ rfl _ rfl rfl
 exact ⟨_,rfl,_,rfl,_,_,rfl,rfl,⟨ap,ab.mid⟩,_,rfl,p,_,_,_,rfl,rfl,.of hp,rfl,_,rfl,_,_,rfl,rfl,⟨gp,gb.mid⟩,_,rfl,q,_,_,_,rfl,rfl,.of hq,rfl,_,rfl,_,_,rfl,rfl,⟨ap,ab.mid⟩,_,_,rfl,rfl,⟨bm.over.mid,bn.over.mid⟩,n2,
  fun r hr=>k r _ _ _ (aT hr) az z.1 z.2⟩
theorem WO:a8 ["a","b"] ["a","b"] (aM B2):=bH
theorem WQ(T:Txt K mg t):aY P w K mg base bI 3 t.rn t.vc ["a","b"] Sd:=by
 have S:=WO;refine T.wH.bS S (fun _ _ _ _ H _ _ _ hr h=>?_);obtain ⟨p,q,x,m,y,n,rfl,hp,hq,la,lb,bx,bm,fG,bn,k⟩:=h;refine ⟨_,(aq (aI (aB (WN T) hr T.Mw T.wG.kp T.Mv aE (aa (pv 0) (aa (fJ (aa (Au Ax (ai aC (pv 1) ag)) (aa (ai aC (pv 1) ag) ae))) ae))))),?_⟩
 exact ⟨_,rfl,_,rfl,q,_,_,_,rfl,rfl,.of hq,rfl,_,rfl,_,rfl,q,_,_,_,rfl,rfl,.of hq,rfl,by show 2≤sizeLine;decide,fun r hr=>⟨p,r,x,m,-y,n,rfl,aT hr _ _ hp,az,la,lb.neg,bx,bm,fG.neg,bn,
  fun r' H' u d s' e l z=>k r' H' u d ((aT hr).trans s') e l (by rw [z,tY,Int.sub_eq_add_neg])⟩⟩
theorem WR:a8 ["a","b","first","second"] ["a","b"] (aM B3):=bH
theorem Gs(T:Txt K mg t):aY P w K mg base bI 2 t.rq t.vd ["a","b"] Se:=by
 have S:=WR;refine T.oW.bS S (fun _ _ _ _ H _ _ _ hr h=>?_);obtain ⟨p,q,x,m,y,n,rfl,hp,hq,la,lb,bx,bm,fG,bn,k⟩:=h
 refine ⟨_,(ak (putL 2 S.nd (aB (y9 T) hr T.vZ T.l6.kp T.vY aE (aa (ai aC (pv 0) ag) (aa (ai aC (pv 1) ag) ae))))
  (ak (putL 3 S.nd (aB (y9 T) hr T.vZ T.l6.kp T.vY aE (aa (ai aC (pv 1) ag) (aa (ai aC (pv 0) ag) ae))))
  (aq (aI (fJ (aa (ax gu (ax mM (ai aC (pv 0) ag) (pv 2)) (ax mM (ai aC (pv 1) ag) (pv 3))) (aa (ax gu (ax mM (ai aC (pv 0) ag) (pv 3)) (ax mM (ai aC (pv 1) ag) (pv 2))) ae))))))),?_⟩
 have n2:2≤sizeLine:=by decide
 have m0:=la.pos;have n0:=lb.pos;have gp:(0:Int)<(Int.gcd x n:Int):=A1 (by lia)
 have gb:b8 (Int.gcd x n:Int):=bn.gcd (by lia)
 have ap:(0:Int)<(Int.gcd y m:Int):=A1 (by lia)
 have ab:b8 (Int.gcd y m:Int):=bm.gcd (by lia)
 refine ⟨_,rfl,p,_,_,_,rfl,rfl,.of hp,rfl,_,rfl,q,_,_,_,rfl,rfl,.of hq,rfl,x,n,rfl,bn.mid,?_⟩;refine ⟨_,rfl,q,_,_,_,rfl,rfl,.of hq,rfl,_,rfl,p,_,_,_,rfl,rfl,.of hp,rfl,y,m,rfl,bm.mid,?_⟩;have z:=R7 la lb
 exact ⟨_,rfl,p,_,_,_,rfl,rfl,.of hp,rfl,_,rfl,_,_,rfl,rfl,⟨gp,gb.mid⟩,_,rfl,q,_,_,_,rfl,rfl,.of hq,rfl,_,rfl,_,_,rfl,rfl,⟨ap,ab.mid⟩,_,_,rfl,rfl,⟨bx.over.mid,fG.over.mid⟩,
  _,rfl,p,_,_,_,rfl,rfl,.of hp,rfl,_,rfl,_,_,rfl,rfl,⟨ap,ab.mid⟩,_,rfl,q,_,_,_,rfl,rfl,.of hq,rfl,_,rfl,_,_,rfl,rfl,⟨gp,gb.mid⟩,_,_,rfl,rfl,⟨bm.over.mid,bn.over.mid⟩,n2,
  fun r hr=>k r _ _ _ (aT hr) az z.1 z.2⟩
theorem WS:a8 ["a","b"] ["a","b"] (aM B4):=bH
theorem WT(T:Txt K mg t):aY P w K mg base (dW P w) 3 t.rz t.ve ["a","b"] (Sg t.i7):=by
 have S:=WS;refine T.wI.fz S (fun _ _ _ _ H _ _ _ hr h L=>?_);obtain ⟨p,q,x,m,y,n,rfl,hp,hq,la,lb,bx,bm,fG,bn,kE,k⟩:=h
 refine ⟨_,(ak (bL (bj dU (ai aC (pv 1) ag) ag) (aq (ou L rfl nX T.C0 rfl T.CV (aa dY ae))) bO)
  (eP.lC (ak (bL (bj om (ai aC (pv 1) ag) ag) (aq (aI (aB (Gs T) hr T.CO T.oW.kp T.CN aE (aa (pv 0) (aa (fJ (aa (Au Ax (ai aC (pv 1) ag)) (aa (Au Ax (ai aC (pv 1) ag)) ae))) ae))))) bO)
  (aq (aI (aB (Gs T) hr T.CO T.oW.kp T.CN aE (aa (pv 0) (aa (fJ (aa (ai aC (pv 1) ag) (aa (ai aC (pv 1) ag) ae))) ae)))))))),?_⟩
 have n2:2≤sizeLine:=by decide
 refine ⟨_,rfl,q,_,_,_,rfl,rfl,.of hq,rfl,rfl,_,rfl,b7 (fun hz=>?_) (fun hz=>?_)⟩
 ·have hz:y=0:=V.int.inj (eY hz)
  exact ⟨by show 1≤sizeLine;decide,kE hz⟩
 have hz:y≠0:=fun z=>hz (cA (by rw [z]))
 refine ⟨_,rfl,q,_,_,_,rfl,rfl,.of hq,rfl,_,_,rfl,rfl,_,rfl,b7 (fun hn=>?_) (fun hn=>?_)⟩
 ·have hn:y<0:=eY hn
  exact ⟨_,rfl,_,rfl,q,_,_,_,rfl,rfl,.of hq,rfl,_,rfl,_,rfl,q,_,_,_,rfl,rfl,.of hq,rfl,_,rfl,n2,fun r hr=>⟨p,r,x,m,-n,-y,rfl,aT hr _ _ hp,az,la,Sj lb hn,bx,bm,bn.neg,fG.neg,
   fun r' H' u d s' e l z=>k hz r' H' u d ((aT hr).trans s') e l (by rw [k8,k8,k8,tY] at z;omega)⟩⟩
 ·have hn:¬y<0:=fun z=>hn (cA z)
  exact ⟨_,rfl,_,rfl,q,_,_,_,rfl,rfl,.of hq,rfl,_,rfl,q,_,_,_,rfl,rfl,.of hq,rfl,n2,fun r hr=>⟨p,r,x,m,n,y,rfl,aT hr _ _ hp,az,la,Si lb (by lia),bx,bm,bn,fG,
   fun r' H' u d s' e l z=>k hz r' H' u d ((aT hr).trans s') e l z⟩⟩
theorem WU:a8 ["self","a","b"] ["self","a","b"] (aM CI):=bH
theorem Gu(T:Txt K mg t):aY P w K mg base bI 4 t.sN t.vS ["self","a","b"] (kK t.bF (fun x m y n=>x*n-y*m) (fun i j=>i-j)):=by
 have S:=WU;refine T.y4.bS S (fun _ _ _ _ H _ _ _ hr h=>?_);obtain ⟨z,q,v,u,rfl,⟨dx,hx⟩,hc⟩:=h
 refine ⟨_,(ak (bL (bj Az (lF (pv 0) rfl) pY) (aq (aI (aB (WQ T) hr T.Mz T.wH.kp T.Mx aE (aa (pv 1) (aa (pv 2) ae))))) bO)
  (aq (aI (ax ft (ax jV (pv 1) (pv 2)) (lF (pv 0) rfl))))),?_⟩
 refine ⟨_,rfl,z,t.bF,dx,_,_,rfl,hx,T.d_,T.jL,lK _,rfl,_,rfl,?_⟩;rcases hc with ⟨rfl,p,r,x,m,y,n,rfl,rfl,h1⟩ | ⟨q2,i,j,rfl,rfl,i0,i1,k⟩
 ·rw [ar rfl]
  exact dZ ⟨_,rfl,_,rfl,p,r,x,m,y,n,rfl,h1⟩
 ·have hq:q≠0:=by lia
  rw [ao hq] at hx ⊢;exact bM ⟨_,rfl,_,rfl,_,_,rfl,rfl,_,rfl,z,t.bF,dx,_,_,rfl,hx,T.d_,T.jL,lK _,_,_,rfl,rfl,(show (0:Int)<q by lia),k⟩
theorem WV:a8 ["self","a","b"] ["self","a","b"] (aM CJ):=bH
theorem Gv(T:Txt K mg t):aY P w K mg base bI 4 t.sO t.vT ["self","a","b"] (kK t.bF (fun x m y n=>x*y) (fun i j=>i*j)):=by
 have S:=WV;refine T.y6.bS S (fun _ _ _ _ H _ _ _ hr h=>?_);obtain ⟨z,q,v,u,rfl,⟨dx,hx⟩,hc⟩:=h
 refine ⟨_,(ak (bL (bj Az (lF (pv 0) rfl) pY) (aq (aI (aB (Gs T) hr T.CO T.oW.kp T.CN aE (aa (pv 1) (aa (pv 2) ae))))) bO)
  (aq (aI (ax ft (ax eZ (pv 1) (pv 2)) (lF (pv 0) rfl))))),?_⟩
 refine ⟨_,rfl,z,t.bF,dx,_,_,rfl,hx,T.d_,T.jL,lK _,rfl,_,rfl,?_⟩;rcases hc with ⟨rfl,p,r,x,m,y,n,rfl,rfl,h1⟩ | ⟨q2,i,j,rfl,rfl,i0,i1,k⟩
 ·rw [ar rfl]
  exact dZ ⟨_,rfl,_,rfl,p,r,x,m,y,n,rfl,h1⟩
 ·have hq:q≠0:=by lia
  rw [ao hq] at hx ⊢;exact bM ⟨_,rfl,_,rfl,_,_,rfl,rfl,.inl ⟨by lia,by lia⟩,_,rfl,z,t.bF,dx,_,_,rfl,hx,T.d_,T.jL,lK _,_,_,rfl,rfl,(show (0:Int)<q by lia),k⟩
theorem WW:a8 ["self","a","b"] ["self","a","b"] (aM CK):=bH
theorem Ny(T:Txt K mg t):aY P w K mg base (dW P w) 4 t.sP t.vU ["self","a","b"] (A2 t.bF t.i7):=by
 have S:=WW;refine T.y7.fz S (fun _ _ _ _ H _ _ _ hr h L=>?_);obtain ⟨z,q,v,u,rfl,⟨dx,hx⟩,hc⟩:=h
 refine ⟨_,(ak (bL (bj Az (lF (pv 0) rfl) pY) (aq (aI (aB (WT T) hr T.MB T.wI.kp T.MA (oq L) (aa (pv 1) (aa (pv 2) ae))))) bO)
  (aq (aI (aB (Nx T) hr T.F0 T.sY.kp T.FZ (oq L) (aa (lF (pv 0) rfl) (aa (pv 1) (aa (pv 2) ae))))))),?_⟩
 refine ⟨_,rfl,z,t.bF,dx,_,_,rfl,hx,T.d_,T.jL,lK _,rfl,_,rfl,?_⟩;rcases hc with ⟨rfl,p,r,x,m,y,n,rfl,rfl,h1⟩ | ⟨q2,i,j,rfl,rfl,h1⟩
 ·rw [ar rfl]
  exact dZ ⟨_,rfl,_,rfl,p,r,x,m,y,n,rfl,h1⟩
 ·have hq:q≠0:=by lia
  rw [ao hq] at hx ⊢;exact bM ⟨_,rfl,z,t.bF,dx,_,_,rfl,hx,T.d_,T.jL,lK _,_,rfl,_,rfl,q,i,j,rfl,q2,h1⟩
theorem WX:a8 ["world","work","place","others","head","i","row","j"] ["world","work","place","others"] (aM BU):=bH
theorem WY(T:Txt K mg t):aY P w K mg base bI 5 t.qY t.u4 ["world","work","place","others"] (UJ t.bF):=by
 have S:=WX;have Gw:=Ny (P:=P) (w:=w) (base:=base) T;have y_:=Gu (P:=P) (w:=w) (base:=base) T;have za:=Gv (P:=P) (w:=w) (base:=base) T;refine T.wA.bS S (fun _ A _ _ H _ _ _ hr h=>?_);obtain ⟨z,a,b,q,n,X,p,rs,vf,ms,Tw,U,T',U',rfl,hw,hq,hW,eb,bz,pn,Gx,nd,xn,X1,dB,hF,hB,gg,kk⟩:=h
 refine ⟨_,(ak (putL 4 S.nd (ai aV (pv 1) (pv 2)))
  (aq (cN cq rfl (dR (pv 3)) (bV (i:=5) S.nd rfl (Or.inl rfl))
   (ak (putL 6 S.nd (ai aV (pv 1) (pv 5)))
  (ak (@gj _ _ _ _ _ _ (jX (pv 0) T.d_ T.y8 Gw (hr.mono (by decide)) T.Gm .nil lI (aa (ai aV (pv 6) (pv 2)) (aa (ai aV (pv 4) (pv 2)) ae))) (gU (pv 6) (pv 2) set_list) (by rfl) (by rfl) (by rfl))
  (aq (cN cq rfl (dR (pv 3)) (bV (i:=7) S.nd rfl (Or.inl rfl))
   (aq (@gj _ _ _ _ _ _ (jX (pv 0) T.d_ T.xh y_ (hr.mono (by decide)) T.CT .nil aE (aa (ai aV (pv 6) (pv 7)) (aa (jX (pv 0) T.d_ T.xi za (hr.mono (by decide)) T.CU .nil aE (aa (ai aV (pv 6) (pv 2)) (aa (ai aV (pv 4) (pv 7)) ae))) ae))) (gU (pv 6) (pv 7) set_list) (by rfl) (by rfl) (by rfl)))))))))),?_⟩
 obtain ⟨dz,hz⟩:=id hw;have zr:∀{Hx:Hp},fN n rs H Hx→eK t.bF Hx z q:=fun{Hx} o=>⟨dz,o z _ (fun i hi=>(bz i hi).2) hz⟩;have br:∀{Hx:Hp},fN n rs H Hx→Hx b=some (.lst (bg ms)):=fun{Hx} o=>o b _ (fun i hi=>(bz i hi).1) eb;have iL:X≤10 ^ 300:=aH dB (by decide +kernel)
 have XX:X*X≤10 ^ 300:=aH (fU dB dB) (by decide +kernel)
 refine aw fun _ hR=>aW ⟨_,rfl,_,rfl,a,_,_,_,rfl,rfl,.of hW.lst,bK pn,hR _ _ ?_⟩;refine ⟨_,rfl,b,rfl,⟨_,.of eb⟩,?_⟩;refine iR (K:=K) (a:=b) (xs:=bg ms) (fun k σ Hc=>∃(fE:Nat→Nat→V) (v5 v6 v7:Option V),σ=[some (.ref z),some (.ref a),some (.int (p:Int)),some (.ref b),some (.ref (rs p)),v5,v6,v7]∧fN n rs H Hc∧WTab Hc a n rs fE∧fe X Hc q n fE (fg (fun i _=>decide (i∈ms.take k)) Tw T') (fg (fun i _=>decide (i∈ms.take k)) U U')) ⟨vf,_,_,_,rfl,fN.refl _ _ _,hW,hF.to fun i j _ _=>⟨cK (by simp),cK (by simp)⟩⟩ (fun k σ Hc _ ⟨_,_,_,_,_,oc,_⟩=>.of (br oc)) ?_ ?_
 ·rintro k x σ Hc hx ⟨fE,v5,v6,v7,rfl,oc,Wc,Fc⟩
  obtain ⟨i,hi,rfl⟩:=int_at hx;have im:=hU hi;obtain ⟨cE,ip⟩:=Gx i im;have ik:=Bq nd hi;have pk:p∉ms.take k:=fun z=>(Gx p (xQ z)).2 rfl;have fi:decide (i∈ms.take k)=false:=c_ ik;have fp:decide (p∈ms.take k)=false:=c_ pk;dsimp only [b6];refine aw fun _ hR=>aW ⟨_,rfl,_,rfl,a,_,_,_,rfl,rfl,.of Wc.lst,bK cE,hR _ _ ?_⟩;have tE:=Fc i p cE pn;have Gy:=Fc p p pn pn;rw [cK fi,cK fi] at tE;rw [cK fp,cK fp] at Gy;obtain ⟨C2,gO⟩:=zr oc;refine aw fun _ hR=>aW ⟨_,rfl,z,C2,_,rfl,gO,j6 (by decide +kernel),_,rfl,_,rfl,rs i,_,_,_,rfl,rfl,.of (Wc.at' i cE),bK pn,_,rfl,_,rfl,rs p,_,_,_,rfl,rfl,.of (Wc.at' p pn),bK pn,?_⟩
  dsimp only [kB];show A2 t.bF t.i7 [.ref z,fE i p,fE p p] _ _ _;refine Li (Y':=(Tw i p*U p p).natAbs+(U i p*Tw p p).natAbs) (zr oc) hq tE Gy iL iL gg.iG (by lia) (by lia) fun v' H1 s1 w1=>?_
  have W1:=Wc.mono s1;have w1:=(w1.eq hq (gg.low i im) (gg.nz i p cE pn)).bd (gg.bt i p cE pn).1 (gg.bt i p cE pn).2;refine ⟨_,rfl,_,rfl,rs i,_,_,p,rfl,rfl,W1.at' i cE,by rw [aR,cC];exact iF pn,hR _ _ ?_⟩
  have W2:=W1.put (j:=p) v' cE;have C3:fN n rs H (upd H1 (rs i) (.lst (((List.range n).map (fE i)).set p v'))):=(oc.same s1).put cE;have F2:fe X (upd H1 (rs i) (.lst (((List.range n).map (fE i)).set p v'))) q n (j_ fE i p v') (fg (fun i' j'=>decide (i'∈ms.take k) || (decide (i'=i) && (decide (j'=p) || decide (j'∈ms.take 0)))) Tw T') (fg (fun i' j'=>decide (i'∈ms.take k) || (decide (i'=i) && (decide (j'=p) || decide (j'∈ms.take 0)))) U U'):=Fc.put (fun v t u h=>(h.mono s1).put (W1.at' i cE)) (by rw [d5 (by simp),d5 (by simp)];exact w1.put (W1.at' i cE)) fun i' j' _ _ ne=>by
   by_cases h1:i'∈ms.take k
   ·rw [d5 (by simp [h1]),d5 (by simp [h1]),d5 (by simp [h1]),d5 (by simp [h1])]
    exact ⟨rfl,rfl⟩
   ·by_cases h2:i'=i
    ·have h3:j'≠p:=fun z=>ne ⟨h2,z⟩
     rw [cK (by simp [h1,h3]),cK (by simp [h1]),cK (by simp [h1,h3]),cK (by simp [h1])]
     exact ⟨rfl,rfl⟩
    ·rw [cK (by simp [h1,h2]),cK (by simp [h1]),cK (by simp [h1,h2]),cK (by simp [h1])]
     exact ⟨rfl,rfl⟩
  generalize upd H1 (rs i) (.lst (((List.range n).map (fE i)).set p v'))=H2 at W2 C3 F2 ⊢;refine ⟨_,rfl,b,rfl,⟨_,.of (br C3)⟩,?_⟩;refine iR (K:=K) (a:=b) (xs:=bg ms) (fun l σ Hd=>∃(oX:Nat→Nat→V) (v7:Option V),σ=[some (.ref z),some (.ref a),some (.int (p:Int)),some (.ref b),some (.ref (rs p)),some (.int (i:Int)),some (.ref (rs i)),v7]∧fN n rs H Hd∧WTab Hd a n rs oX∧fe X Hd q n oX (fg (fun i' j'=>decide (i'∈ms.take k) || (decide (i'=i) && (decide (j'=p) || decide (j'∈ms.take l)))) Tw T') (fg (fun i' j'=>decide (i'∈ms.take k) || (decide (i'=i) && (decide (j'=p) || decide (j'∈ms.take l)))) U U')) ⟨_,_,rfl,C3,W2,F2⟩ (fun l σ Hd _ ⟨_,_,_,od,_⟩=>.of (br od)) ?_ ?_
  ·clear F2 W2 C3 w1 W1 tE Gy Fc Wc oc
   rintro l x σ Hd hx ⟨oX,v7,rfl,od,Wd,Fd⟩;obtain ⟨j,hj,rfl⟩:=int_at hx;have jm:=hU hj;obtain ⟨fh,jp⟩:=Gx j jm;have jl:=Bq nd hj;have xo:=Fd i j cE fh;have tE:=Fd i p cE pn;have Gz:=Fd p j pn fh;rw [cK (by simp [ik,jp,jl]),cK (by simp [ik,jp,jl])] at xo
   rw [d5 (by simp),d5 (by simp)] at tE
   rw [cK (by simp [pk,Ne.symm ip]),cK (by simp [pk,Ne.symm ip])] at Gz
   obtain ⟨C2,gO⟩:=zr od;dsimp only [b6];refine aW ⟨_,rfl,z,C2,_,rfl,gO,j6 (by decide +kernel),_,rfl,_,rfl,rs i,_,_,_,rfl,rfl,.of (Wd.at' i cE),bK fh,_,rfl,z,C2,_,rfl,gO,j6 (by decide +kernel),_,rfl,_,rfl,rs i,_,_,_,rfl,rfl,.of (Wd.at' i cE),bK pn,_,rfl,_,rfl,rs p,_,_,_,rfl,rfl,.of (Wd.at' p pn),bK fh,?_⟩
   have nk:=tE.choose_spec.choose_spec.2.2;have tF:=Gz.choose_spec.choose_spec.2.2;have WZ:=xo.choose_spec.choose_spec.2.2;dsimp only [kB];show kK t.bF (fun x m y n=>x*y) (fun i j=>i*j) [.ref z,oX i p,oX p j] _ _ _;refine E9 (Y':=(T' i p*Tw p j).natAbs+(U' i p*U p j).natAbs) (zr od) hq tE Gz iL iL (dh hq nk tF) (by lia) (by lia) fun v1 H1 s1 w1=>?_
   have w1:aJ (X*X) H1 q v1 (T' i p*Tw p j) (U' i p*U p j):=w1.bd (by rw [fH];exact fU (gg.bt i p cE pn).1 (hB p j pn fh).1) (by rw [fH];exact fU (gg.bt i p cE pn).2 (hB p j pn fh).2)
   show kK t.bF (fun x m y n=>x*n-y*m) (fun i j=>i-j) [.ref z,oX i j,v1] _ _ _;refine E8 (Y':=(Tw i j*(U' i p*U p j)-T' i p*Tw p j*U i j).natAbs+(U i j*(U' i p*U p j)).natAbs) (zr (od.same s1)) hq (xo.mono s1) w1 iL XX (dh hq WZ (dh hq nk tF)) (by lia) (by lia) fun v2 H2 s2 w2=>?_
   have W1:=Wd.mono (s1.trans s2);have w2:=(w2.eq hq (gg.ent i im j jm) (gg.nz i j cE fh)).bd (gg.bt i j cE fh).1 (gg.bt i j cE fh).2;refine ⟨_,rfl,_,rfl,rs i,_,_,j,rfl,rfl,W1.at' i cE,by rw [aR,cC];exact iF fh,?_⟩
   refine ⟨_,_,rfl,(od.same (s1.trans s2)).put cE,W1.put (j:=j) v2 cE,Fd.put (fun v t u h=>(h.mono (s1.trans s2)).put (W1.at' i cE)) (by rw [d5 (by simp [take_snoc hj]),d5 (by simp [take_snoc hj])];exact w2.put (W1.at' i cE)) fun i' j' _ _ ne=>?_⟩
   have ej:(fun i' j'=>decide (i'∈ms.take k) || (decide (i'=i) && (decide (j'=p) || decide (j'∈ms.take (l+1))))) i' j'=(fun i' j'=>decide (i'∈ms.take k) || (decide (i'=i) && (decide (j'=p) || decide (j'∈ms.take l)))) i' j':=by
    dsimp only;by_cases h2:i'=i
    ·have h3:j'≠j:=fun z=>ne ⟨h2,z⟩
     rw [take_snoc hj];simp [h3]
    ·simp [h2]
   constructor <;> (unfold fg;rw [ej])
  ·rintro σ Hd ⟨oX,v7,rfl,od,Wd,Fd⟩
   refine ⟨oX,_,_,_,rfl,od,Wd,Fd.Ll hq fun i' j' cR du=>?_⟩;have ll:(bg ms).length=ms.length:=aR _;rw [ll,je,take_snoc hi];by_cases h1:i'∈ms.take k
   ·refine .inl ?_
    rw [d5 (by simp [h1]),d5 (by simp [h1]),d5 (by simp [h1]),d5 (by simp [h1])]
    exact ⟨rfl,rfl⟩
   ·by_cases h2:i'=i
    ·subst h2
     by_cases h3:j'=p∨j'∈ms
     ·refine .inl ?_
      rw [d5 (by simp),d5 (by simpa [h1] using h3),d5 (by simp),d5 (by simpa [h1] using h3)]
      exact ⟨rfl,rfl⟩
     ·rw [not_or] at h3
      refine .inr ?_;have a1:∀A A':Nat→Nat→Int,fg (fun i _=>decide (i∈ms.take k++[i'])) A A' i' j'=A' i' j':=fun A A'=>d5 (by simp)
      have a2:∀A A':Nat→Nat→Int,fg (fun Nz NA=>decide (Nz∈ms.take k) || (decide (Nz=i') && (decide (NA=p) || decide (NA∈ms)))) A A' i' j'=A i' j':=fun A A'=>cK (by simp [h1,h3.1,h3.2])
      rw [a1,a1,a2,a2];exact ⟨gg.yH i' j' cR du (.inr h3),gg.nz i' j' cR du,gg.bt i' j' cR du⟩
    ·refine .inl ?_
     rw [cK (by simp [h1,h2]),cK (by simp [h1,h2]),cK (by simp [h1,h2]),cK (by simp [h1,h2])]
     exact ⟨rfl,rfl⟩
 ·rintro σ Hc ⟨fE,v5,v6,v7,rfl,oc,Wc,Fc⟩
  have ll:(bg ms).length=ms.length:=aR _;rw [ll,je] at Fc;refine kk Hc fE oc Wc (Fc.Ll hq fun i' j' cR du=>?_);by_cases h1:i'∈ms
  ·refine .inl ?_
   rw [d5 (by simp [h1]),d5 (by simp [h1])]
   exact ⟨rfl,rfl⟩
  ·refine .inr ?_
   rw [cK (by simp [h1]),cK (by simp [h1])]
   exact ⟨gg.yH i' j' cR du (.inl h1),gg.nz i' j' cR du,gg.bt i' j' cR du⟩
theorem W0:a8 ["table","wide"] ["table"] (aM BE):=bH
theorem W9(T:Txt K mg t):aY P w K mg base (dW P w) 1 t.qI t.uM ["table"] (Tn t.l4):=by
 have S:=W0;refine T.vV.fz S (fun _ _ _ _ H vs _ _ hr h L=>?_);obtain ⟨a,q,B,ah,m,rfl,⟨vs,ea,hl,hn⟩,h1,zb,hm,k⟩:=h
 refine ⟨_,(ak (bL (bj dU (bW e8 rfl T.dH dO (aa (pv 0) ae)) ag) (aq (aI ag)) bO)
  (ak (Eu 1 S.nd (bW e8 rfl T.dH dO (aa (ai aV (pv 0) ag) ae)))
  (ak (bL (fW (bW (Sz (K:=K) rfl) rfl T.Nm boot_any (aa (jz (N:=["row","wide"]) (ρ:=(fun σ=>[σ[1]?.join])) (fZ [1] rfl) rfl (dR (pv 0)) (fun _ _ _=>.nil) (fun _ _ _=>(kz gI (bW (yv (K:=K)) rfl T.dH dO (aa (pv 0) ae)) (pv 1)))) ae))) (aq (ou L rfl nX T.C1 rfl T.CW (aa dY ae))) bO)
  (aq (aI (pv 1)))))),?_⟩
 have h0:0<vs.length:=by lia
 refine ⟨_,rfl,a,vs,rfl,.inl (.of ea),rfl,false,by rw [gv,c_ (by lia)],bM ?_⟩
 have W_:0<ah.length:=by lia
 obtain ⟨r,er,us,eu,lu,_⟩:=hn 0 vs[0] ah[0] (by simp [h0]) (by simp [W_])
 have hm0:=hm ah[0] (dN ..);refine ⟨_,rfl,a,vs,_,vs[0],rfl,rfl,.of ea,(by exact gJ (j:=0) (by simp [h0])),r,us,by rw [er],.inl (.of eu),?_⟩
 have em:(us.length:Int)=(m:Int):=by lia
 rw [em];dsimp only [b6];have Xa:∀(i:Nat) (v:V),vs[i]?=some v→∃(r:Addr) (us:List V),v=.ref r∧H r=some (.lst us)∧us.length=m:=fun i v e=>by
  have cR:i<ah.length:=by rw [←hl];exact (bQ.mp e).1
  obtain ⟨r,e1,us,e2,e3,_⟩:=hn i v ah[i] e (by simp [cR])
  exact ⟨r,us,e1,e2,by rw [e3];exact hm _ (dN ..)⟩
 refine oJ (SX (SY (Ba (EC (xs:=vs) (fun R h=>⟨_,rfl,a,rfl,⟨_,.of ea⟩,h _ _ (af.refl _) (j7 (.of ea))⟩) (by rw [hl];exact dq (by lia)) (fun _ i y _=>y=.bl false) (fun _ _ _ _ _ _ h _ _=>h) ?_ ?_))))
 ·intro D i v hi Hc R sc _ kc
  obtain ⟨r',kg,rfl,e2,e3⟩:=Xa i v hi;refine ⟨_,rfl,r',kg,rfl,.inl (.of (sc _ _ e2)),_,rfl,rfl,?_⟩;have zz:(!decide (V.int (kg.length:Int)=V.int (m:Int)))=false:=by rw [gv,cA (by lia)];rfl
  rw [zz];exact kc _ Hc (af.refl _) rfl
 ·intro D ys Hc sc kh hP eD
  refine ⟨D,List.replicate ys.length false,rfl,.of (by rw [eD];exact hJ _ (hJ _ (Kj hP))),false,by rw [S0],bM ?_⟩
  exact ⟨_,rfl,k Hc sc⟩
theorem Xb:a8 ["table"] ["table"] (aM BF):=bH
theorem Xc(T:Txt K mg t):aY P w K mg base (dW P w) 2 t.qJ t.uN ["table"] (To t.l4):=by
 have S:=Xb;refine T.vW.fz S (fun _ _ _ _ H vs _ _ hr h L=>?_);obtain ⟨a,q,B,ah,m,rfl,hA,h1,zb,hm,kE,k⟩:=h
 refine ⟨_,(ak (bL (bj gI (aB (W9 T) hr T.LU T.vV.kp T.LS (oq L) (aa (pv 0) ae)) (bW e8 rfl T.dH dO (aa (pv 0) ae))) (aq (ou L rfl nX T.C1 rfl T.CW (aa dY ae))) bO)
  (aq (aI (bW e8 rfl T.dH dO (aa (pv 0) ae))))),?_⟩
 refine ⟨_,rfl,a,q,B,ah,m,rfl,hA,h1,zb,hm,fun H1 s1=>?_⟩;obtain ⟨vs,ea,lv,_⟩:=id (hA.mono s1);refine ⟨_,rfl,a,vs,rfl,.inl (.of ea),rfl,_,rfl,b7 (fun fB=>?_) (fun fB=>?_)⟩
 ·have fB:m≠ah.length:=fun z=>by
   have:(m:Int)=(vs.length:Int):=by lia
   rw [gv,cA this] at fB;cases fB
  exact ⟨by show 1≤sizeLine;decide,kE fB H1 s1⟩
 ·have heq:m=ah.length:=by
   by_cases z:(m:Int)=(vs.length:Int);·lia
   ·exact absurd (by rw [gv,c_ z];rfl) fB
  have z:=k heq H1 s1;dsimp only [DR];refine ⟨_,rfl,a,vs,rfl,.inl (.of ea),?_⟩;rw [show (vs.length:Int)=(m:Int) by lia]
  exact z
theorem Xd:a8 ["world","table","i","nought"] ["world","table","i"] (aM BK):=bH
theorem Xe(T:Txt K mg t):aY P w K mg base bI 4 t.qO t.uT ["world","table","i"] (Tz t.bF):=by
 have S:=Xd;have xp:=Gr (P:=P) (w:=w) (base:=base) T;obtain ⟨dv,xq,gC⟩:=T.CQ;refine T.wc.bS S (fun _ _ _ _ H vs _ _ hr h=>?_);obtain ⟨z,a,q,B,ah,n,i,rfl,⟨dz,hd⟩,hq,hT,ln,i9,hm,hi,kk⟩:=h;have hu:=hr.qe
 refine ⟨_,(ak (Eu 3 S.nd (jX (pv 0) T.d_ T.y3 xp (hr.mono (by decide)) gC xq lI (aa ag ae)))
  (aq (aI (jz (N:=["j","i","table","nought"]) (ρ:=(fun σ=>[σ[2]?.join,σ[1]?.join,σ[3]?.join])) (fZ [2,1,3] rfl) rfl (As rfl T.eA (aa (ax dS (pv 2) ag) (aa (bW e8 rfl T.dH dO (aa (pv 1) ae)) ae))) (fun _ _ _=>(.one (PW.pt (pw_or (bj (Bf (K:=K) hu) (ai (oM (K:=K)) (ai (oM (K:=K)) (pv 2) (pv 1)) (pv 0)) (pv 3)) (pw_or1 (bj (Bf (K:=K) hu) (ai (oM (K:=K)) (ai (oM (K:=K)) (pv 2) (pv 0)) (pv 1)) (pv 3))))))) (fun _ _ _=>(fJ (aa (pv 1) (aa (pv 0) ae)))))))),?_⟩
 have nv:=EG hq;refine ⟨_,rfl,z,dz,_,rfl,hd,j6 (by decide +kernel),z,q,0,1,rfl,⟨dz,hd⟩,hq,eS.of_lt (by decide) (by decide),fun h=>absurd h nv,fun _ v0 H1 s1 ho=>?_⟩
 have h0:=Bb (B:=1000) (by decide) ho hq (.inl rfl)
 dsimp only [b6];obtain ⟨vs,ea,lv,hv⟩:=id (hT.mono s1);have cell:∀i j,i<n→j<n→∃(r:Addr) (ws:List V) (v:V),vs[i]?=some (.ref r)∧H1 r=some (.lst ws)∧ws[j]?=some v∧a_ B H1 q v ((ah.getD i []).getD j o1).1 ((ah.getD i []).getD j o1).2:=fun i j hi hj=>by
  have i1:i<vs.length:=by lia
  have i2:i<ah.length:=by lia
  obtain ⟨r,e,ws,er,lw,fw⟩:=hv i vs[i] ah[i] (by simp [i1]) (by simp [i2])
  have lp:=hm ah[i] (dN i2);have j1:j<ws.length:=by lia
  have j2:j<ah[i].length:=by lia
  refine ⟨r,ws,ws[j],by rw [←e];simp [i1],er,by simp [j1],?_⟩
  rw [getD_at i2,getD_at j2];exact fw j _ _ (by simp [j1]) (by simp [j2])
 refine iV (Kv (xs:=(List.range (n-(i+1))).map fun k:Nat=>V.int ((i:Int)+1+(k:Int))) (fun k=>b5 ah i (i+1+k)) (fun R h=>⟨_,rfl,_,_,rfl,rfl,_,rfl,a,vs,rfl,.inl (.of ea),_,_,rfl,⟨by lia,by lia,by lia,by lia⟩,h _ ?_⟩) (by rw [aR,cC];exact dq (by lia)) (fun _ k y Hx=>∃b:Addr,y=.ref b∧Hx b=some (.tup [.int (i:Int),.int ((i+1+k:Nat):Int)])) (fun D k y Ha Hb ys ⟨b,h1,h2⟩ e f=>⟨b,h1,f b _ (fun z=>by rw [z,e] at h2;cases h2) h2⟩) ?_ ?_ ?_)
 ·rw [show ((vs.length:Int)-((i:Int)+1)).toNat=n-(i+1) by lia]
  exact uu
 ·intro k x hx Hc R sc hR
  have hk:k<n-(i+1):=by have:=(bQ.mp hx).1;simpa using this
  rw [cz,hV hk] at hx;cases hx;have ej:(i:Int)+1+(k:Int)=((i+1+k:Nat):Int):=by lia
  obtain ⟨r1,w1,v1,a1,a2,a3,a4⟩:=cell i (i+1+k) hi (by lia)
  obtain ⟨r2,w2,v2,b1,b2,b3,b4⟩:=cell (i+1+k) i (by lia) hi
  have C4:=sc _ _ ea;refine ⟨_,rfl,_,rfl,a,vs,_,.ref r1,rfl,rfl,.of C4,gJ a1,_,rfl,r1,w1,_,v1,rfl,rfl,.of (sc _ _ a2),(by show gZ w1 ((i:Int)+1+(k:Int))=_;rw [ej];exact gJ a3),_,rfl,uB (a4.mono sc) (h0.mono sc) ⟨_,rfl,b7 (fun hb=>?_) (fun hb=>?_)⟩⟩
  ·have e:b5 ah i (i+1+k)=true:=by unfold b5 jE;rw [hb,Bool.true_or]
   rw [e] at hR;exact hR
  ·have e:b5 ah i (i+1+k)=jE ah (i+1+k) i:=by
    have zc:jE ah i (i+1+k)=false:=by unfold jE;simpa using hb
    unfold b5;rw [zc,xI]
   rw [e] at hR;refine ⟨_,rfl,_,rfl,a,vs,_,.ref r2,rfl,rfl,.of C4,(by show gZ vs ((i:Int)+1+(k:Int))=_;rw [ej];exact gJ b1),_,rfl,r2,w2,_,v2,rfl,rfl,.of (sc _ _ b2),gJ b3,_,rfl,uB (b4.mono sc) (h0.mono sc) ⟨_,rfl,hR⟩⟩
 ·intro D k x hx Hc R sc _ kc
  have hk:k<n-(i+1):=by have:=(bQ.mp hx).1;simpa using this
  rw [cz,hV hk] at hx;cases hx;refine ⟨_,rfl,_,rfl,by show 2≤sizeLine;decide,fun tp dI=>?_⟩
  refine kc _ _ (aT dI) ⟨tp,rfl,?_⟩;rw [az,show ((i+1+k:Nat):Int)=(i:Int)+1+(k:Int) by lia]
 ·intro D ys Hc nD sc hE hP eD
  rw [aR,cC] at hE hP;refine kk D ys Hc (s1.trans sc) (none_of s1 nD) eD ⟨by unfold lS;rw [aR];exact hE,fun k v p h1 h2=>?_⟩
  unfold lS at h2;rw [cz] at h2;cases e:((List.range (n-(i+1))).filter fun k=>b5 ah i (i+1+k))[k]? with
  | none=>rw [e] at h2;cases h2
  | some k'=>rw [e] at h2;cases h2;exact hP k k' v h1 e
theorem Xf:a8 ["world","table","n","links","i"] ["world","table"] (aM BL):=bH
theorem Xg(T:Txt K mg t):aY P w K mg base (dW P w) 6 t.qP t.uU ["world","table"] (TB t.bF t.l4):=by
 have S:=Xf;refine T.we.fz S (fun _ _ _ _ H _ _ _ hr h L=>?_);obtain ⟨z,a,q,B,ah,m,rfl,hz,hq,hT,h1,zb,hm,kE,kk⟩:=h
 refine ⟨_,(ak (putL 2 S.nd (aB (Xc T) hr T.LW T.vW.kp T.LV (oq L) (aa (pv 1) ae)))
  (eP.lC (ak (putL 3 S.nd (eR ae))
  (ak (cN cq rfl (gq rfl T.eA (aa (pv 2) ae)) (bV (i:=4) S.nd rfl (Or.inl rfl))
   (aq (gS (lH jj PySem.F.slot_list_extend PySem.F.type_list_extend Q0 (pv 3) (aa (aB (Xe T) hr T.L4 T.wc.kp T.L3 aE (aa (pv 0) (aa (pv 1) (aa (pv 4) ae)))) ae)))))
  (aq (aI (fJ (aa (pv 2) (aa (gY QS rfl T.xk boot_tuple (aa (pv 3) ae)) ae))))))))),?_⟩
 refine ⟨_,rfl,a,q,B,ah,m,rfl,hT,h1,zb,hm,fun fB H1 s1=>kE fB H1 s1,fun heq H1 s1=>?_⟩;subst heq;have kk:=kk rfl;dsimp only [b6];refine ⟨by show 0≤sizeLine;decide,fun fd GA=>?_⟩
 have s2:af H1 (upd H1 fd (.lst [])):=aT GA;have ef:upd H1 fd (.lst []) fd=some (.lst []):=az;dsimp only [b6];generalize upd H1 fd (.lst [])=H2 at s2 ef ⊢;have dy:=s1.trans s2;have Xh:H fd=none:=none_of s1 GA;refine ⟨_,rfl,(ah.length:Int),rfl,by lia,by lia,?_⟩
 rw [dM];have Xi:∀i,i≤ah.length→(dr ah.length (b5 ah) i).length≤40*i:=fun i=>by
  induction i with
  | zero=>intro _;exact aK _
  | succ i ih=>
   intro hi;have a:=ih (by lia)
   show (dr ah.length (b5 ah) i++lS ah.length (b5 ah) i).length≤_;have b:(lS ah.length (b5 ah) i).length≤40:=by unfold lS;rw [aR];refine aH (DG _ _) ?_;rw [cC];lia
   rw [fo];lia
 refine iu (fun i σ Hc=>∃(us:List V) (v4:Option V),σ=[some (.ref z),some (.ref a),some (.int (ah.length:Int)),some (.ref fd),v4]∧af H Hc∧Hc fd=some (.lst us)∧cW Hc us (dr ah.length (b5 ah) i)) ⟨[],_,rfl,dy,ef,cW.nil _⟩ ?_ ?_
 ·rintro i σ Hc hi ⟨us,v4,rfl,sc,zd,hL⟩
  refine ⟨_,rfl,.inl ⟨rfl,_,.of zd⟩,_,rfl,_,rfl,_,rfl,z,a,q,B,ah,ah.length,i,?_,hz.mono sc,hq,hT.mono sc,rfl,zb,hm,hi,fun r ws Hd sd nr Xj hR=>?_⟩
  ·show [V.ref z,V.ref a,V.int (0+(i:Int))]=_
   rw [hZ]
  have l1:=hL.1;have l2:=hR.1;have l3:=Xi (i+1) (by lia)
  have e3:dr ah.length (b5 ah) (i+1)=dr ah.length (b5 ah) i++lS ah.length (b5 ah) i:=rfl;rw [e3,fo] at l3;refine ⟨fd,r,us,ws,rfl,rfl,sd _ _ zd,Xj,aH (show _≤2000 by lia) (by decide),us++ws,_,rfl,iC (sc.trans sd) Xh,az,?_⟩
  rw [e3];exact ((hL.mono sd).cat hR).bR (sd _ _ zd) fun b o nb e=>by rw [aP nb];exact e
 ·rintro σ Hc ⟨us,v4,rfl,sc,zd,hL⟩
  refine ⟨_,rfl,_,rfl,fd,us,rfl,.inl ⟨.of zd,fun lt Xk=>?_⟩⟩;have sl:af Hc (upd Hc lt (.tup us)):=aT Xk;have el:upd Hc lt (.tup us) lt=some (.tup us):=az;generalize upd Hc lt (.tup us)=Hd at sl el ⊢;refine ⟨by show 2≤sizeLine;decide,fun tp dI=>?_⟩
  have st:af Hd (upd Hd tp (.tup [.int (ah.length:Int),.ref lt])):=aT dI;exact kk tp _ (sc.trans (sl.trans st)) (none_of (sc.trans sl) dI) ⟨lt,us,az,st _ _ el,(hL.mono sl).mono st⟩
theorem Xl:a8 ["shape","linked","i","j"] ["shape"] (aM BM):=bH
theorem Xm(T:Txt K mg t):aY P w K mg base bI 1 t.qQ t.uV ["shape"] Uc:=by
 have S:=Xl;refine T.wg.bS S (fun _ _ _ _ H _ _ _ hr h=>?_);obtain ⟨tp,n,L,rfl,⟨lt,us,dD,elt,hL⟩,ok,n9,kk⟩:=h;have hu:=jQ (Nat.add_le_add_left (show 1≤64 by decide) _) hr.units
 have C5:((List.range n).map fun i:Nat=>V.int (0+(i:Int))).length=n:=by rw [aR,cC]
 refine ⟨_,(ak (uv (i0:=1) (N:=["place"]) (ρ:=(fun σ=>[])) (fZ [] rfl) rfl S.nd rfl (Or.inl rfl) (gq rfl T.eA (aa (ai aC (pv 0) ag) ae)) (fun _ _ _=>.nil) (fun _ _ _=>T6))
  (ak (cN cq rfl (PX (ai aC (pv 0) ag)) (p6 rfl (gT (bV (i:=2) S.nd rfl (Or.inl rfl)) (gT (bV (i:=3) S.nd rfl (Or.inl rfl)) p5)))
   (ak (ER hu (ai aV (pv 1) (pv 2)) (pv 3) eQ rfl)
  (aq (ER hu (ai aV (pv 1) (pv 3)) (pv 2) eQ rfl))))
  (aq (aI (pv 1))))),?_⟩
 refine oJ (aW (lQ (xs:=(List.range n).map fun i:Nat=>V.int (0+(i:Int))) (n:=n) C5 (fun R h=>⟨_,rfl,tp,_,_,_,rfl,rfl,.of dD,rfl,(n:Int),rfl,by lia,by lia,h _ _ (af.refl _) (by rw [dM];exact uu)⟩) (dq (by lia)) (fun _ i y Hx=>Hx y=some (.dK (dk []))∧H y=none) ?_ ?_ ?_))
 ·intro D i y Ha Hb ys ⟨h1,h2⟩ hy e f
  exact ⟨f y _ hy h1,h2⟩
 ·intro D i x hx Hc R sc _ kc
  refine fun p np=>kc p _ (iC (af.refl _) np) np ⟨_,az⟩ ⟨az,?_⟩;cases e:H p with
  | none=>rfl
  | some o=>rw [sc _ _ e] at np;cases np
 ·intro D ds H1 nD s1 inj hA eD
  have K0:eL H1 D n ds (fun _=>True) (fun _=>[]):=⟨eD,inj,fun i hi=>(hA i hi).2,fun i hi _=>(hA i hi).1.1,fun i _=>iE.nil n⟩;have fr:∀i,i<n→H (ds i)=none:=fun i hi=>(hA i hi).1.2;dsimp only [b6];refine oJ ⟨_,rfl,tp,_,_,_,rfl,rfl,.of (s1 _ _ dD),rfl,lt,rfl,⟨_,.of (s1 _ _ elt)⟩,?_⟩;refine P2 (K:=K) (a:=lt) (xs:=us) (fun k σ Hc=>∃(f:Nat→List Nat) (v2 v3:Option V),σ=[some (.ref tp),some (.ref D),v2,v3]∧af H Hc∧eL Hc D n ds (fun _=>True) f∧iW n (L.take k) f) ⟨_,_,_,rfl,s1,K0,iW.nil n⟩ (fun k σ Hc _ ⟨_,_,_,_,sc,_⟩=>.of (sc _ _ elt)) ?_ ?_
  ·rintro k x σ Hc hx ⟨f,v2,v3,rfl,sc,KL,nb⟩
   have hk:k<L.length:=by rw [←hL.1];exact (bQ.mp hx).1
   obtain ⟨b,rfl,eb⟩:=hL.2 k x L[k] hx (by simp [hk])
   have pk:=ok L[k] (dN hk);have tk:L.take (k+1)=L.take k++[L[k]]:=by rw [List.take_succ,dF hk];rfl
   generalize L[k]=p at eb pk tk;obtain ⟨p1,p2⟩:=p;dsimp only at pk eb;obtain ⟨i,rfl⟩:=pN pk.1;obtain ⟨j,rfl⟩:=pN pk.2.2.1;have hi:i<n:=by lia
   have hj:j<n:=by lia
   refine ⟨b,_,rfl,.of (sc _ _ eb),rfl,_,_,rfl,_,_,rfl,rfl,?_⟩;obtain ⟨q1,K1⟩:=KL.put hi hj trivial n9;obtain ⟨q2,K2⟩:=K1.put hj hi trivial n9;refine ⟨_,rfl,_,rfl,D,_,_,_,rfl,rfl,.of KL.lst,KL.ix hi,_,rfl,_,_,rfl,q1,?_⟩;refine ⟨_,rfl,_,rfl,D,_,_,_,rfl,rfl,.of K1.lst,K1.ix hj,_,rfl,_,_,rfl,q2,?_⟩;have off:∀(Hx:Hp) (i:Nat) (o:HO),i<n→af H Hx→af H (upd Hx (ds i) o):=fun Hx i o hi sx a u e=>by
    rw [aP (fun z=>by rw [z,fr i hi] at e;cases e)]
    exact sx _ _ e
   exact ⟨_,_,_,rfl,off _ _ _ hj (off _ _ _ hi sc),K2,by rw [tk];exact nb.more hi hj⟩
  ·rintro σ Hc ⟨f,v2,v3,rfl,sc,KL,nb⟩
   rw [hL.1,je] at nb;exact ⟨_,rfl,kk _ _ _ _ sc nD fr KL nb⟩
theorem Xn:a8 ["many"] ["many"] (aM BS):=bH
theorem Xo(T:Txt K mg t):aY P w K mg base bI 1 t.qX t.u3 ["many"] UC:=by have S:=Xn;refine T.wz.bS S (fun _ _ _ _ H _ _ _ hr h=>?_);obtain ⟨m,rfl,m1,k⟩:=h;refine ⟨_,(aq (aI (ax dS (ax dS (ax eZ (pv 0) (pv 0)) (ax eZ ag (pv 0))) ag))),?_⟩;exact ⟨_,rfl,_,rfl,_,_,rfl,rfl,.inl ⟨by lia,by lia⟩,_,rfl,_,_,rfl,rfl,.inl ⟨by lia,by lia⟩,_,_,rfl,rfl,_,_,rfl,rfl,k⟩
theorem Xp:a8 ["thing","n"] ["thing","n"] (aM BN):=bH
theorem Xq(T:Txt K mg t):aY P w K mg base bI 2 t.qS t.uW ["thing","n"] Ui:=by
 have S:=Xp;refine T.wm.bS S (fun _ _ _ _ H _ _ _ hr h=>?_);obtain ⟨a,zs,n,rfl,ea,ze,n1,k⟩:=h;have jM:=hr.units
 refine ⟨_,(ak (bL (PW.pt (pw_or (ig (fW (bW (lJ (K:=K)) rfl T.kW boot_isinstance (aa (pv 0) (aa (lA (v:=.ty "list") rfl T.i8 boot_list rfl) ae))))) (pw_or1 (ig (fW (bW (RO (K:=K) rfl) rfl T.Nl boot_all (aa (jz (N:=["place"]) (ρ:=(fun σ=>[])) (fZ [] rfl) rfl (dR (pv 0)) (fun _ _ _=>.nil) (fun _ _ _=>(aB (Nw T) hr T.FU T.sR.kp T.FT aE (aa (pv 0) ae)))) ae))))))) (aq (aI eQ)) bO)
  (aq (aI (kz (Ue jM) (bW ES rfl T.CZ DJ (aa (pv 0) ae)) (gY (RS rfl) rfl T.i8 boot_list (aa (gY RQ rfl T.eA RT (aa (pv 1) ae)) ae)))))),?_⟩
 refine ⟨_,rfl,_,_,_,true,rfl,rfl,.of (.lst ea),qm,true,rfl,bM ?_⟩;unfold IQ tB;refine Ba (EC (xs:=zs.map V.int) (fun R h=>⟨_,rfl,a,rfl,⟨_,.of ea⟩,h _ _ (af.refl _) (j7 (.of ea))⟩) (by rw [aR];exact dq (by lia)) (fun _ i y _=>y=.bl true) (fun _ _ _ _ _ _ h _ _=>h) ?_ ?_)
 ·intro D i v hi Hc R sc _ kc
  obtain ⟨z,rfl⟩:∃z:Int,v=.int z:=by
   rw [cz] at hi;cases e:zs[i]? with
   | none=>rw [e] at hi;cases hi
   | some z=>rw [e] at hi;exact ⟨z,(Option.some.inj hi).symm⟩
  exact ⟨_,rfl,.int z,rfl,.int z,kc _ Hc (af.refl _) rfl⟩
 ·intro D ys Hc sc kh hP eD
  refine ⟨D,List.replicate ys.length true,rfl,.of (by rw [eD];exact hJ _ (hJ _ (Kj hP))),?_⟩
  rw [S1];refine ⟨true,rfl,bM ?_⟩;dsimp only [DR];have C4:=sc _ _ ea;refine ⟨_,rfl,a,zs,rfl,C4,ze,fun ws D2 p o n2=>?_⟩;refine ⟨_,rfl,(n:Int),rfl,fun p1 GB=>⟨p1,n,rfl,az,by lia,fun l nl=>?_⟩⟩
  have d1:D2≠p1:=fun z=>by rw [←z,az] at GB;cases GB
  have d2:D2≠l:=fun z=>by rw [←z,aP d1,az] at nl;cases nl
  refine ⟨D2,l,ws,(List.range n).map iN,rfl,rfl,.of ?_,.of ?_,?_⟩;·rw [aP d2,aP d1,az]
  ·rw [az]
   unfold ug;rw [iP];rfl
  ·rw [Uh p o]
   exact k _ (Bi (Bi (Bi sc n2) GB) nl)
theorem Xr:a8 ["order","n"] ["order","n"] (aM BO):=bH
theorem Xs(T:Txt K mg t):aY P w K mg base (dW P w) 3 t.qT t.uX ["order","n"] (Uj t.m6):=by
 have S:=Xr;refine T.wo.fz S (fun _ _ _ _ H _ _ _ hr h L=>?_);obtain ⟨a,zs,n,rfl,ea,ze,n1,kE,k⟩:=h;refine ⟨_,(aq (bL (ig (fW (aB (Xq T) hr T.L_ T.wm.kp T.L9 aE (aa (pv 0) (aa (pv 1) ae))))) (aq (ou L rfl nX T.Nv rfl T.Nk (aa dY ae))) bO)),?_⟩;refine ⟨_,rfl,_,rfl,a,zs,n,rfl,ea,ze,n1,fun H1 s1=>⟨_,rfl,b7 (fun hb=>?_) (fun hb=>?_)⟩⟩;·exact ⟨by show 1≤sizeLine;decide,kE (by simpa using hb) _ s1⟩
 ·exact k (by simpa using hb) _ s1
theorem Xt:a8 ["order","turns","turn","place"] ["order"] (aM BP):=bH
theorem Xu(T:Txt K mg t):aY P w K mg base bI 1 t.qU t.uY ["order"] Ul:=by
 have S:=Xt;refine T.wq.bS S (fun _ _ _ _ H _ _ _ hr h=>?_);obtain ⟨a,n,o,rfl,⟨ea,ho⟩,n1,kk⟩:=h;have lo:=fM ho;have lm:(o.map fun k:Nat=>V.int (k:Int)).length=n:=by rw [aR,lo]
 refine ⟨_,(ak (putL 1 S.nd (ax JP (eR (aa ag ae)) (bW e8 rfl T.dH dO (aa (pv 0) ae))))
  (ak (cN cq rfl (Kn rfl T.Gp (aa (pv 0) ae)) (p6 rfl (gT (bV (i:=2) S.nd rfl (Or.inl rfl)) (gT (bV (i:=3) S.nd rfl (Or.inl rfl)) p5)))
   (aq (@gj _ _ _ _ _ _ (pv 2) (gU (pv 1) (pv 3) set_list) (by rfl) (by rfl) (by rfl))))
  (aq (aI (pv 1))))),?_⟩
 refine ⟨by show 1≤sizeLine;decide,fun l nl=>?_⟩
 have al:a≠l:=fun z=>by rw [z,nl] at ea;cases ea
 refine ⟨_,rfl,a,_,rfl,.inl (.of (by rw [aP al];exact ea)),l,_,_,rfl,rfl,az,by lia,by rw [lm];lia,?_,fun c nc=>?_⟩
 ·rw [lm,dM]
  show 1*n≤sizeLine;rw [sizeLine_eq];lia
 rw [lm,dM,Up n o];have NB:H c=none:=none_of (aT nl) nc;have s0:af H (upd (upd H l (.lst [.int 0])) c (.lst ((List.range n).map fun p=>V.int (j8 o 0 p)))):=(aT nl).trans (aT nc);have e0:upd (upd H l (.lst [.int 0])) c (.lst ((List.range n).map fun p=>V.int (j8 o 0 p))) c=_:=az;generalize upd (upd H l (.lst [.int 0])) c (.lst ((List.range n).map fun p=>V.int (j8 o 0 p)))=H0 at s0 e0 ⊢;dsimp only [b6];refine oJ ⟨_,rfl,a,rfl,⟨_,.of (s0 _ _ ea)⟩,?_⟩
 refine Ko (K:=K) (l:=a) (xs:=o.map fun k:Nat=>V.int (k:Int)) (fun i σ Hc=>af H Hc∧∃(v2 v3:Option V),σ=[some (.ref a),some (.ref c),v2,v3]∧Hc c=some (.lst ((List.range n).map fun p=>V.int (j8 o i p))))
  ⟨s0,_,_,rfl,e0⟩ (fun i σ Hc ⟨z,_⟩=>.of (z _ _ ea)) ?_ ?_
 ·rintro i x σ Hc Tt hx ⟨sc,v2,v3,rfl,ec⟩ nT
  have hi:i<o.length:=by have:=(bQ.mp hx).1;simpa using this
  have ex:x=.int ((o[i]:Nat):Int):=by rw [cz] at hx;simp [hi] at hx;exact hx.symm
  subst ex;have hp:o[i]<n:=(cJ ho).mp (dN hi);have sT:af Hc (upd Hc Tt (.tup [.int (i:Int),.int ((o[i]:Nat):Int)])):=aT nT;have eT:upd Hc Tt (.tup [.int (i:Int),.int ((o[i]:Nat):Int)]) Tt=_:=az;generalize upd Hc Tt (.tup [.int (i:Int),.int ((o[i]:Nat):Int)])=H1 at sT eT ⊢;refine ⟨Tt,_,rfl,.of eT,rfl,_,_,rfl,_,_,rfl,rfl,?_⟩;refine ⟨_,rfl,_,rfl,_,rfl,c,_,_,o[i],rfl,rfl,sT _ _ ec,by rw [aR,cC];exact iF hp,?_⟩
  exact ⟨iC (sc.trans sT) NB,_,_,rfl,by rw [az,Uo ho hi]⟩
 ·rintro σ Hc ⟨sc,v2,v3,rfl,ec⟩
  rw [aR,Uq ho] at ec;exact ⟨_,rfl,kk c Hc sc NB ec⟩
theorem Xv:a8 ["linked","places","one","other"] ["linked","places"] (aM BQ):=bH
theorem Xw(T:Txt K mg t):aY P w K mg base bI 1 t.qV t.uZ ["linked","places"] Ur:=by
 have S:=Xv;refine T.wu.bS S (fun _ _ _ _ H _ _ _ hr h=>?_);obtain ⟨D,pl,n,ds,un,f,ps,rfl,KL,xr,GC,n9,kk⟩:=h;have hu:=jQ (Nat.add_le_add_left (show 1≤64 by decide) _) hr.units
 have bR:∀i,i<n→un i→pl≠ds i:=fun i hi ui z=>by rw [z,KL.at' i hi ui] at xr;cases xr
 have NC:∀{i:Nat} {x:V},(ps.map fun k:Nat=>V.int (k:Int))[i]?=some x→∃p:Nat,ps[i]?=some p∧x=.int (p:Int)∧p<n∧un p:=fun{i x} hx=>by
  rw [cz] at hx;cases e:ps[i]? with
  | none=>rw [e] at hx;cases hx
  | some p=>rw [e] at hx;exact ⟨p,rfl,(Option.some.inj hx).symm,GC p (hU e)⟩
 refine ⟨_,(aq (cN cq rfl (dR (pv 1)) (bV (i:=2) S.nd rfl (Or.inl rfl))
   (aq (cN cq rfl (dR (pv 1)) (bV (i:=3) S.nd rfl (Or.inl rfl))
   (aq (bL (bj gI (pv 2) (pv 3)) (aq (ER hu (ai aV (pv 0) (pv 2)) (pv 3) eQ rfl)) bO)))))),?_⟩
 refine ⟨_,rfl,pl,rfl,⟨_,.of xr⟩,?_⟩;refine iR (K:=K) (a:=pl) (xs:=ps.map fun k:Nat=>V.int (k:Int)) (fun i σ Hc=>∃(g:Nat→List Nat) (v2 v3:Option V),σ=[some (.ref D),some (.ref pl),v2,v3]∧oO n ds un H Hc∧eL Hc D n ds un g∧g9 n f ps i 0 g) ⟨f,_,_,rfl,.refl,KL,g9.start n f ps⟩ (fun i σ Hc _ ⟨_,_,_,_,oc,_⟩=>.of (oc _ _ xr bR)) ?_ ?_
 ·rintro i x σ Hc hx ⟨g,v2,v3,rfl,oc,Kc,la⟩
  obtain ⟨p,hp,rfl,pn,up⟩:=NC hx;refine ⟨_,rfl,pl,rfl,⟨_,.of (oc _ _ xr bR)⟩,?_⟩;refine iR (K:=K) (a:=pl) (xs:=ps.map fun k:Nat=>V.int (k:Int)) (fun j σ Hd=>∃(g:Nat→List Nat) (v3:Option V),σ=[some (.ref D),some (.ref pl),some (.int (p:Int)),v3]∧oO n ds un H Hd∧eL Hd D n ds un g∧g9 n f ps i j g) ⟨g,_,rfl,oc,Kc,la⟩ (fun i σ Hc _ ⟨_,_,_,oc,_⟩=>.of (oc _ _ xr bR)) ?_ ?_
  ·rintro j y σ Hd hy ⟨g,v3,rfl,od,Kd,la⟩
   obtain ⟨q,hq,rfl,qn,uq⟩:=NC hy;refine ⟨_,rfl,_,rfl,rfl,_,rfl,b7 (fun hb=>?_) (fun hb=>?_)⟩
   ·have ne:p≠q:=fun z=>by subst z;rw [gv,cA rfl] at hb;cases hb
    obtain ⟨q1,K1⟩:=Kd.put pn qn up n9;exact ⟨_,rfl,_,rfl,D,_,_,_,rfl,rfl,.of Kd.lst,Kd.ix pn,_,rfl,_,_,rfl,q1,_,_,rfl,od.put pn up,K1,la.put hp hq ne⟩
   ·have e:p=q:=by
     by_cases z:(p:Int)=(q:Int);·lia
     ·exact absurd (by rw [gv,c_ z];rfl) hb
    subst e;exact ⟨_,_,rfl,od,Kd,la.same hp hq⟩
  ·rintro σ Hd ⟨g,v3,rfl,od,Kd,la⟩
   rw [aR] at la;exact ⟨g,_,_,rfl,od,Kd,la.row⟩
 ·rintro σ Hc ⟨g,v2,v3,rfl,oc,Kc,la⟩
  rw [aR] at la;exact kk _ g oc Kc la.done
theorem Xx:a8 ["shape","order","linked","turns","told","place"] ["shape","order"] (aM BR):=bH
theorem Xy(T:Txt K mg t):aY P w K mg base (dW P w) 4 t.qW t.u0 ["shape","order"] (UG t.m6):=by
 have S:=Xx;refine T.wx.fz S (fun _ _ _ _ H _ _ _ hr h L=>?_);obtain ⟨tp,a,n,Lk,zs,rfl,hS,hL,ns,xn,ea,ze,kE,kk⟩:=h;obtain ⟨lt,us,dD,elt,qi⟩:=id hS
 refine ⟨_,(ak (gS (aB (Xs T) hr T.Mb T.wo.kp T.Ma (oq L) (aa (pv 1) (aa (ai aC (pv 0) ag) ae))))
  (eP.lC (ak (putL 2 S.nd (aB (Xm T) hr T.L8 T.wg.kp T.L7 aE (aa (pv 0) ae)))
  (ak (Eu 3 S.nd (aB (Xu T) hr T.Md T.wq.kp T.Mc aE (aa (pv 1) ae)))
  (ak (uv (i0:=4) (N:=["place"]) (ρ:=(fun σ=>[])) (fZ [] rfl) rfl S.nd rfl (Or.inl rfl) (dR (pv 1)) (fun _ _ _=>.nil) (fun _ _ _=>(eR ae)))
  (ak (cN cq rfl (dR (pv 1)) (bV (i:=5) S.nd rfl (Or.inr rfl))
   (ak (@gj _ _ _ _ _ _ (bW ES rfl T.CZ DJ (aa (jz (N:=["other","turns","place"]) (ρ:=(fun σ=>[σ[3]?.join,σ[5]?.join])) (fZ [3,5] rfl) rfl (TK (ai aV (pv 2) (pv 5))) (fun _ _ _=>(.one (bj ua (ai (oM (K:=K)) (pv 1) (pv 0)) (ai (oM (K:=K)) (pv 1) (pv 2))))) (fun _ _ _=>(pv 0))) ae)) (gU (pv 4) (pv 5) set_list) (by rfl) (by rfl) (by rfl))
  (aq (gS (aB (Xw T) hr T.Mf T.wu.kp T.Me aE (aa (pv 2) (aa (ai aV (pv 4) (pv 5)) ae)))))))
  (aq (aI (pv 4))))))))),?_⟩
 refine ⟨_,rfl,_,rfl,tp,_,_,_,rfl,rfl,.of dD,rfl,a,zs,n,rfl,ea,ze,by lia,fun no H1 s1=>kE no H1 s1,fun yes H1 s1=>?_⟩
 obtain ⟨o,rfl,ho⟩:=Ux yes;have kk:=kk o rfl ho;have lo:=fM ho;have nd:=e_ ho;have zf:H a=some (.lst (o.map fun k:Nat=>V.int (k:Int))):=by rw [ea,iP];rfl
 have lm:(o.map fun k:Nat=>V.int (k:Int)).length=n:=by rw [aR,lo]
 refine ⟨_,rfl,tp,n,Lk,rfl,⟨lt,us,s1 _ _ dD,s1 _ _ elt,qi.mono s1⟩,hL,by lia,fun H2 D ds f s2 nD Xz KL nb=>?_⟩
 have nD0:=none_of s1 nD;have ND:∀i,i<n→H (ds i)=none:=fun i hi=>none_of s1 (Xz i hi);have dy:=s1.trans s2;dsimp only [b6];refine ⟨_,rfl,a,n,o,rfl,⟨dy _ _ zf,ho⟩,by lia,fun tr H3 s3 XA e3=>?_⟩
 have fP:=dy.trans s3;have af8:=none_of dy XA;have K3:=KL.mono s3;dsimp only [b6];refine oJ (aW (lQ (xs:=o.map fun k:Nat=>V.int (k:Int)) (n:=n) lm (fun R h=>⟨_,rfl,a,rfl,⟨_,.of (fP _ _ zf)⟩,h _ _ (af.refl _) (j7 (.of (fP _ _ zf)))⟩) (dq (by lia)) (fun _ i y Hx=>H3 y=none) (fun _ _ _ _ _ _ h _ _ _=>h) ?_ ?_))
 ·intro D' i x hx Hc R sc _ kc
  refine ⟨by show 0≤sizeLine;exact ck _,fun p np=>kc p _ (aT np) np ⟨_,az⟩ (none_of sc np)⟩
 ·intro c XB H4 nc s4 _ hA ec
  have hI:=fP.trans s4;have NF:=none_of fP nc;have K4:=K3.mono s4;have e4:=s4 _ _ e3;have cD:c≠D:=fun z=>by rw [z,K3.lst] at nc;cases nc
  have XC:c≠tr:=fun z=>by rw [z,e3] at nc;cases nc
  dsimp only [b6];refine oJ ⟨_,rfl,a,rfl,⟨_,.of (hI _ _ zf)⟩,?_⟩
  refine iR (K:=K) (a:=a) (xs:=o.map fun k:Nat=>V.int (k:Int)) (fun k σ Hc=>∃(rs:Nat→Addr) (f g:Nat→List Nat) (v5:Option V),σ=[some (.ref tp),some (.ref a),some (.ref D),some (.ref tr),some (.ref c),v5]∧af H Hc∧eL Hc D n ds (fun p=>k≤o.idxOf p) f∧Hc tr=some (.lst ((List.range n).map fun p=>V.int (o.idxOf p:Int)))∧Hc c=some (.lst ((List.range n).map fun p=>V.ref (rs p))) ∧
    (∀p,p<n→o.idxOf p<k→H (rs p)=none∧rs p≠c∧Hc (rs p)=some (.lst ((g p).map fun k:Nat=>V.int (k:Int)))∧fb n o p (g p)∧eM n Lk o p (g p))∧qA n Lk o k f) ⟨XB,f,fun _=>[],_,rfl,hI,K4.less (fun _ _ _=>trivial),e4,ec,fun p _ h=>absurd h (mr _),qA.start nb ns⟩ (fun k σ Hc _ ⟨_,_,_,_,_,sc,_⟩=>.of (sc _ _ zf)) ?_ ?_
  ·rintro k x σ Hc hx ⟨rs,f,g,v5,rfl,sc,Kc,GD,C6,done,GF⟩
   have hk:k<o.length:=by have:=(bQ.mp hx).1;simpa using this
   have ex:x=.int ((o[k]:Nat):Int):=by rw [cz] at hx;simp [hk] at hx;exact hx.symm
   subst ex;have hp:o[k]<n:=(cJ ho).mp (dN hk);have ip:o.idxOf o[k]=k:=g8 nd hk;generalize o[k]=p at hp ip ⊢;dsimp only [b6];have NG:=Kc.at' p hp (by lia)
   refine oJ (aW (Ba (UB ⟨_,rfl,_,rfl,D,_,_,_,rfl,rfl,.of Kc.lst,Kc.ix hp,ds p,dk (f p),rfl,.inl ⟨NG,fun ob=>?_⟩⟩)));have Kf:eL (upd Hc (ds p) (.cI ob (.dK (dk (f p))))) D n ds (fun q=>k+1≤o.idxOf q) f:=(Kc.less (fun i hi (ui:k+1≤o.idxOf i)=>show k≤o.idxOf i by lia)).upd (Kc.ne p hp) (fun i hi (ui:k+1≤o.idxOf i) z=>by have:=Kc.inj i p hi hp z;subst this;lia)
   have GG:∀{b:Addr} {xs:List V},Hc b=some (.lst xs)→b≠ds p:=fun{b xs} e z=>by rw [z,NG] at e;cases e
   have C7:upd Hc (ds p) (.cI ob (.dK (dk (f p)))) tr=_:=(aP (GG GD)).trans GD;have C8:upd Hc (ds p) (.cI ob (.dK (dk (f p)))) c=_:=(aP (GG C6)).trans C6;have sf:af H (upd Hc (ds p) (.cI ob (.dK (dk (f p))))):=fun b u e=>by
    rw [aP (fun z=>by rw [z,ND p hp] at e;cases e)]
    exact sc _ _ e
   have GH:∀q,q<n→o.idxOf q<k→H (rs q)=none∧rs q≠c∧upd Hc (ds p) (.cI ob (.dK (dk (f p)))) (rs q)=some (.lst ((g q).map fun k:Nat=>V.int (k:Int)))∧fb n o q (g q)∧eM n Lk o q (g q):=fun q hq C9=>by obtain ⟨d1,d2,d3,d4⟩:=done q hq C9;exact ⟨d1,d2,(aP (GG d3)).trans d3,d4⟩
   have NH:upd Hc (ds p) (.cI ob (.dK (dk (f p)))) (ds p)=some (.cI ob (.dK (dk (f p)))):=az;generalize upd Hc (ds p) (.cI ob (.dK (dk (f p))))=Hf at Kf C7 C8 sf GH NH ⊢;have zg:=Kc.pl p hp;refine Uw NH (fun q=>decide ((o.idxOf p:Int)<(o.idxOf q:Int))) (jQ zg.len (dq (by lia))) ?_ ?_ ?_
   ·intro q hq Hx R sx hR
    have qn:=zg.2 q hq;exact ⟨_,rfl,_,rfl,tr,_,_,_,rfl,rfl,.of (sx _ _ C7),bK qn,_,rfl,_,rfl,tr,_,_,_,rfl,rfl,.of (sx _ _ C7),bK hp,_,_,rfl,rfl,_,rfl,hR⟩
   ·intro q hq Hx R hR
    exact ⟨_,rfl,hR⟩
   ·intro D1 H1 xt NI NJ
    rw [UA] at NJ;have fl:((f p).filter fun q=>decide (o.idxOf p<o.idxOf q)).length≤n:=aH (DG _ _) zg.len;refine ⟨D1,((f p).filter fun q=>decide (o.idxOf p<o.idxOf q)).map iN,rfl,by rw [NJ,iP];rfl,by rw [aR];lia,fun ws D2 pw so zh=>?_⟩
    obtain ⟨ms,rfl,pm⟩:=EU pw;have eU:=KS zg pm so;have hm:∀q,q∈ms↔q∈f p∧k<o.idxOf q:=fun q=>by rw [pm.mem_iff,pz,nS,ip]
    have XD:eM n Lk o p ms:=fun q=>by
     rw [hm q,ip];constructor
     ·rintro ⟨h1,h2⟩
      have qn:=zg.2 q h1;exact ⟨qn,h2,((GF p q hp qn (by lia) (by lia)).mp h1).2⟩
     ·rintro ⟨h1,h2,h3⟩
      exact ⟨(GF p q hp h1 (by lia) (by lia)).mpr ⟨fun e=>by subst e;lia,h3⟩,h2⟩
    have tG:af Hf (upd H1 D2 (.lst ((ms.map iN).map V.int))):=Bi NI zh;have C_:upd H1 D2 (.lst ((ms.map iN).map V.int)) D2=some (.lst (ms.map fun k:Nat=>V.int (k:Int))):=by rw [az,iP];rfl
    have GI:Hf D2=none:=none_of NI zh;have XE:H D2=none:=none_of sf GI;generalize upd H1 D2 (.lst ((ms.map iN).map V.int))=Hg at tG C_ ⊢;have NK:D2≠c:=fun z=>by rw [z,C8] at GI;cases GI
    refine ⟨_,rfl,_,rfl,c,_,_,p,rfl,rfl,tG _ _ C8,by rw [aR,cC];exact iF hp,?_⟩
    rw [Uy];have Kg:=Kf.mono tG;have Kh:eL (upd Hg c (.lst ((List.range n).map fun q=>V.ref (j9 rs p D2 q)))) D n ds (fun q=>k+1≤o.idxOf q) f:=Kg.upd cD (fun i hi ui z=>by have:=Kg.at' i hi ui;rw [z,tG _ _ C8] at this;cases this)
    have sh:af H (upd Hg c (.lst ((List.range n).map fun q=>V.ref (j9 rs p D2 q)))):=iC (sf.trans tG) NF;have GJ:upd Hg c (.lst ((List.range n).map fun q=>V.ref (j9 rs p D2 q))) c=_:=az;have NL:upd Hg c (.lst ((List.range n).map fun q=>V.ref (j9 rs p D2 q))) tr=_:=(aP (Ne.symm XC)).trans (tG _ _ C7);have GK:upd Hg c (.lst ((List.range n).map fun q=>V.ref (j9 rs p D2 q))) D2=_:=(aP NK).trans C_;have NM:∀q,q<n→o.idxOf q<k→upd Hg c (.lst ((List.range n).map fun q=>V.ref (j9 rs p D2 q))) (rs q)=some (.lst ((g q).map fun k:Nat=>V.int (k:Int))):=fun q hq C9=>by obtain ⟨d1,d2,d3,d4⟩:=GH q hq C9;exact (aP d2).trans (tG _ _ d3)
    generalize upd Hg c (.lst ((List.range n).map fun q=>V.ref (j9 rs p D2 q)))=Hh at Kh sh GJ NL GK NM ⊢;refine ⟨_,rfl,_,rfl,_,rfl,c,_,_,_,rfl,rfl,.of GJ,bK hp,?_⟩;rw [KU];refine ⟨D,D2,n,ds,_,f,ms,rfl,Kh,GK,fun q hq=>⟨eU.lt q hq,by have:=eU.la q hq;lia⟩,by lia,fun H5 g5 off K5 con=>?_⟩
    have bR:∀{b:Addr} {xs:List V},Hh b=some (.lst xs)→H5 b=some (.lst xs):=fun{b xs} e=>off _ _ e fun i hi ui z=>by rw [z,Kh.at' i hi ui] at e;cases e
    refine ⟨j9 rs p D2,g5,cP g p ms,_,rfl,fun b u e=>off _ _ (sh _ _ e) (fun i hi _ z=>by rw [z,ND i hi] at e;cases e),K5,bR NL,bR GJ,fun q hq C9=>?_,GF.step ho hp ip hm eU.lt con⟩
    by_cases e:q=p
    ·subst e
     rw [KU,EV];exact ⟨XE,NK,bR GK,eU,XD⟩
    ·rw [Uz e,EW e]
     have ne:=qz ho hq hp e;have NN:o.idxOf q<k:=by lia
     obtain ⟨d1,d2,d3,d4⟩:=GH q hq NN;exact ⟨d1,d2,bR (NM q hq NN),d4⟩
  ·rintro σ Hc ⟨rs,f,g,v5,rfl,sc,Kc,GD,C6,done,_⟩
   rw [lm] at done;have lt:∀p,p<n→o.idxOf p<n:=fun p hp=>by have:=(fD ((cJ ho).mpr hp)).1;lia
   exact ⟨_,rfl,kk Hc c rs g sc NF (fun p hp=>(done p hp (lt p hp)).1) ⟨C6,fun p hp=>(done p hp (lt p hp)).2.2.1⟩ fun p hp=>(done p hp (lt p hp)).2.2.2⟩
theorem XF:a8 ["world","table","order","others","work","turn","place"] ["world","table","order"] (aM BV):=bH
theorem XG(T:Txt K mg t):aY P w K mg base bI 8 t.qZ t.u5 ["world","table","order"] (U1 t.bF t.m6):=by
 have S:=XF;have xp:=Gr (P:=P) (w:=w) (base:=base) T;obtain ⟨dv,xq,gC⟩:=T.CQ;refine T.wB.bS S (fun _ _ _ _ H _ _ _ hr h=>?_);obtain ⟨z,a,d,q,B,X,n,ah,o,M,D,rfl,hw,hq,hT,NO,ln,n1,i9,wd,ed,ho,dG,kS,kF⟩:=h;have jM:=hr.units;have hu:=jQ (Nat.add_le_add_left (show 1≤64 by decide) _) hr.units
 have hu:=hr.qe;have lo:=fM ho;have yJ:=e_ ho
 refine ⟨_,(ak (putL 3 S.nd (aB (Xy T) hr T.Mh T.wx.kp T.Mg lI (aa (aB (Xg T) hr T.L6 T.we.kp T.L5 lI (aa (pv 0) (aa (pv 1) ae))) (aa (pv 2) ae))))
  (ak (uv (i0:=4) (N:=["row"]) (ρ:=(fun σ=>[])) (fZ [] rfl) rfl S.nd rfl (Or.inl rfl) (dR (pv 1)) (fun _ _ _=>.nil) (fun _ _ _=>(gY (EF (K:=K)) rfl T.i8 boot_list (aa (pv 0) ae))))
  (ak (cN cq rfl (Kn rfl T.Gp (aa (pv 2) ae)) (p6 rfl (gT (bV (i:=5) S.nd rfl (Or.inl rfl)) (gT (bV (i:=6) S.nd rfl (Or.inl rfl)) p5)))
   (ak (bL (bj (EB hu) (ai aV (ai aV (pv 4) (pv 6)) (pv 6)) (jX (pv 0) T.d_ T.y3 xp (hr.mono (by decide)) gC xq lI (aa ag ae))) (aq (aI (fJ (aa (pv 4) (aa (pv 3) (aa (ax dS (pv 5) ag) ae)))))) bO)
  (aq (gS (aB (WY T) hr T.Mm T.wA.kp T.Ml aE (aa (pv 0) (aa (pv 4) (aa (pv 6) (aa (ai aV (pv 3) (pv 6)) ae)))))))))
  (aq (aI (fJ (aa (pv 4) (aa (pv 3) (aa pY ae))))))))),?_⟩
 have lt:∀zz∈dr n (b5 ah) n,0≤zz.1∧zz.1<zz.2∧zz.2<(n:Int):=U3;have GL:yE n (dr n (b5 ah) n):=fun zz hz=>by have:=lt zz hz;exact ⟨this.1,by lia,by lia,this.2.2⟩
 have ns:EZ (dr n (b5 ah) n):=fun zz hz=>by have:=lt zz hz;lia
 refine aw fun _ hR=>aW ⟨_,rfl,_,rfl,z,a,q,B,ah,n,rfl,hw,hq,hT,by lia,by lia,wd,fun ne=>absurd ln.symm ne,fun _ tp H1 s1 dI sh=>⟨_,rfl,tp,d,n,dr n (b5 ah) n,o.map iN,rfl,sh,GL,ns,by lia,by rw [s1 _ _ ed,iP];rfl,by rw [aR];lia,fun no=>absurd (ho.map iN) no,fun o' ez lq H2 ot ls g s2 not nls la dw=>hR _ _ ?_⟩⟩
 have eo:o'=o:=by
  have inj:∀{a b:List Nat},a.map iN=b.map iN→a=b:=fun{a b} e=>by
   have:=hJ (List.map Int.toNat) e;rw [iP,iP] at this;have Bx:(Int.toNat ∘ iN)=id:=by funext x;exact dM x
   rwa [Bx,List.map_id,List.map_id] at this
  exact (inj ez).symm
 subst eo;have dy:=s1.trans s2;obtain ⟨ra,vf,ea,er,num⟩:=U2 (hT.mono dy) ln wd;have eN:((List.range n).map fun i=>V.ref (ra i)).length=n:=by rw [aR,cC]
 refine aw fun _ hR=>aW (lQ (xs:=(List.range n).map fun i=>V.ref (ra i)) (n:=n) eN (fun R h=>⟨_,rfl,a,rfl,⟨_,.of ea⟩,h _ _ (af.refl _) (j7 (.of ea))⟩) (dq (by lia)) (fun _ i y Hx=>Hx y=some (.lst ((List.range n).map (vf i)))∧H2 y=none) ?_ ?_ ?_)
 ·intro D i y Ha Hb ys ⟨h1,h2⟩ hy e f
  exact ⟨f y _ hy h1,h2⟩
 ·intro D i x hx Hc R sc _ kc
  have hi:i<n:=by
   have:=(bQ.mp hx).1
   rwa [eN] at this
  have ex:x=.ref (ra i):=by rw [cz,hV hi] at hx;exact (Option.some.inj hx).symm
  subst ex;exact ⟨_,rfl,ra i,_,rfl,.inl (.of (sc _ _ (er i hi))),fun l nl=>kc l _ (aT nl) nl ⟨_,az⟩ ⟨az,none_of sc nl⟩⟩
 ·intro wk rs H3 XH s3 inj hA XI
  refine hR _ _ ?_;have W3:WTab H3 wk n rs vf:=⟨XI,inj,fun i hi=>(hA i hi).2,fun i hi=>(hA i hi).1.1⟩;have gP:∀i,i<n→H2 (rs i)=none:=fun i hi=>(hA i hi).1.2;have fP:=dy.trans s3;have F3:fe X H3 q n vf (sT M D o' 0) (sU M D o' 0):=fun i j hi hj=>by
   have e1:sT M D o' 0 i j=M i j:=by unfold sT;rw [ar ⟨ck _,ck _⟩];exact Bk
   have e2:sU M D o' 0 i j=D i:=by unfold sU;rw [ar ⟨ck _,ck _⟩];exact fS _
   have b:=dG.bd 0 i j (ck _);rw [e1,e2] at b ⊢;exact Bs ((num i j hi hj).mono s3) (dG.kN i j hi hj) (dG.dn i) b.1 b.2
  have nv:=EG hq;obtain ⟨dz,hz⟩:=id hw;have Dc:∀{Hc:Hp},fN n rs H3 Hc→af H2 Hc:=fun{Hc} oc b u e=>oc b u (fun i hi zz=>by rw [zz,gP i hi] at e;cases e) (s3 _ _ e)
  have sH:∀{Hc:Hp},fN n rs H3 Hc→af H Hc:=fun{Hc} oc=>dy.trans (Dc oc);have XJ:∀i,i<n→ot≠rs i:=fun i hi zz=>by have h:=la.1;rw [zz,gP i hi] at h;cases h
  have NP:∀i,i<n→∀j,j<n→ls j≠rs i:=fun i hi j hj zz=>by have h:=la.2 j hj;rw [zz,gP i hi] at h;cases h
  have XM:∀i,i<n→z≠rs i:=fun i hi zz=>by have h:=hz;rw [zz,none_of dy (gP i hi)] at h;cases h
  have pack:∀{Hc:Hp} {vf:Nat→Nat→V} {k:Nat},fN n rs H3 Hc→WTab Hc wk n rs vf→fe X Hc q n vf (sT M D o' k) (sU M D o' k)→Fg H Hc q n X (dr n (b5 ah) n) o' M D k wk ot rs vf ls g:=fun{Hc vf k} oc Wc Fc=>⟨Wc,⟨none_of dy XH,fun i hi=>none_of dy (gP i hi)⟩,Fc,⟨Dc oc _ _ la.1,fun p hp=>Dc oc _ _ (la.2 p hp)⟩,dw,fun i hi=>⟨XJ i hi,NP i hi⟩⟩;refine aw fun _ hR=>⟨_,rfl,d,rfl,⟨_,.of (fP _ _ ed)⟩,?_⟩;refine Ko (K:=K) (l:=d) (xs:=bg o') (fun k σ Hc=>∃(vf:Nat→Nat→V) (v5 v6:Option V),σ=[some (.ref z),some (.ref a),some (.ref d),some (.ref ot),some (.ref wk),v5,v6]∧fN n rs H3 Hc∧WTab Hc wk n rs vf∧fe X Hc q n vf (sT M D o' k) (sU M D o' k)∧cf q M (cO o' k)) ⟨vf,_,_,rfl,fN.refl _ _ _,W3,F3,trivial⟩ (fun k σ Hc ⟨_,_,_,_,oc,_⟩=>.of (sH oc _ _ ed)) ?_ ?_
  ·rintro k x σ Hc Tt hx ⟨vf,v5,v6,rfl,oc,Wc,Fc,gd⟩ nT
   obtain ⟨p,hk,rfl⟩:=int_at hx;have kl:k<o'.length:=(bQ.mp hk).1;have pk:o'[k]=p:=(bQ.mp hk).2;have hp:p<n:=(cJ ho).mp (hU hk);have ip:o'.idxOf p=k:=by rw [←pk];exact g8 yJ kl
   have Dd:af Hc (upd Hc Tt (.tup [.int (k:Int),.int (p:Int)])):=aT nT;have eT:upd Hc Tt (.tup [.int (k:Int),.int (p:Int)]) Tt=some (.tup [.int (k:Int),.int (p:Int)]):=az;generalize upd Hc Tt (.tup [.int (k:Int),.int (p:Int)])=H4 at Dd eT ⊢;have GN:=oc.same Dd;have W4:=Wc.mono Dd;have F4:fe X H4 q n vf (sT M D o' k) (sU M D o' k):=fun i j hi hj=>(Fc i j hi hj).mono Dd;refine ⟨Tt,_,rfl,.of eT,rfl,_,_,rfl,_,_,rfl,rfl,?_⟩;have NQ:sT M D o' k p p=aF M (cO o' k) (M p) p:=by unfold sT;rw [ar ⟨by lia,by lia⟩]
   obtain ⟨x,m,h1,h2,h3⟩:=F4 p p hp hp;have GO:=sH GN _ _ hz;refine aw fun _ hR=>⟨_,rfl,_,rfl,wk,_,_,_,rfl,rfl,.of W4.lst,bK hp,_,rfl,rs p,_,_,_,rfl,rfl,.of (W4.at' p hp),bK hp,_,rfl,z,dz,_,rfl,GO,j6 (by decide +kernel),z,q,0,1,rfl,⟨dz,GO⟩,hq,eS.of_lt (by decide) (by decide),fun h=>absurd h nv,fun _ v0 H5 s5 XN=>?_⟩
   refine EH (h1.mono s5) (Bb (B:=1000) (by decide) XN hq (.inl rfl)) ⟨_,rfl,b7 (fun hb=>?_) (fun hb=>?_)⟩
   ·have x0:x=0:=eY hb
    have De:q∣aF M (cO o' k) (M p) p:=by rw [←NQ];exact (mY hq ⟨x,m,h1,h2,h3⟩).mpr ⟨x,m,h1,x0⟩
    have zk:=GN.same s5;refine iV ⟨_,rfl,_,rfl,_,rfl,_,_,rfl,rfl,by show 3≤sizeLine;decide,fun tp dI=>kS k kl gd (by rw [pk];exact De) tp wk ot _ rs ls vf g ((sH zk).trans (aT dI)) az (pack (zk.same (aT dI)) ((W4.mono s5).mono (aT dI)) fun i j hi hj=>((F4 i j hi hj).mono s5).mono (aT dI))⟩
   ·have x0:¬x=0:=fun zz=>hb (cA zz)
    have iG:¬q∣aF M (cO o' k) (M p) p:=fun De=>by rw [←NQ] at De;obtain ⟨x',m',g1,g2⟩:=(mY hq ⟨x,m,h1,h2,h3⟩).mp De;exact x0 ((Fh h1 g1).1.trans g2)
    refine hR _ _ ?_;have zk:=GN.same s5;have S5:=Dc zk;have gg:=UU (L:=dr n (b5 ah) n) (ms:=g p) (X:=X) hq ho hp ip gd iG dG.dn (fun a' b' ha hb ab na=>dG.zero a' b' ha hb (Lo ha hb ab na)) (dw p hp).2 dG.bd;have lk:=(dw p hp).1;refine ⟨_,rfl,_,rfl,_,rfl,_,rfl,_,rfl,ot,_,_,_,rfl,rfl,.of (S5 _ _ la.1),bK hp,z,wk,ls p,q,n,X,p,rs,vf,g p,sT M D o' k,sU M D o' k,sT M D o' (k+1),sU M D o' (k+1),rfl,⟨dz,s5 _ _ GO⟩,hq,W4.mono s5,S5 _ _ (la.2 p hp),fun i hi=>⟨NP i hi p hp,XM i hi⟩,hp,fun m' iU=>⟨lk.lt m' iU,fun zz=>by have:=lk.la m' iU;rw [zz] at this;lia⟩,lk.up.imp (fun h=>dE h),by lia,dG.X1,dG.dB,fun i j hi hj=>(F4 i j hi hj).mono s5,fun i j _ _=>dG.bd k i j (by lia),gg,fun H6 tH off W6 F6=>?_⟩
    exact ⟨tH,_,_,rfl,fun b u nb e=>off b u nb (zk b u nb e),W6,F6,by rw [kM kl,pk];exact ⟨gd,iG⟩⟩
  ·rintro σ Hc ⟨vf,v5,v6,rfl,oc,Wc,Fc,gd⟩
   refine hR _ _ ?_;have ll:(bg o').length=n:=by unfold bg;rw [aR,lo]
   rw [ll] at Fc gd;refine iV ⟨_,rfl,_,rfl,by show 3≤sizeLine;decide,fun tp dI=>kF gd tp wk ot _ rs ls vf g ((sH oc).trans (aT dI)) az (pack (oc.same (aT dI)) (Wc.mono (aT dI)) fun i j hi hj=>(Fc i j hi hj).mono (aT dI))⟩
theorem XO:a8 ["world","work","others","order","aim","left","place","i"] ["world","work","others","order","aim"] (aM BW):=bH
theorem XQ(T:Txt K mg t):aY P w K mg base bI 5 t.q5 t.u6 ["world","work","others","order","aim"] (U4 t.bF):=by
 have S:=XO;have y_:=Gu (P:=P) (w:=w) (base:=base) T;have za:=Gv (P:=P) (w:=w) (base:=base) T;refine T.wC.bS S (fun _ _ _ _ H _ _ _ hr h=>?_);obtain ⟨z,wk,ot,d,e,q,X,n,L,o,M,D,rs,ls,vf,g,av,rfl,hw,hq,n1,i9,hW,hF,la,dw,ed,ho,ee,hA,gd,hD,zero,X1,dB,bd,bl,kk⟩:=h;have lo:=fM ho;obtain ⟨dz,hz⟩:=id hw;have iL:X≤10 ^ 300:=aH dB (by decide +kernel)
 have XX:X*X≤10 ^ 300:=aH (fU dB dB) (by decide +kernel)
 have zl:∀i j,i<n→j<n→¬q∣sU M D o n i j:=fun i j hi hj=>(hF i j hi hj).choose_spec.choose_spec.2.2;have zm:∀k i,k≤n→¬q∣sW M D o k i:=fun k i hk=>dh hq (hD i) (iY hq (lU gd (by lia)))
 refine ⟨_,(ak (putL 5 S.nd (gY oo rfl T.i8 boot_list (aa (pv 4) ae)))
  (ak (cN cq rfl (dR (pv 3)) (bV (i:=6) S.nd rfl (Or.inl rfl))
   (aq (cN cq rfl (dR (ai aV (pv 2) (pv 6))) (bV (i:=7) S.nd rfl (Or.inl rfl))
   (aq (@gj _ _ _ _ _ _ (jX (pv 0) T.d_ T.xh y_ (hr.mono (by decide)) T.CT .nil aE (aa (ai aV (pv 5) (pv 7)) (aa (jX (pv 0) T.d_ T.xi za (hr.mono (by decide)) T.CU .nil aE (aa (ai aV (ai aV (pv 1) (pv 7)) (pv 6)) (aa (ai aV (pv 5) (pv 6)) ae))) ae))) (gU (pv 5) (pv 7) set_list) (by rfl) (by rfl) (by rfl))))))
  (aq (aI (pv 5))))),?_⟩
 refine aw fun _ hR=>aW ⟨_,rfl,e,_,rfl,.inl (.of ee),fun r nr=>hR _ _ ?_⟩;have o1:bh r H (upd H r (.lst ((List.range n).map av))):=bh.of (aT nr);have e1:dC (upd H r (.lst ((List.range n).map av))) r n av:=az;have F1:∀i,i<n→aJ X (upd H r (.lst ((List.range n).map av))) q (av i) (sL M o n 0 i) (sW M D o 0 i):=fun i hi=>by
  have a1:sL M o n 0 i=M i n:=by unfold sL;rw [Nat.zero_min];exact Bk
  have a2:sW M D o 0 i=D i:=by unfold sW;rw [Nat.zero_min];exact fS _
  rw [a1,a2];exact (hA i hi).mono (aT nr)
 generalize upd H r (.lst ((List.range n).map av))=H1 at o1 e1 F1 ⊢;have off:∀{Hc:Hp},bh r H Hc→∀b u,H b=some u→Hc b=some u:=fun{Hc} oc b u e=>oc b u (fun zz=>by rw [zz,nr] at e;cases e) e
 refine aw fun _ hR=>⟨_,rfl,d,rfl,⟨_,.of (off o1 _ _ ed)⟩,?_⟩;refine iR (K:=K) (a:=d) (xs:=bg o) (fun k σ Hc=>∃(lv:Nat→V) (v6 v7:Option V),σ=[some (.ref z),some (.ref wk),some (.ref ot),some (.ref d),some (.ref e),some (.ref r),v6,v7]∧bh r H Hc∧dC Hc r n lv∧∀i,i<n→aJ X Hc q (lv i) (sL M o n k i) (sW M D o k i)) ⟨av,_,_,rfl,o1,e1,F1⟩ (fun k σ Hc _ ⟨_,_,_,_,oc,_⟩=>.of (off oc _ _ ed)) ?_ ?_
 ·rintro k x σ Hc hx ⟨lv,v6,v7,rfl,oc,er,Fc⟩
  obtain ⟨p,hk,rfl⟩:=int_at hx;have kl:k<o.length:=(bQ.mp hk).1;have pk:o[k]=p:=(bQ.mp hk).2;have hp:p<n:=(cJ ho).mp (hU hk);have ip:o.idxOf p=k:=by rw [←pk];exact g8 (e_ ho) kl
  obtain ⟨XR,gH⟩:=U5 (D:=D) hq ho hp ip gd zero (dw p hp).2;have lk:=(dw p hp).1;have nd:(g p).Nodup:=lk.up.imp (fun h=>dE h);have pm:p∉g p:=fun zz=>by have:=lk.la p zz;lia
  dsimp only [b6];refine ⟨_,rfl,_,rfl,ot,_,_,_,rfl,rfl,.of (off oc _ _ la.1),bK hp,ls p,rfl,⟨_,.of (off oc _ _ (la.2 p hp))⟩,?_⟩;refine iR (K:=K) (a:=ls p) (xs:=bg (g p)) (fun l σ Hd=>∃(lv:Nat→V) (v7:Option V),σ=[some (.ref z),some (.ref wk),some (.ref ot),some (.ref d),some (.ref e),some (.ref r),some (.int (p:Int)),v7]∧bh r H Hd∧dC Hd r n lv∧∀i,i<n→aJ X Hd q (lv i) (if i∈(g p).take l then sL M o n (k+1) i else sL M o n k i) (if i∈(g p).take l then sW M D o (k+1) i else sW M D o k i)) ⟨lv,_,rfl,oc,er,fun i hi=>by simpa using Fc i hi⟩ (fun l σ Hd _ ⟨_,_,_,od,_⟩=>.of (off od _ _ (la.2 p hp))) ?_ ?_
  ·clear Fc er oc
   rintro l x σ Hd hx ⟨lv,v7,rfl,od,er,Fd⟩;obtain ⟨i,hi,rfl⟩:=int_at hx;have im:=hU hi;have cE:=lk.lt i im;have il:=Bq nd hi;have pl:p∉(g p).take l:=fun zz=>pm (xQ zz);have wi:=Fd i cE;have wp:=Fd p hp;rw [ao il,ao il] at wi;rw [ao pl,ao pl] at wp;have sd:af H Hd:=off od;have wt:=(hF i p cE hp).mono sd;have gO:=sd _ _ hz;dsimp only [b6];refine aW ⟨_,rfl,z,dz,_,rfl,gO,j6 (by decide +kernel),_,rfl,_,rfl,r,_,_,_,rfl,rfl,.of er,bK cE,_,rfl,z,dz,_,rfl,gO,j6 (by decide +kernel),_,rfl,_,rfl,wk,_,_,_,rfl,rfl,.of (sd _ _ hW.lst),bK cE,_,rfl,rs i,_,_,_,rfl,rfl,.of (sd _ _ (hW.at' i cE)),bK hp,_,rfl,_,rfl,r,_,_,_,rfl,rfl,.of er,bK hp,?_⟩
   dsimp only [kB];show kK t.bF (fun x m y n=>x*y) (fun i j=>i*j) [.ref z,vf i p,lv p] _ _ _;refine E9 (Y':=(sT M D o n i p*sL M o n k p).natAbs+(sU M D o n i p*sW M D o k p).natAbs) ⟨dz,gO⟩ hq wt wp iL iL (dh hq (zl i p cE hp) (zm k p (by lia))) (by lia) (by lia) fun v1 H2 s2 w1=>?_
   have w1:aJ (X*X) H2 q v1 (sT M D o n i p*sL M o n k p) (sU M D o n i p*sW M D o k p):=w1.bd (by rw [fH];exact fU (bd n i p (aK _)).1 (bl k p (by lia)).1) (by rw [fH];exact fU (bd n i p (aK _)).2 (bl k p (by lia)).2)
   show kK t.bF (fun x m y n=>x*n-y*m) (fun i j=>i-j) [.ref z,lv i,v1] _ _ _;refine E8 (Y':=(sL M o n k i*(sU M D o n i p*sW M D o k p)-sT M D o n i p*sL M o n k p*sW M D o k i).natAbs+(sW M D o k i*(sU M D o n i p*sW M D o k p)).natAbs) ⟨dz,s2 _ _ gO⟩ hq (wi.mono s2) w1 iL XX (dh hq (zm k i (by lia)) (dh hq (zl i p cE hp) (zm k p (by lia)))) (by lia) (by lia) fun v2 H3 s3 w2=>?_
   have w2:=(w2.eq hq (XR i im) (zm (k+1) i (by lia))).bd (bl (k+1) i (by lia)).1 (bl (k+1) i (by lia)).2
   have tI:=s2.trans s3;have kX:=tI _ _ er;refine ⟨_,rfl,_,rfl,r,_,_,i,rfl,rfl,kX,by rw [aR,cC];exact iF cE,?_⟩
   refine ⟨fun j=>if j=i then v2 else lv j,_,rfl,fun b u ne e=>by rw [aP ne];exact tI _ _ (od b u ne e),by unfold dC;rw [az,map_set],fun j hj=>?_⟩
   rw [take_snoc hi];by_cases ej:j=i
   ·subst ej
    simp only [ar,fk,dj,or_true];exact w2.put kX
   ·have e3:(j∈(g p).take l++[i])↔j∈(g p).take l:=by simp [ej]
    simp only [ao ej,e3];exact ((Fd j hj).mono tI).put kX
  ·rintro σ Hd ⟨lv,v7,rfl,od,er,Fd⟩
   have ll:(bg (g p)).length=(g p).length:=aR _;rw [ll,je] at Fd;refine ⟨lv,_,_,rfl,od,er,fun i hi=>?_⟩;have:=Fd i hi;by_cases h:i∈g p;·rwa [ar h,ar h] at this
   ·rw [ao h,ao h] at this
    exact (this.eq hq (gH i hi h) (zm (k+1) i (by lia))).bd (bl (k+1) i (by lia)).1 (bl (k+1) i (by lia)).2
 ·rintro σ Hc ⟨lv,v6,v7,rfl,oc,er,Fc⟩
  refine hR _ _ ?_;have ll:(bg o).length=n:=by unfold bg;rw [aR,lo]
  rw [ll] at Fc;exact ⟨_,rfl,kk r lv Hc (off oc) nr er Fc⟩
theorem XS:a8 ["world","work","others","places","row","told","place","j"] ["world","work","others","places","row"] (aM BX):=bH
theorem NR(T:Txt K mg t):aY P w K mg base bI 5 t.q8 t.u7 ["world","work","others","places","row"] (U6 t.bF):=by
 have S:=XS;have y_:=Gu (P:=P) (w:=w) (base:=base) T;have za:=Gv (P:=P) (w:=w) (base:=base) T;have Gw:=Ny (P:=P) (w:=w) (base:=base) T;refine T.sS.bS S (fun _ A _ _ H _ _ _ hr h=>?_);obtain ⟨z,wk,ot,d,e,q,X,n,ps,Tw,U,rs,ls,vf,g,av,A,B,x,y,Sw,Rw,rfl,hw,hq,i9,hW,hF,hB,la,ed,nd,GC,GP,ee,hA,X1,dB,rp,kk⟩:=h;obtain ⟨dz,hz⟩:=id hw;have iL:X≤10 ^ 300:=aH dB (by decide +kernel)
 have XX:X*X≤10 ^ 300:=aH (fU dB dB) (by decide +kernel)
 have zl:∀i j,i<n→j<n→¬q∣U i j:=fun i j hi hj=>(hF i j hi hj).choose_spec.choose_spec.2.2
 refine ⟨_,(ak (putL 5 S.nd (gY oo rfl T.i8 boot_list (aa (pv 4) ae)))
  (ak (cN cq rfl (UY rfl T.Nq (aa (pv 3) ae)) (bV (i:=6) S.nd rfl (Or.inl rfl))
   (ak (cN cq rfl (dR (ai aV (pv 2) (pv 6))) (bV (i:=7) S.nd rfl (Or.inl rfl))
   (aq (@gj _ _ _ _ _ _ (jX (pv 0) T.d_ T.xh y_ (hr.mono (by decide)) T.CT .nil aE (aa (ai aV (pv 5) (pv 6)) (aa (jX (pv 0) T.d_ T.xi za (hr.mono (by decide)) T.CU .nil aE (aa (ai aV (ai aV (pv 1) (pv 6)) (pv 7)) (aa (ai aV (pv 5) (pv 7)) ae))) ae))) (gU (pv 5) (pv 6) set_list) (by rfl) (by rfl) (by rfl))))
  (aq (@gj _ _ _ _ _ _ (jX (pv 0) T.d_ T.y8 Gw (hr.mono (by decide)) T.Gm .nil lI (aa (ai aV (pv 5) (pv 6)) (aa (ai aV (ai aV (pv 1) (pv 6)) (pv 6)) ae))) (gU (pv 5) (pv 6) set_list) (by rfl) (by rfl) (by rfl)))))
  (aq (aI (pv 5))))),?_⟩
 refine aw fun _ hR=>aW ⟨_,rfl,e,_,rfl,.inl (.of ee),fun r nr=>hR _ _ ?_⟩;have o1:bh r H (upd H r (.lst ((List.range n).map av))):=bh.of (aT nr);have e1:dC (upd H r (.lst ((List.range n).map av))) r n av:=az;have F1:∀i,i<n→aJ X (upd H r (.lst ((List.range n).map av))) q (av i) (A i) (B i):=fun i hi=>(hA i hi).mono (aT nr);generalize upd H r (.lst ((List.range n).map av))=H1 at o1 e1 F1 ⊢;have off:∀{Hc:Hp},bh r H Hc→∀b u,H b=some u→Hc b=some u:=fun{Hc} oc b u e=>oc b u (fun zz=>by rw [zz,nr] at e;cases e) e
 have oY:(bg ps).length=ps.length:=aR _;refine aw fun _ hR=>⟨_,rfl,d,_,rfl,.of (off o1 _ _ ed),?_⟩;refine UZ (K:=K) (a:=d) (xs:=bg ps) (fun k σ Hc=>∃(lv:Nat→V) (v6 v7:Option V),σ=[some (.ref z),some (.ref wk),some (.ref ot),some (.ref d),some (.ref e),some (.ref r),v6,v7]∧bh r H Hc∧dC Hc r n lv∧∀i,i<n→aJ X Hc q (lv i) (if i∈ps.take (ps.length-k) then A i else x i) (if i∈ps.take (ps.length-k) then B i else y i)) ⟨av,_,_,rfl,o1,e1,fun i hi=>?_⟩ (fun k σ Hc _ ⟨_,_,_,_,oc,_⟩=>.of (off oc _ _ ed)) ?_ ?_
 ·rw [Nat.sub_zero,je]
  by_cases h:i∈ps
  ·rw [ar h,ar h]
   exact F1 i hi
  ·rw [ao h,ao h,←(rp.yH i hi h).1,←(rp.yH i hi h).2]
   exact F1 i hi
 ·rintro k v σ Hc XT hx ⟨lv,v6,v7,rfl,oc,er,Fc⟩
  rw [oY] at XT hx;obtain ⟨p,hk,rfl⟩:=int_at hx;have pm:=hU hk;obtain ⟨hp,hg⟩:=GC p pm;have GP:=GP _ p hk;have ts:ps.take (ps.length-k)=ps.take (ps.length-1-k)++[p]:=by
   rw [show ps.length-k=(ps.length-1-k)+1 by lia]
   exact take_snoc hk
  have pt:p∉ps.take (ps.length-1-k):=Bq nd hk;have gt:∀j∈g p,j∉ps.take (ps.length-k):=fun j hj=>by
   have:=GP j hj
   rwa [show ps.length-1-k+1=ps.length-k by lia] at this
  dsimp only [b6];refine aw fun _ hR=>⟨_,rfl,_,rfl,ot,_,_,_,rfl,rfl,.of (off oc _ _ la.1),bK hp,ls p,rfl,⟨_,.of (off oc _ _ (la.2 p hp))⟩,?_⟩;refine iR (K:=K) (a:=ls p) (xs:=bg (g p)) (fun l σ Hd=>∃(lv:Nat→V) (v7:Option V),σ=[some (.ref z),some (.ref wk),some (.ref ot),some (.ref d),some (.ref e),some (.ref r),some (.int (p:Int)),v7]∧bh r H Hd∧dC Hd r n lv∧aJ X Hd q (lv p) (Sw p l) (Rw p l)∧∀i,i<n→i≠p→aJ X Hd q (lv i) (if i∈ps.take (ps.length-k) then A i else x i) (if i∈ps.take (ps.length-k) then B i else y i)) ⟨lv,_,rfl,oc,er,?_,fun i hi _=>Fc i hi⟩ (fun l σ Hd _ ⟨_,_,_,od,_⟩=>.of (off od _ _ (la.2 p hp))) ?_ ?_
  ·have:=Fc p hp
   rw [ar (by rw [ts];simp),ar (by rw [ts];simp)] at this
   exact (this.eq hq (rp.s0 p pm) (rp.Fl p pm 0)).bd (rp.bd.1 p pm 0 (ck _)).1 (rp.bd.1 p pm 0 (ck _)).2
  ·clear Fc er oc
   rintro l v σ Hd hx ⟨lv,v7,rfl,od,er,wp,Fd⟩;obtain ⟨j,hj,rfl⟩:=int_at hx;have jm:=hU hj;have ll:=(bQ.mp hj).1;obtain ⟨fh,jp⟩:=hg j jm;have wj:=Fd j fh jp;rw [ao (gt j jm),ao (gt j jm)] at wj;have sd:af H Hd:=off od;have wt:=(hF p j hp fh).mono sd;have gO:=sd _ _ hz;dsimp only [b6];refine aW ⟨_,rfl,z,dz,_,rfl,gO,j6 (by decide +kernel),_,rfl,_,rfl,r,_,_,_,rfl,rfl,.of er,bK hp,_,rfl,z,dz,_,rfl,gO,j6 (by decide +kernel),_,rfl,_,rfl,wk,_,_,_,rfl,rfl,.of (sd _ _ hW.lst),bK hp,_,rfl,rs p,_,_,_,rfl,rfl,.of (sd _ _ (hW.at' p hp)),bK fh,_,rfl,_,rfl,r,_,_,_,rfl,rfl,.of er,bK fh,?_⟩
   dsimp only [kB];show kK t.bF (fun x m y n=>x*y) (fun i j=>i*j) [.ref z,vf p j,lv j] _ _ _;refine E9 (Y':=(Tw p j*x j).natAbs+(U p j*y j).natAbs) ⟨dz,gO⟩ hq wt wj iL iL (dh hq (zl p j hp fh) (rp.Fm j)) (by lia) (by lia) fun v1 H2 s2 w1=>?_
   have w1:aJ (X*X) H2 q v1 (Tw p j*x j) (U p j*y j):=w1.bd (by rw [fH];exact fU (hB p j hp fh).1 (rp.bd.2 j).1) (by rw [fH];exact fU (hB p j hp fh).2 (rp.bd.2 j).2)
   show kK t.bF (fun x m y n=>x*n-y*m) (fun i j=>i-j) [.ref z,lv p,v1] _ _ _;refine E8 (Y':=(Sw p l*(U p j*y j)-Tw p j*x j*Rw p l).natAbs+(Rw p l*(U p j*y j)).natAbs) ⟨dz,s2 _ _ gO⟩ hq (wp.mono s2) w1 iL XX (dh hq (rp.Fl p pm l) (dh hq (zl p j hp fh) (rp.Fm j))) (by lia) (by lia) fun v2 H3 s3 w2=>?_
   have w2:=(w2.eq hq (rp.Fj p pm l j hj) (rp.Fl p pm (l+1))).bd (rp.bd.1 p pm (l+1) ll).1 (rp.bd.1 p pm (l+1) ll).2;have tI:=s2.trans s3;have kX:=tI _ _ er;refine ⟨_,rfl,_,rfl,r,_,_,p,rfl,rfl,kX,by rw [aR,cC];exact iF hp,?_⟩
   refine ⟨fun i=>if i=p then v2 else lv i,_,rfl,fun b u ne e=>by rw [aP ne];exact tI _ _ (od b u ne e),by unfold dC;rw [az,map_set],by dsimp only;rw [ar rfl];exact w2.put kX,fun i hi ip=>?_⟩
   dsimp only;rw [ao ip];exact ((Fd i hi ip).mono tI).put kX
  ·rintro σ Hd ⟨lv,v7,rfl,od,er,wp,Fd⟩
   have ll:(bg (g p)).length=(g p).length:=aR _;rw [ll] at wp;refine hR _ _ ?_;have sd:af H Hd:=off od;have wt:=(hF p p hp hp).mono sd;have gO:=sd _ _ hz;refine aW ⟨_,rfl,z,dz,_,rfl,gO,j6 (by decide +kernel),_,rfl,_,rfl,r,_,_,_,rfl,rfl,.of er,bK hp,_,rfl,_,rfl,wk,_,_,_,rfl,rfl,.of (sd _ _ hW.lst),bK hp,_,rfl,rs p,_,_,_,rfl,rfl,.of (sd _ _ (hW.at' p hp)),bK hp,?_⟩
   dsimp only [kB];show A2 t.bF t.i7 [.ref z,lv p,vf p p] _ _ _;refine Li (Y':=(Sw p (g p).length*U p p).natAbs+(Rw p (g p).length*Tw p p).natAbs) ⟨dz,gO⟩ hq wp wt iL iL (rp.iG p pm) (by lia) (by lia) fun v2 H3 s3 w2=>?_
   have w2:=(w2.eq hq (rp.fin p pm) (rp.Fm p)).bd (rp.bd.2 p).1 (rp.bd.2 p).2;have kX:=s3 _ _ er;refine ⟨_,rfl,_,rfl,r,_,_,p,rfl,rfl,kX,by rw [aR,cC];exact iF hp,?_⟩
   refine ⟨fun i=>if i=p then v2 else lv i,_,_,rfl,fun b u ne e=>by rw [aP ne];exact s3 _ _ (od b u ne e),by unfold dC;rw [az,map_set],fun i hi=>?_⟩
   rw [show ps.length-(k+1)=ps.length-1-k by lia]
   dsimp only;by_cases ip:i=p
   ·subst ip
    rw [ar rfl,ao pt,ao pt];exact w2.put kX
   ·have e3:i∈ps.take (ps.length-k)↔i∈ps.take (ps.length-1-k):=by rw [ts];simp [ip]
    have:=((Fd i hi ip).mono s3).put (o:=.lst (((List.range n).map lv).set p v2)) kX;simp only [e3] at this;rw [ao ip];exact this
 ·rintro σ Hc ⟨lv,v6,v7,rfl,oc,er,Fc⟩
  refine hR _ _ ?_;rw [oY] at Fc;refine ⟨_,rfl,kk r lv Hc (off oc) nr er fun i hi=>?_⟩;have:=Fc i hi;simpa using this
theorem XU:a8 ["world","work","others","order","many","start"] ["world","work","others","order","many"] (aM BY):=bH
theorem XW(T:Txt K mg t):aY P w K mg base bI 6 t.q_ t.u9 ["world","work","others","order","many"] (Vc t.bF):=by
 have S:=XU;have xp:=Gr (P:=P) (w:=w) (base:=base) T;obtain ⟨dv,xq,gC⟩:=T.CQ;refine T.wD.bS S (fun _ _ _ _ H _ _ _ hr h=>?_);obtain ⟨z,wk,ot,d,q,X,n,k,tt,L,o,M,D,rs,ls,vf,g,rfl,hw,hq,i9,hW,hF,la,dw,ed,ho,ht,it,gd,hD,zero,X1,dB,bd,b1,b2,kk⟩:=h;have lo:=fM ho;obtain ⟨dz,hz⟩:=id hw;have nv:=EG hq;have kl:k<o.length:=by rw [←it];exact (fD ((cJ ho).mpr ht)).1
 have XZ:o[k]=tt:=by have:=(fD ((cJ ho).mpr ht)).2;simp only [it] at this;exact this
 have ln:(bg o).length=n:=by unfold bg;rw [aR,lo]
 refine ⟨_,(ak (putL 5 S.nd (ax JP (eR (aa (jX (pv 0) T.d_ T.y3 xp (hr.mono (by decide)) gC xq lI (aa ag ae)) ae)) (bW e8 rfl T.dH dO (aa (pv 3) ae))))
  (ak (@gj _ _ _ _ _ _ (jX (pv 0) T.d_ T.y3 xp (hr.mono (by decide)) gC xq lI (aa ag ae)) (gU (pv 5) (ai aV (pv 3) (ax jV (pv 4) ag)) set_list) (by rfl) (by rfl) (by rfl))
  (aq (aI (aB (NR T) hr T.FW T.sS.kp T.FV aE (aa (pv 0) (aa (pv 1) (aa (pv 2) (aa (AI AJ (pv 3) AG (AH (ax jV (pv 4) ag))) (aa (pv 5) ae)))))))))),?_⟩
 refine aw fun _ hR=>aW ⟨_,rfl,z,dz,_,rfl,hz,j6 (by decide +kernel),z,q,0,1,rfl,⟨dz,hz⟩,hq,eS.of_lt (by decide) (by decide),fun h=>absurd h nv,fun _ v0 H1 s1 X0=>?_⟩
 refine ⟨by show 1≤sizeLine;decide,fun l nl=>?_⟩
 have sl:af H1 (upd H1 l (.lst [v0])):=aT nl;have NS:upd H1 l (.lst [v0]) l=some (.lst [v0]):=az;have h0:=Bb (B:=X) (by lia) (X0.mono sl) hq (.inl rfl)
 generalize upd H1 l (.lst [v0])=H2 at sl NS h0 ⊢;have s2:=s1.trans sl;refine ⟨_,rfl,d,_,rfl,.inl (.of (s2 _ _ ed)),?_⟩;rw [ln];refine ⟨l,(n:Int),[v0],rfl,rfl,NS,by lia,by lia,?_,fun r nr=>hR _ _ ?_⟩
 ·rw [dM]
  exact aH (show [v0].length*n≤40 by simp;exact i9) (by decide)
 rw [dM,show (List.replicate n [v0]).flatten=(List.range n).map fun _=>v0 by
  refine gQ (by simp) fun i h1 h2=>?_
  simp]
 have sr:af H2 (upd H2 r (.lst ((List.range n).map fun _=>v0))):=aT nr;have er:upd H2 r (.lst ((List.range n).map fun _=>v0)) r=some (.lst ((List.range n).map fun _=>v0)):=az;generalize upd H2 r (.lst ((List.range n).map fun _=>v0))=H3 at sr er ⊢;have s3:=s2.trans sr;have X2:H r=none:=none_of s2 nr;have NT:=s3 _ _ hz;refine aw fun _ hR=>aW ⟨_,rfl,z,dz,_,rfl,NT,j6 (by decide +kernel),z,q,1,1,rfl,⟨dz,NT⟩,hq,eS.of_lt (by decide) (by decide),fun h=>absurd h nv,fun _ v1 H4 s4 X3=>?_⟩
 have h1:=Bb (B:=X) (by lia) X3 hq (.inr rfl)
 have GQ:=s4 _ _ er;have ek:(bg o)[k]?=some (.int (tt:Int)):=by unfold bg;rw [cz,dF kl,XZ];rfl
 refine ⟨_,rfl,_,rfl,_,rfl,_,_,rfl,rfl,d,_,_,_,rfl,rfl,.of (s4 _ _ (s3 _ _ ed)),(by show gZ (bg o) ((k:Int)+1-1)=_;rw [show (k:Int)+1-1=(k:Int) by lia];exact gJ ek),r,_,_,tt,rfl,rfl,GQ,by rw [aR,cC];exact iF ht,hR _ _ ?_⟩
 have NU:¬q∣aA M (cO o k):=iY hq gd;rw [map_set];have o5:∀b u,b≠r→H4 b=some u→upd H4 r (.lst ((List.range n).map fun j'=>if j'=tt then v1 else v0)) b=some u:=fun b u ne e=>by rw [aP ne];exact e
 have NV:upd H4 r (.lst ((List.range n).map fun j'=>if j'=tt then v1 else v0)) r=some (.lst ((List.range n).map fun j'=>if j'=tt then v1 else v0)):=az
 have w1:aJ X (upd H4 r (.lst ((List.range n).map fun j'=>if j'=tt then v1 else v0))) q v1 (aA M (cO o k)) (aA M (cO o k)):=aJ.put ⟨1,1,h1,by rw [nQ,fS,nW];exact k9 q,NU⟩ GQ
 have w0:aJ X (upd H4 r (.lst ((List.range n).map fun j'=>if j'=tt then v1 else v0))) q v0 0 (aA M (cO o k)):=aJ.put ⟨0,1,(h0.mono sr).mono s4,by rw [gh,gh,nW];exact k9 q,NU⟩ GQ
 generalize upd H4 r (.lst ((List.range n).map fun j'=>if j'=tt then v1 else v0))=H5 at o5 NV w1 w0 ⊢
 have s5:af H H5:=fun b u e=>o5 b u (fun zz=>by rw [zz,X2] at e;cases e) (s4 _ _ (s3 _ _ e))
 refine iV ⟨_,rfl,_,rfl,_,rfl,_,rfl,_,rfl,_,_,rfl,rfl,_,rfl,d,_,rfl,.of (s5 _ _ ed),fun u nu=>?_⟩;have ec:iS (bg o) none (some ((k:Int)+1-1))=bg (o.take k):=by
  rw [show (k:Int)+1-1=(k:Int) by lia,Ez]
  unfold bg;rw [List.map_take]
 rw [ec];have s6:af H5 (upd H5 u (.lst (bg (o.take k)))):=aT nu;have eu:upd H5 u (.lst (bg (o.take k))) u=some (.lst (bg (o.take k))):=az;generalize upd H5 u (.lst (bg (o.take k)))=H6 at s6 eu ⊢;have tJ:=s5.trans s6;have lt:∀{p},p∈o.take k→p<n∧o.idxOf p<k:=fun{p} hp=>(oR ho).mp hp;refine ⟨_,rfl,z,wk,ot,u,r,q,X,n,o.take k,sT M D o k,sU M D o k,rs,ls,vf,g,fun j'=>if j'=tt then v1 else v0,fun i=>if i=tt then aA M (cO o k) else 0,fun _=>aA M (cO o k),cF M o k tt,fun _=>aA M (cO o k),mS M o g k tt,fun p _=>D p*aA M (cO o (o.idxOf p))*aA M (cO o k),rfl,⟨dz,tJ _ _ hz⟩,hq,i9,hW.mono tJ,fun i j hi hj=>(hF i j hi hj).mono tJ,fun i j _ _=>bd k i j (by lia),⟨tJ _ _ la.1,fun p hp=>tJ _ _ (la.2 p hp)⟩,eu,(pE k o).nodup (e_ ho),fun p hp=>⟨(lt hp).1,fun j hj=>⟨(dw p (lt hp).1).1.lt j hj,fun zz=>by have:=(dw p (lt hp).1).1.la j hj;rw [zz] at this;lia⟩⟩,fun k' p fO j hj zz=>?_,s6 _ _ NV,fun i hi=>?_,X1,dB,Vb hq ho ht it gd hD zero dw b1 b2,fun r' lv H7 s7 X4 X5 F7=>kk r' lv H7 (tJ.trans s7) (none_of tJ X4) X5 F7⟩
 ·have pm:=hU fO
  have GR:=(bQ.mp fO).1;have e1:o[k']?=some p:=by
   rw [mq] at GR;rw [List.getElem?_take,ar (by lia)] at fO
   exact fO
  have ip:o.idxOf p=k':=by
   have:=g8 (e_ ho) (bQ.mp e1).1
   rwa [(bQ.mp e1).2] at this
  have X6:=(dw p (lt pm).1).1.la j hj;have jt:j∈o.take (k'+1):=by rw [List.take_take] at zz;exact (List.take_prefix_take_left (Nat.min_le_left _ _)).subset zz
  have:=((oR ho).mp jt).2;lia
 ·dsimp only
  by_cases e:i=tt
  ·rw [ar e,ar e]
   exact w1.mono s6
  ·rw [ao e,ao e]
   exact w0.mono s6
def X7(N:Addr):Sp:=fun vs H Q E=>∃(n:Nat) (a:Addr) (xs:List V),vs=[.int (n:Int),.ref a]∧H a=some (.lst xs)∧(xs.length≠n→E (.ref N) none H)∧(xs.length=n→Q .aU H)
theorem X8:a8 ["n","aim"] ["n","aim"] (aM BG):=bH
theorem X9(T:Txt K mg t):aY P w K mg base (dW P w) 1 t.qK t.uO ["n","aim"] (X7 t.l4):=by
 have S:=X8;refine T.vX.fz S (fun _ _ _ _ H _ _ _ hr h L=>?_);obtain ⟨n,a,xs,rfl,ea,kE,k⟩:=h;refine ⟨_,(aq (bL (bj gI (bW e8 rfl T.dH dO (aa (pv 1) ae)) (pv 0)) (aq (ou L rfl nX T.C1 rfl T.CW (aa dY ae))) bO)),?_⟩;refine ⟨_,rfl,a,xs,rfl,.inl (.of ea),_,rfl,rfl,_,rfl,b7 (fun fB=>?_) (fun fB=>?_)⟩
 ·have fB:xs.length≠n:=fun z=>by
   have:(xs.length:Int)=(n:Int):=by lia
   rw [gv,cA this] at fB;cases fB
  exact ⟨by show 1≤sizeLine;decide,kE fB⟩
 ·have heq:xs.length=n:=by
   by_cases z:(xs.length:Int)=(n:Int);·lia
   ·exact absurd (by rw [gv,c_ z];rfl) fB
  exact k heq
theorem X_:a8 ["world","table","order","aim","told","work","others","answer"] ["world","table","order","aim"] (aM BZ):=bH
theorem NW(T:Txt K mg t):aY P w K mg base bI 9 t.rf t.u_ ["world","table","order","aim"] (Vd t.bF):=by
 have S:=X_;refine T.sX.bS S (fun _ _ _ _ H _ _ _ hr h=>?_);obtain ⟨z,a,d,e,q,B,X,n,ah,o,M,D,av,rfl,hw,hq,hT,NO,ln,n1,i9,wd,ed,ho,dG,am,kS,kO⟩:=h;have jM:=hr.units;have lo:=fM ho
 refine ⟨_,(ak (gS (aB (X9 T) hr T.LY T.vX.kp T.LX lI (aa (bW e8 rfl T.dH dO (aa (pv 1) ae)) (aa (pv 3) ae))))
  (ak (putL 4 S.nd (aB (XG T) hr T.Mo T.wB.kp T.Mn aE (aa (pv 0) (aa (pv 1) (aa (pv 2) ae)))))
  (ak (putL 5 S.nd (ai aC (pv 4) ag))
  (ak (putL 6 S.nd (ai aC (pv 4) ag))
  (ak (bL (bj P8 (ai aC (pv 4) ag) pY) (aq (aI (fJ (aa dY (aa (ai aC (pv 4) ag) (aa (aB (XW T) hr T.Ms T.wD.kp T.Mr aE (aa (pv 0) (aa (pv 5) (aa (pv 6) (aa (pv 2) (aa (ai aC (pv 4) ag) ae)))))) ae)))))) bO)
  (ak (putL 7 S.nd (aB (NR T) hr T.FW T.sS.kp T.FV aE (aa (pv 0) (aa (pv 5) (aa (pv 6) (aa (pv 2) (aa (aB (XQ T) hr T.Mq T.wC.kp T.Mp aE (aa (pv 0) (aa (pv 5) (aa (pv 6) (aa (pv 2) (aa (pv 3) ae)))))) ae)))))))
  (aq (aI (fJ (aa dY (aa (pv 7) (aa (bW (J9 (K:=K) rfl) rfl T.Gq boot_sum (aa (jz (N:=["each"]) (ρ:=(fun σ=>[])) (fZ [] rfl) rfl (dR (pv 6)) (fun _ _ _=>.nil) (fun _ _ _=>(aB (Xo T) hr T.Mj T.wz.kp T.Mi aE (aa (bW (yv (K:=K)) rfl T.dH dO (aa (pv 0) ae)) ae)))) ae)) ae)))))))))))),?_⟩
 obtain ⟨NX,ea,lvT,_⟩:=id hT;have zero:∀a' b',a'<n→b'<n→a'≠b'→¬aL n (dr n (b5 ah) n) a' b'→M a' b'=0:=fun a' b' ha hb ab na=>dG.zero a' b' ha hb (Lo ha hb ab na);have gl:∀{g:Nat→List Nat},(∀p,p<n→fb n o p (g p)∧eM n (dr n (b5 ah) n) o p (g p))→∀p,p<n→(g p).length≤n:=fun{g} dw p hp=>aH (KY ho (dw p hp).1) (by lia)
 refine aw fun _ hR=>⟨_,rfl,a,NX,rfl,.inl (.of ea),_,rfl,NX.length,e,_,rfl,am.row,fun ne=>absurd (by rw [aR,cC];lia) ne,fun _=>hR _ _ ?_⟩
 refine aw fun _ hR=>aW ⟨_,rfl,_,rfl,_,rfl,z,a,d,q,B,X,n,ah,o,M,D,rfl,hw,hq,hT,NO,ln,n1,i9,wd,ed,ho,dG,fun k hk gd dv tp wk ot H1 rs ls vf g s1 dD pk=>hR _ _ ?_,fun gd tp wk ot H1 rs ls vf g s1 dD pk=>hR _ _ ?_⟩
 ·clear hR
  have ht:o[k]<n:=(cJ ho).mp (dN hk);have it:o.idxOf o[k]=k:=g8 (e_ ho) hk;obtain ⟨dz,hz⟩:=id hw;refine aw fun _ hR=>aW ⟨_,rfl,tp,_,_,_,rfl,rfl,.of dD,rfl,hR _ _ ?_⟩;refine aw fun _ hR=>aW ⟨_,rfl,tp,_,_,_,rfl,rfl,.of dD,rfl,hR _ _ ?_⟩;refine aw fun _ hR=>⟨_,rfl,tp,_,_,_,rfl,rfl,.of dD,rfl,rfl,true,by simp,dZ (iV ⟨_,rfl,tp,_,_,_,rfl,rfl,.of dD,rfl,_,rfl,_,rfl,_,rfl,_,rfl,_,rfl,tp,_,_,_,rfl,rfl,.of dD,rfl,z,wk,ot,d,q,X,n,k,o[k],dr n (b5 ah) n,o,M,D,rs,ls,vf,g,rfl,⟨dz,s1 _ _ hz⟩,hq,i9,pk.tab,pk.kN,pk.eU,pk.ok,s1 _ _ ed,ho,ht,it,gd,dG.dn,zero,dG.X1,dG.dB,dG.bd,fun p l hp hl=>am.bt g (gl pk.ok) k o[k] p l (by lia) hp hl,fun p=>am.bm k o[k] p (by lia),fun r lv H2 s2 nr er F2=>⟨by show 3≤sizeLine;decide,fun GS nB=>?_⟩⟩)⟩
  have dy:=s1.trans s2;exact kS k hk gd dv GS r lv _ (dy.trans (aT nB)) (none_of s1 nr) (none_of dy nB) az ((aT nB) _ _ er) fun i hi=>(F2 i hi).mono (aT nB)
 ·clear hR
  obtain ⟨dz,hz⟩:=id hw;refine aw fun _ hR=>aW ⟨_,rfl,tp,_,_,_,rfl,rfl,.of dD,rfl,hR _ _ ?_⟩;refine aw fun _ hR=>aW ⟨_,rfl,tp,_,_,_,rfl,rfl,.of dD,rfl,hR _ _ ?_⟩;refine aw fun _ hR=>⟨_,rfl,tp,_,_,_,rfl,rfl,.of dD,rfl,rfl,false,by simp,bM (hR _ _ ?_)⟩
  refine aw fun _ hR=>aW ⟨_,rfl,_,rfl,_,rfl,_,rfl,_,rfl,_,rfl,_,rfl,_,rfl,_,rfl,z,wk,ot,d,e,q,X,n,dr n (b5 ah) n,o,M,D,rs,ls,vf,g,av,rfl,⟨dz,s1 _ _ hz⟩,hq,n1,i9,pk.tab,pk.kN,pk.eU,pk.ok,s1 _ _ ed,ho,s1 _ _ am.row,fun i hi=>(am.kN i hi).mono s1,gd,dG.dn,zero,dG.X1,dG.dB,dG.bd,am.bl,fun r1 Ya H2 s2 nr1 Yb F1=>?_⟩;refine ⟨z,wk,ot,d,r1,q,X,n,o,sT M D o n,sU M D o n,rs,ls,vf,g,Ya,sL M o n n,sW M D o n,cQ M (cO o n) n,fun _=>aA M (cO o n),rS M o g (cO o n) n fun _=>aA M (cO o n),fun p _=>D p*aA M (cO o (o.idxOf p))*aA M (cO o n),rfl,⟨dz,s2 _ _ (s1 _ _ hz)⟩,hq,i9,pk.tab.mono s2,fun i j hi hj=>(pk.kN i j hi hj).mono s2,fun i j _ _=>dG.bd n i j (aK _),⟨s2 _ _ pk.eU.1,fun p hp=>s2 _ _ (pk.eU.2 p hp)⟩,s2 _ _ (s1 _ _ ed),e_ ho,fun p hp=>⟨(cJ ho).mp hp,fun j hj=>⟨(pk.ok p ((cJ ho).mp hp)).1.lt j hj,fun zz=>by have:=(pk.ok p ((cJ ho).mp hp)).1.la j hj;rw [zz] at this;lia⟩⟩,fun k' p fO j hj zz=>?_,Yb,F1,dG.X1,dG.dB,U8 hq ho gd dG.dn zero pk.ok (fun p l hp hl=>am.bo g (gl pk.ok) p l hp hl) am.bc,fun r lv H3 s3 nr er F3=>hR _ _ ?_⟩
  ·have GR:=(bQ.mp fO).1
   have ip:o.idxOf p=k':=by
    have:=g8 (e_ ho) GR
    rwa [(bQ.mp fO).2] at this
   have pn:p<n:=(cJ ho).mp (hU fO);have X6:=(pk.ok p pn).1.la j hj;have:=((oR ho).mp zz).2;lia
  ·have fP:=s1.trans (s2.trans s3)
   have GU:oP H3 ot n ls g:=⟨s3 _ _ (s2 _ _ pk.eU.1),fun p hp=>s3 _ _ (s2 _ _ (pk.eU.2 p hp))⟩;have eN:((List.range n).map fun p=>V.ref (ls p)).length=n:=by rw [aR,cC]
   refine iV ⟨_,rfl,?_⟩;dsimp only;refine Ve (A_ (xs:=(List.range n).map fun p=>V.ref (ls p)) (fun R h=>⟨_,rfl,ot,rfl,⟨_,.of GU.1⟩,h _ _ (af.refl _) (j7 (.of GU.1))⟩) (by rw [eN];exact dq (by lia)) (fun _ i y _=>y=.int (((g i).length:Int)*(g i).length+3*(g i).length+1)) (fun _ _ _ _ _ _ h _ _=>h) ?_ ?_)
   ·intro D' k x hx Hc R sc _ kc
    have hk:k<n:=by
     have:=(bQ.mp hx).1
     rwa [eN] at this
    have ex:x=.ref (ls k):=by rw [cz,hV hk] at hx;exact (Option.some.inj hx).symm
    subst ex;have lg:=gl pk.ok k hk;refine ⟨_,rfl,ls k,_,rfl,.inl (.of (sc _ _ (GU.2 k hk))),(g k).length,by rw [aR];rfl,by lia,kc _ Hc (af.refl _) rfl⟩
   ·intro D' ys Hc Yc sc hE kh GV
    rw [eN] at hE;have ey:ys=((List.range n).map fun i=>((g i).length:Int)*(g i).length+3*(g i).length+1).map V.int:=by
     refine gQ (by simp [hE]) fun i h1 h2=>?_
     rw [gF,gF,jh];exact kh i _ (dF h1)
    have es:((List.range n).map fun i=>((g i).length:Int)*(g i).length+3*(g i).length+1).sum=((ke n g:Nat):Int):=by
     unfold ke E_;generalize List.range n=l;clear ey kh hE
     induction l with
     | nil=>rfl
     | cons x l ih=>rw [cy,cM,cy,cM,ih];push_cast;rfl
    refine ⟨D',_,rfl,.of (by rw [GV,ey]),?_⟩
    rw [es];refine ⟨by show 3≤sizeLine;decide,fun GS nB=>?_⟩
    have hI:=fP.trans sc;exact kO gd GS r lv g _ (hI.trans (aT nB)) (none_of (s1.trans s2) nr) (none_of hI nB) pk.ok az ((aT nB) _ _ (sc _ _ er)) fun i hi=>((F3 i hi).mono sc).mono (aT nB)
theorem Yd:a8 ["one","other"] ["one","other"] (aM Cb):=bH
theorem NY(T:Txt K mg t):aY P w K mg base bI 1 t.rK t.vo ["one","other"] Vl:=by
 have S:=Yd;refine T.sZ.bS S (fun _ _ _ _ H _ _ _ hr h=>?_);obtain ⟨a,b,rfl,k⟩:=h
 refine ⟨_,(ak (p8 cq (bj gI (pv 1) ag) (aq (Ao (i:=0) (j:=1) rfl S.nd rfl rfl (by decide) rfl rfl (aa (pv 1) (aa (ax P6 (pv 0) (pv 1)) ae)) rfl)))
  (aq (aI (bW D8 rfl T.CY boot_abs (aa (pv 0) ae))))),?_⟩
 refine oJ ⟨fun m σ H'=>H'=H∧∃(x y:Int),σ=[some (.int x),some (.int y)]∧m=y.natAbs∧Int.gcd x y=Int.gcd a b,⟨b.natAbs,rfl,a,b,rfl,rfl,rfl⟩,?_⟩;rintro m σ H' ⟨rfl,x,y,rfl,em,hg⟩;refine ⟨_,rfl,rfl,_,rfl,b7 (fun hy=>?_) (fun hy=>?_)⟩
 ·have hy:y≠0:=fun z=>by subst z;revert hy;decide
  refine ⟨fun σ' H2=>H2=H'∧σ'=[some (.int y),some (.int (x.fmod y))],?_,?_⟩
  ·rintro σ' H2 ⟨rfl,rfl⟩
   exact ⟨(x.fmod y).natAbs,by rw [em];exact Vk hy,rfl,y,x.fmod y,rfl,rfl,by rw [Lu];exact hg⟩
  ·exact ⟨_,rfl,_,rfl,_,rfl,_,_,rfl,rfl,hy,_,_,rfl,rfl,rfl⟩
 ·have y0:y=0:=by
   by_cases z:y=0;·exact z
   ·refine absurd ?_ hy
    rw [gv,c_ z];rfl
  subst y0;rw [Int.gcd_zero_right] at hg;refine ⟨_,rfl,x,rfl,?_⟩;rw [Ex,hg];exact k
theorem Ye:a8 ["number","p","one","other","left","right","part"] ["number","p"] (aM Cc):=bH
theorem NZ(T:Txt K mg t):aY P w K mg base bI 1 t.rM t.vp ["number","p"] Vm:=by
 have S:=Ye;refine T.s_.bS S (fun _ _ _ _ H _ _ _ hr h=>?_);obtain ⟨c,p,rfl,p2,N1,hp,nc,k⟩:=h;have pp:0<p:=by lia
 have m0:=fI c (show p≠0 by lia)
 have m1:=fT c pp;have md:p∣c-c % p:=⟨c / p,by have:=Ac c p;lia⟩
 have mz:1≤c % p:=by have:c % p≠0:=fun z=>nc (DF z);lia
 have g0:Int.gcd (c % p) p=1:=by rw [Int.gcd_comm];exact EA p2 N1 hp mz m1
 refine ⟨_,(ak (Ao (i:=2) (j:=3) rfl S.nd rfl rfl (by decide) rfl rfl (aa (ax ft (pv 0) (pv 1)) (aa (pv 1) ae)) rfl)
  (ak (@gj _ _ _ _ _ _ (fJ (aa ag (aa ag ae))) (p6 rfl (gT (bV (i:=4) S.nd rfl (Or.inl rfl)) (gT (bV (i:=5) S.nd rfl (Or.inl rfl)) p5))) (by rfl) (by rfl) (by rfl))
  (ak (p8 cq (bj gI (pv 3) ag) (ak (putL 6 S.nd (ax Aw (pv 2) (pv 3)))
  (ak (Ao (i:=2) (j:=3) rfl S.nd rfl rfl (by decide) rfl rfl (aa (pv 3) (aa (ax jV (pv 2) (ax eZ (pv 6) (pv 3))) ae)) rfl)
  (aq (Ao (i:=4) (j:=5) rfl S.nd rfl rfl (by decide) rfl rfl (aa (pv 5) (aa (ax jV (pv 4) (ax eZ (pv 6) (pv 5))) ae)) rfl)))))
  (aq (aI (ax ft (pv 4) (pv 1))))))),?_⟩
 refine aw fun _ hR=>⟨_,rfl,_,rfl,_,_,rfl,rfl,pp,_,rfl,_,_,rfl,hR _ _ ?_⟩;refine aw fun _ hR=>aW ⟨by show 2≤sizeLine;decide,fun tq l9=>⟨tq,_,rfl,.of az,rfl,_,_,rfl,_,_,rfl,rfl,hR _ _ ?_⟩⟩
 have s1:af H (upd H tq (.tup [.int 1,.int 0])):=aT l9;generalize upd H tq (.tup [.int 1,.int 0])=H1 at s1 ⊢;refine aw fun _ hR=>⟨fun m σ H'=>H'=H1∧∃(x y l r:Int) (v6:Option V),σ=[some (.int c),some (.int p),some (.int x),some (.int y),some (.int l),some (.int r),v6]∧m=y.natAbs∧0≤x∧x≤997∧0≤y∧y≤997∧p∣l*c-x∧p∣r*c-y∧Int.gcd x y=1,⟨_,rfl,c % p,p,1,0,_,rfl,rfl,m0,by lia,by lia,N1,by rw [nQ];exact md,by rw [gh,pK];exact Int.dvd_neg.mpr (jd p),g0⟩,?_⟩
 rintro m σ H' ⟨rfl,x,y,l,r,v6,rfl,em,x0,x1,y0,y1,hl,xl,hg⟩;refine ⟨_,rfl,rfl,_,rfl,b7 (fun hy=>?_) (fun hy=>?_)⟩
 ·have hy:y≠0:=fun z=>by subst z;revert hy;decide
  have yp:0<y:=by lia
  have dm:=Ac x y;have e0:=fI x hy;have e1:=fT x yp;have d0:0≤x / y:=Ag x0 y0;have d1:x / y≤997:=Int.le_trans (Int.ediv_le_self _ x0) x1;have ex:x-x / y*y=x % y:=by rw [dX];lia
  refine ⟨fun σ' H2=>H2=H'∧σ'=[some (.int c),some (.int p),some (.int y),some (.int (x-x / y*y)),some (.int r),some (.int (l-x / y*r)),some (.int (x / y))],?_,?_⟩
  ·rintro σ' H2 ⟨rfl,rfl⟩
   refine ⟨(x % y).natAbs,by lia,rfl,y,x-x / y*y,r,l-x / y*r,_,rfl,by rw [ex],y0,y1,by lia,by lia,xl,?_,?_⟩
   ·obtain ⟨a1,b1⟩:=hl
    obtain ⟨a2,b2⟩:=xl;exact ⟨a1-x / y*a2,by grind⟩
   ·rw [ex]
    have:=Lu x y;rw [Int.fmod_eq_emod,ar (.inl y0),Int.add_zero] at this;rw [this];exact hg
  ·refine aw fun _ hR=>aW ⟨_,rfl,_,rfl,_,_,rfl,rfl,⟨yp,by lia⟩,hR _ _ ?_⟩
   refine aw fun _ hR=>⟨_,rfl,_,rfl,_,rfl,_,rfl,_,_,rfl,rfl,.inl ⟨by lia,by lia⟩,_,_,rfl,rfl,_,_,rfl,hR _ _ ?_⟩
   exact ⟨_,rfl,_,rfl,_,rfl,_,rfl,_,_,rfl,rfl,.inl ⟨by lia,by lia⟩,_,_,rfl,rfl,_,_,rfl,rfl,rfl⟩
 ·have y0:y=0:=by
   by_cases z:y=0;·exact z
   ·refine absurd ?_ hy
    rw [gv,c_ z];rfl
  subst y0;rw [Int.gcd_zero_right] at hg;have x1:x=1:=by lia
  subst x1;refine hR _ _ ?_;refine ⟨_,rfl,_,rfl,_,_,rfl,rfl,pp,k _ _ s1 (fI _ (by lia)) (fT _ pp) ?_⟩
  have:=Ac l p;obtain ⟨a1,b1⟩:=hl;exact ⟨a1-l / p*c,by grind⟩
theorem Yf:a8 ["told","top","bottom","sign","shared"] ["told","top","bottom"] (aM Cd):=bH
theorem oZ(T:Txt K mg t):aY P w K mg base bI 2 t.rN t.vq ["told","top","bottom"] Vn:=by
 have S:=Yf;refine T.jJ.bS S (fun _ _ _ _ H _ _ _ hr h=>?_);obtain ⟨td,q,a,b,Y,rfl,tw,hq,nb,bA,bB,bY,k⟩:=h
 refine ⟨_,(ak (bL (bj dU (ai aC (pv 0) ag) dY) (aq (aI (ax ft (ax eZ (pv 1) (aB (NZ T) hr T.Ga T.s_.kp T.F_ aE (aa (pv 2) (aa (ai aC (pv 0) ag) ae)))) (ai aC (pv 0) ag)))) bO)
  (ak (putL 3 S.nd (ax jV ag (ax eZ ag (gY D9 rfl T.xj boot_int (aa (kz om (pv 2) ag) ae)))))
  (ak (putL 4 S.nd (aB (NY T) hr T.F9 T.sZ.kp T.F8 aE (aa (pv 1) (aa (pv 2) ae))))
  (aq (aI (fJ (aa (ax AX (ax eZ (pv 3) (pv 1)) (pv 4)) (aa (ax AX (ax eZ (pv 3) (pv 2)) (pv 4)) ae)))))))),?_⟩
 rcases tw with ⟨rfl,tw⟩ | ⟨qn,tw⟩
 ·have b0:b≠0:=fun z=>nb (by rw [z];exact jd 0)
  refine aw fun _ hR=>⟨_,rfl,td,_,_,_,rfl,rfl,.of tw,rfl,rfl,false,by decide +kernel,bM (hR _ _ ?_)⟩
  have gp:0<Int.gcd a b:=Int.gcd_pos_of_ne_zero_right a b0;have Yg:Int.gcd a b≤b.natAbs:=Nat.le_of_dvd (by lia) (Int.ofNat_dvd.mp (by rw [Int.dvd_natAbs];exact jR a b))
  have cd:Er 0 (Int.gcd a b:Int):=⟨by lia,by show (Int.gcd a b:Int).natAbs<2 ^ 2048;rw [xK];exact jQ (aH Yg (aH bB bY)) (by decide +kernel)⟩
  obtain ⟨sg,GW⟩:∃sg:Int,sg=if b<0 then -1 else 1:=⟨_,rfl⟩
  have sg1:sg=1∨sg=-1:=by rw [GW];split <;> simp
  refine aw fun _ hR=>aW ⟨_,rfl,_,_,rfl,rfl,.inr ⟨decide (b<0),rfl,_,_,rfl,rfl,.inl ⟨by decide,by decide⟩,_,_,rfl,rfl,hR _ _ ?_⟩⟩
  rw [show (fun i j=>V.int (i-j)) 1 (2*if decide (b<0)=true then 1 else 0)=V.int sg by
   show V.int _=_;rw [GW];by_cases h:b<0;·rw [ar (cA h),ar h];rfl
   ·rw [ao (by simpa using h),ao h];rfl]
  refine aw fun _ hR=>aW ⟨_,rfl,_,rfl,a,b,rfl,hR _ _ ?_⟩;obtain ⟨lw,le⟩:=Vo (a:=a) b0 sg GW;refine iV ⟨_,rfl,_,rfl,_,_,rfl,rfl,.inl ⟨by lia,by lia⟩,_,rfl,_,_,rfl,rfl,cd,_,rfl,_,rfl,_,_,rfl,rfl,.inl ⟨by lia,by lia⟩,_,rfl,_,_,rfl,rfl,cd,by show 2≤sizeLine;decide,fun tp dI=>k _ _ (aT dI) ?_⟩
  have W:aJ (((sg*a).fdiv (Int.gcd a b:Int)).natAbs+((sg*b).fdiv (Int.gcd a b:Int)).natAbs) (upd H tp (.tup [.int ((sg*a).fdiv (Int.gcd a b:Int)),.int ((sg*b).fdiv (Int.gcd a b:Int))])) 0 (.ref tp) a b:=⟨_,_,.ba az lw (by lia) (by lia),by rw [le,nW];exact jd 0,nb⟩
  exact W.bd bA bB
 ·have cV:2≤q∧q≤997∧fA q=true:=by rcases hq with h | h;exact absurd h qn;exact h
  have qp:0<q:=by lia
  refine aw fun _ hR=>⟨_,rfl,td,_,_,_,rfl,rfl,.of tw,rfl,rfl,true,by decide +kernel,dZ ?_⟩
  refine ⟨_,rfl,_,rfl,_,rfl,td,_,_,_,rfl,rfl,.of tw,rfl,b,q,rfl,cV.1,cV.2.1,cV.2.2,nb,fun r H1 s1 r0 r1 rd=>?_⟩;refine ⟨_,_,rfl,rfl,.inr ⟨by lia,by lia⟩,_,rfl,td,_,_,_,rfl,rfl,.of (s1 _ _ tw),rfl,_,_,rfl,rfl,qp,k _ _ s1 ⟨_,1,.rem (fI _ (by lia)) (fT _ qp) cV.2.1,?_,nb⟩⟩
  have c:Cg q (a*r % q*b) (a*r*b):=(qx q _).mulR b;have c2:Cg q (a*r*b) (a*1):=(Cg.of_eq (show a*r*b=a*(r*b) by grind)).trans (Cg.mulL a rd)
  exact c.trans c2
theorem Yh:a8 ["told","a","b"] ["told","a","b"] (aM Ce):=bH
theorem Yi(T:Txt K mg t):aY P w K mg base bI 3 t.rO t.vt ["told","a","b"] (Fu (fun T U T' U'=>T*U'+T'*U) (fun T U T' U'=>U*U')):=by
 have S:=Yh;refine T.wN.bS S (fun _ _ _ _ H _ _ _ hr h=>?_);obtain ⟨td,v,u,q,Tw,U,Tv,U',X,Y,rfl,tw,hq,hv,hu,cB,nb,bt,bb,k⟩:=h
 refine ⟨_,(ak (bL (bj dU (ai aC (pv 0) ag) dY) (aq (aI (ax ft (ax dS (pv 1) (pv 2)) (ai aC (pv 0) ag)))) bO)
  (aq (aI (aB (oZ T) hr T.m9 T.jJ.kp T.m8 aE (aa (pv 0) (aa (ax dS (ax gu (ai aC (pv 1) ag) (ai aC (pv 2) ag)) (ax gu (ai aC (pv 2) ag) (ai aC (pv 1) ag))) (aa (ax gu (ai aC (pv 1) ag) (ai aC (pv 2) ag)) ae))))))),?_⟩
 obtain ⟨x,m,h1,h2,h3⟩:=hv;obtain ⟨y,n,g1,g2,g3⟩:=hu;obtain ⟨a1,ha⟩:=h2;obtain ⟨b1,hb⟩:=g2;have key:q∣(x*n+y*m)*(U*U')-(Tw*U'+Tv*U)*(m*n):=⟨n*U'*a1+m*U*b1,by grind⟩
 rcases tw with ⟨rfl,tw⟩ | ⟨qn,tw⟩
 ·cases h1 with
  | rem _ _ _=>lia
  | @ba p _ _ ep l bx bm=>
   cases g1 with
   | rem _ _ _=>lia
   | @ba r _ _ er l' fG bn=>
    have mx:=g_ bx cB;have mm:=g_ bm cB;have my:=g_ fG cB;have mn:=g_ bn cB;have m0:=l.pos;have n0:=l'.pos;have zo:m*n≠0:=xJ (nM (by lia) (by lia))
    refine aw fun _ hR=>⟨_,rfl,td,_,_,_,rfl,rfl,.of tw,rfl,rfl,false,by decide +kernel,bM (hR _ _ ?_)⟩
    refine ⟨_,rfl,_,rfl,p,_,_,_,rfl,rfl,.of ep,rfl,_,rfl,r,_,_,_,rfl,rfl,.of er,rfl,_,_,rfl,rfl,⟨mx,mn⟩,_,rfl,r,_,_,_,rfl,rfl,.of er,rfl,_,rfl,p,_,_,_,rfl,rfl,.of ep,rfl,_,_,rfl,rfl,⟨my,mm⟩,_,_,rfl,rfl,_,rfl,p,_,_,_,rfl,rfl,.of ep,rfl,_,rfl,r,_,_,_,rfl,rfl,.of er,rfl,_,_,rfl,rfl,⟨mm,mn⟩,td,0,x*n+y*m,m*n,10 ^ 300,rfl,.inl ⟨rfl,tw⟩,.inl rfl,fun z=>zo (eX.mp z),?_,aH (lW bm bn cB) (by decide +kernel),aK _,fun v' H' s' w'=>k v' H' s' ?_⟩
    ·have h1:=lW bx bn cB
     have h2:=lW fG bm cB;exact aH (show _≤10 ^ 280+10 ^ 280 by lia) (by decide +kernel)
    ·refine (w'.eq (.inl rfl) ?_ nb).bd bt bb
     have:=eX.mp key;exact Cg.of_eq (by dsimp only;grind)
 ·have cV:2≤q∧q≤997∧fA q=true:=by rcases hq with h | h;exact absurd h qn;exact h
  have qp:0<q:=by lia
  cases h1 with
  | ba _ _ _ _=>exact absurd rfl qn
  | rem x0 x1 x2=>
   cases g1 with
   | ba _ _ _ _=>exact absurd rfl qn
   | rem y0 y1 y2=>
    refine aw fun _ hR=>⟨_,rfl,td,_,_,_,rfl,rfl,.of tw,rfl,rfl,true,by decide +kernel,dZ ?_⟩
    refine ⟨_,rfl,_,rfl,_,_,rfl,rfl,_,rfl,td,_,_,_,rfl,rfl,.of tw,rfl,_,_,rfl,rfl,qp,k _ _ (af.refl _) ⟨_,1,.rem (fI _ (by lia)) (fT _ qp) cV.2.1,?_,nb⟩⟩
    have c:Cg q ((x+y) % q*(U*U')) ((x+y)*(U*U')):=(qx q _).mulR (U*U');have c2:Cg q ((x+y)*(U*U')) ((Tw*U'+Tv*U)*1):=by
     have e:(x*1+y*1)*(U*U')-(Tw*U'+Tv*U)*(1*1)=(x+y)*(U*U')-(Tw*U'+Tv*U)*1:=by grind
     unfold Cg;rw [←e];exact key
    exact c.trans c2
theorem Yj:a8 ["told","a","b"] ["told","a","b"] (aM Cf):=bH
theorem N2(T:Txt K mg t):aY P w K mg base bI 3 t.rP t.vv ["told","a","b"] (Fu (fun T U T' U'=>T*T') (fun T U T' U'=>U*U')):=by
 have S:=Yj;refine T.tf.bS S (fun _ _ _ _ H _ _ _ hr h=>?_);obtain ⟨td,v,u,q,Tw,U,Tv,U',X,Y,rfl,tw,hq,hv,hu,cB,nb,bt,bb,k⟩:=h
 refine ⟨_,(ak (bL (bj dU (ai aC (pv 0) ag) dY) (aq (aI (ax ft (ax eZ (pv 1) (pv 2)) (ai aC (pv 0) ag)))) bO)
  (aq (aI (aB (oZ T) hr T.m9 T.jJ.kp T.m8 aE (aa (pv 0) (aa (ax gu (ai aC (pv 1) ag) (ai aC (pv 2) ag)) (aa (ax gu (ai aC (pv 1) ag) (ai aC (pv 2) ag)) ae))))))),?_⟩
 obtain ⟨x,m,h1,h2,h3⟩:=hv;obtain ⟨y,n,g1,g2,g3⟩:=hu;obtain ⟨a1,ha⟩:=h2;obtain ⟨b1,hb⟩:=g2;have key:q∣(x*y)*(U*U')-(Tw*Tv)*(m*n):=⟨y*U'*a1+Tw*m*b1,by grind⟩
 rcases tw with ⟨rfl,tw⟩ | ⟨qn,tw⟩
 ·cases h1 with
  | rem _ _ _=>lia
  | @ba p _ _ ep l bx bm=>
   cases g1 with
   | rem _ _ _=>lia
   | @ba r _ _ er l' fG bn=>
    have mx:=g_ bx cB;have mm:=g_ bm cB;have my:=g_ fG cB;have mn:=g_ bn cB;have m0:=l.pos;have n0:=l'.pos;have zo:m*n≠0:=xJ (nM (by lia) (by lia))
    refine aw fun _ hR=>⟨_,rfl,td,_,_,_,rfl,rfl,.of tw,rfl,rfl,false,by decide +kernel,bM (hR _ _ ?_)⟩
    refine ⟨_,rfl,_,rfl,p,_,_,_,rfl,rfl,.of ep,rfl,_,rfl,r,_,_,_,rfl,rfl,.of er,rfl,_,_,rfl,rfl,⟨mx,my⟩,_,rfl,p,_,_,_,rfl,rfl,.of ep,rfl,_,rfl,r,_,_,_,rfl,rfl,.of er,rfl,_,_,rfl,rfl,⟨mm,mn⟩,td,0,x*y,m*n,10 ^ 300,rfl,.inl ⟨rfl,tw⟩,.inl rfl,fun z=>zo (eX.mp z),?_,aH (lW bm bn cB) (by decide +kernel),aK _,fun v' H' s' w'=>k v' H' s' ?_⟩
    ·exact aH (lW bx fG cB) (by decide +kernel)
    ·refine (w'.eq (.inl rfl) ?_ nb).bd bt bb
     have:=eX.mp key;exact Cg.of_eq (by dsimp only;grind)
 ·have cV:2≤q∧q≤997∧fA q=true:=by rcases hq with h | h;exact absurd h qn;exact h
  have qp:0<q:=by lia
  cases h1 with
  | ba _ _ _ _=>exact absurd rfl qn
  | rem x0 x1 x2=>
   cases g1 with
   | ba _ _ _ _=>exact absurd rfl qn
   | rem y0 y1 y2=>
    refine aw fun _ hR=>⟨_,rfl,td,_,_,_,rfl,rfl,.of tw,rfl,rfl,true,by decide +kernel,dZ ?_⟩
    refine ⟨_,rfl,_,rfl,_,_,rfl,rfl,.inl ⟨by lia,by lia⟩,_,rfl,td,_,_,_,rfl,rfl,.of tw,rfl,_,_,rfl,rfl,qp,k _ _ (af.refl _) ⟨_,1,.rem (fI _ (by lia)) (fT _ qp) cV.2.1,?_,nb⟩⟩
    have c:Cg q ((x*y) % q*(U*U')) ((x*y)*(U*U')):=(qx q _).mulR (U*U');have c2:Cg q ((x*y)*(U*U')) ((Tw*Tv)*1):=by
     have e:(x*y)*(U*U')-(Tw*Tv)*(1*1)=(x*y)*(U*U')-(Tw*Tv)*1:=by grind
     unfold Cg;rw [←e];exact key
    exact c.trans c2
theorem Yk:a8 ["told","a","b"] ["told","a","b"] (aM Ci):=bH
theorem Yl(T:Txt K mg t):aY P w K mg base bI 3 t.rQ t.vw ["told","a","b"] (Fu (fun T U T' U'=>T*U'-T'*U) (fun T U T' U'=>U*U')):=by
 have S:=Yk;refine T.wO.bS S (fun _ _ _ _ H _ _ _ hr h=>?_);obtain ⟨td,v,u,q,Tw,U,Tv,U',X,Y,rfl,tw,hq,hv,hu,cB,nb,bt,bb,k⟩:=h
 refine ⟨_,(ak (bL (bj dU (ai aC (pv 0) ag) dY) (aq (aI (ax ft (ax jV (pv 1) (pv 2)) (ai aC (pv 0) ag)))) bO)
  (aq (aI (aB (oZ T) hr T.m9 T.jJ.kp T.m8 aE (aa (pv 0) (aa (ax jV (ax gu (ai aC (pv 1) ag) (ai aC (pv 2) ag)) (ax gu (ai aC (pv 2) ag) (ai aC (pv 1) ag))) (aa (ax gu (ai aC (pv 1) ag) (ai aC (pv 2) ag)) ae))))))),?_⟩
 obtain ⟨x,m,h1,h2,h3⟩:=hv;obtain ⟨y,n,g1,g2,g3⟩:=hu;obtain ⟨a1,ha⟩:=h2;obtain ⟨b1,hb⟩:=g2;have key:q∣(x*n-y*m)*(U*U')-(Tw*U'-Tv*U)*(m*n):=⟨n*U'*a1-m*U*b1,by grind⟩
 rcases tw with ⟨rfl,tw⟩ | ⟨qn,tw⟩
 ·cases h1 with
  | rem _ _ _=>lia
  | @ba p _ _ ep l bx bm=>
   cases g1 with
   | rem _ _ _=>lia
   | @ba r _ _ er l' fG bn=>
    have mx:=g_ bx cB;have mm:=g_ bm cB;have my:=g_ fG cB;have mn:=g_ bn cB;have m0:=l.pos;have n0:=l'.pos;have zo:m*n≠0:=xJ (nM (by lia) (by lia))
    refine aw fun _ hR=>⟨_,rfl,td,_,_,_,rfl,rfl,.of tw,rfl,rfl,false,by decide +kernel,bM (hR _ _ ?_)⟩
    refine ⟨_,rfl,_,rfl,p,_,_,_,rfl,rfl,.of ep,rfl,_,rfl,r,_,_,_,rfl,rfl,.of er,rfl,_,_,rfl,rfl,⟨mx,mn⟩,_,rfl,r,_,_,_,rfl,rfl,.of er,rfl,_,rfl,p,_,_,_,rfl,rfl,.of ep,rfl,_,_,rfl,rfl,⟨my,mm⟩,_,_,rfl,rfl,_,rfl,p,_,_,_,rfl,rfl,.of ep,rfl,_,rfl,r,_,_,_,rfl,rfl,.of er,rfl,_,_,rfl,rfl,⟨mm,mn⟩,td,0,x*n-y*m,m*n,10 ^ 300,rfl,.inl ⟨rfl,tw⟩,.inl rfl,fun z=>zo (eX.mp z),?_,aH (lW bm bn cB) (by decide +kernel),aK _,fun v' H' s' w'=>k v' H' s' ?_⟩
    ·have h1:=lW bx bn cB
     have h2:=lW fG bm cB;exact aH (show _≤10 ^ 280+10 ^ 280 by lia) (by decide +kernel)
    ·refine (w'.eq (.inl rfl) ?_ nb).bd bt bb
     have:=eX.mp key;exact Cg.of_eq (by dsimp only;grind)
 ·have cV:2≤q∧q≤997∧fA q=true:=by rcases hq with h | h;exact absurd h qn;exact h
  have qp:0<q:=by lia
  cases h1 with
  | ba _ _ _ _=>exact absurd rfl qn
  | rem x0 x1 x2=>
   cases g1 with
   | ba _ _ _ _=>exact absurd rfl qn
   | rem y0 y1 y2=>
    refine aw fun _ hR=>⟨_,rfl,td,_,_,_,rfl,rfl,.of tw,rfl,rfl,true,by decide +kernel,dZ ?_⟩
    refine ⟨_,rfl,_,rfl,_,_,rfl,rfl,_,rfl,td,_,_,_,rfl,rfl,.of tw,rfl,_,_,rfl,rfl,qp,k _ _ (af.refl _) ⟨_,1,.rem (fI _ (by lia)) (fT _ qp) cV.2.1,?_,nb⟩⟩
    have c:Cg q ((x-y) % q*(U*U')) ((x-y)*(U*U')):=(qx q _).mulR (U*U');have c2:Cg q ((x-y)*(U*U')) ((Tw*U'-Tv*U)*1):=by
     have e:(x*1-y*1)*(U*U')-(Tw*U'-Tv*U)*(1*1)=(x-y)*(U*U')-(Tw*U'-Tv*U)*1:=by grind
     unfold Cg;rw [←e];exact key
    exact c.trans c2
theorem Ym:a8 ["told","a","b"] ["told","a","b"] (aM Cj):=bH
theorem Yn(T:Txt K mg t):aY P w K mg base bI 3 t.rR t.vx ["told","a","b"] Vp:=by
 have S:=Ym
 refine T.wQ.bS S (fun _ _ _ _ H _ _ _ hr h=>?_)
 obtain ⟨td,v,u,q,Tw,U,Tv,U',X,Y,rfl,tw,hq,hv,hu,cB,nt,bt,bb,k⟩:=h
 refine ⟨_,(ak (bL (bj dU (ai aC (pv 0) ag) dY) (aq (aI (ax ft (ax eZ (pv 1) (aB (NZ T) hr T.Ga T.s_.kp T.F_ aE (aa (pv 2) (aa (ai aC (pv 0) ag) ae)))) (ai aC (pv 0) ag)))) bO)
  (aq (aI (aB (oZ T) hr T.m9 T.jJ.kp T.m8 aE (aa (pv 0) (aa (ax gu (ai aC (pv 1) ag) (ai aC (pv 2) ag)) (aa (ax gu (ai aC (pv 1) ag) (ai aC (pv 2) ag)) ae))))))),?_⟩
 have Yo:∀{y n},a_ X H q u y n→q∣y*U'-Tv*n→¬q∣U'→y≠0:=fun{y n} g1 g2 g3 e=>nt ((mY hq ⟨y,n,g1,g2,g3⟩).mpr ⟨y,n,g1,e⟩)
 obtain ⟨x,m,h1,h2,h3⟩:=hv
 obtain ⟨y,n,g1,g2,g3⟩:=hu
 have y0:=Yo g1 g2 g3
 have nb:¬q∣U*Tv:=dh hq h3 nt
 rcases tw with ⟨rfl,tw⟩ | ⟨qn,tw⟩
 ·cases h1 with
  | rem _ _ _=>lia
  | @ba p _ _ ep l bx bm=>
   cases g1 with
   | rem _ _ _=>lia
   | @ba r _ _ er l' fG bn=>
    have mx:=g_ bx cB
    have mm:=g_ bm cB
    have my:=g_ fG cB
    have mn:=g_ bn cB
    have m0:=l.pos
    have Yp:m*y≠0:=fun z=>(nO.mp z).elim (fun z=>by lia) y0
    have e1:=eX.mp h2
    have e2:=eX.mp g2
    refine aw fun _ hR=>⟨_,rfl,td,_,_,_,rfl,rfl,.of tw,rfl,rfl,false,by decide +kernel,bM (hR _ _ ?_)⟩
    refine ⟨_,rfl,_,rfl,p,_,_,_,rfl,rfl,.of ep,rfl,_,rfl,r,_,_,_,rfl,rfl,.of er,rfl,_,_,rfl,rfl,⟨mx,mn⟩,_,rfl,p,_,_,_,rfl,rfl,.of ep,rfl,_,rfl,r,_,_,_,rfl,rfl,.of er,rfl,_,_,rfl,rfl,⟨mm,my⟩,td,0,x*n,m*y,10 ^ 300,rfl,.inl ⟨rfl,tw⟩,.inl rfl,fun z=>Yp (eX.mp z),aH (lW bx bn cB) (by decide +kernel),aH (lW bm fG cB) (by decide +kernel),aK _,fun v' H' s' w'=>k v' H' s' ?_⟩
    refine (w'.eq (.inl rfl) (Cg.of_eq ?_) nb).bd bt bb
    have a1:x*U=Tw*m:=by lia
    have a2:Tv*n=y*U':=by lia
    calc x*n*(U*Tv)=x*U*(Tv*n):=by grind
     _=Tw*m*(y*U'):=by rw [a1,a2]
     _=Tw*U'*(m*y):=by grind
 ·have cV:2≤q∧q≤997∧fA q=true:=by rcases hq with h | h;exact absurd h qn;exact h
  have qp:0<q:=by lia
  cases h1 with
  | ba _ _ _ _=>exact absurd rfl qn
  | rem x0 x1 x2=>
   cases g1 with
   | ba _ _ _ _=>exact absurd rfl qn
   | rem z0 z1 z2=>
    have nd:¬q∣y:=fun z=>by
     have:=Int.le_of_dvd (by lia) z
     lia
    refine aw fun _ hR=>⟨_,rfl,td,_,_,_,rfl,rfl,.of tw,rfl,rfl,true,by decide +kernel,dZ ?_⟩
    refine ⟨_,rfl,_,rfl,_,rfl,td,_,_,_,rfl,rfl,.of tw,rfl,y,q,rfl,cV.1,cV.2.1,cV.2.2,nd,fun r H1 s1 r0 r1 rd=>?_⟩
    refine ⟨_,_,rfl,rfl,.inl ⟨by lia,by lia⟩,_,rfl,td,_,_,_,rfl,rfl,.of (s1 _ _ tw),rfl,_,_,rfl,rfl,qp,k _ _ s1 ⟨_,1,.rem (fI _ (by lia)) (fT _ qp) cV.2.1,?_,nb⟩⟩
    have c:Cg q (x*r % q*(U*Tv)) (x*r*(U*Tv)):=(qx q _).mulR (U*Tv)
    obtain ⟨a1,ha⟩:=h2
    obtain ⟨b1,hb⟩:=g2
    obtain ⟨c1,hc⟩:=rd
    have c2:Cg q (x*r*(U*Tv)) (Tw*U'*1):=⟨r*Tv*a1-Tw*r*b1+Tw*U'*c1,by grind⟩
    exact c.trans c2
theorem Yq:a8 ["told"] ["told"] (aM Cn):=bH
theorem o_(T:Txt K mg t):aY P w K mg base bI 3 t.rX t.vA ["told"] Vq:=by have S:=Yq;refine T.jK.bS S (fun _ _ _ s H _ _ _ hr h=>?_);obtain ⟨td,q,rfl,tw,hq,k⟩:=h;refine ⟨_,(aq (aI (aB (oZ T) hr T.m9 T.jJ.kp T.m8 aE (aa (pv 0) (aa ag (aa ag ae)))))),?_⟩;exact ⟨_,rfl,td,q,0,1,1000,rfl,tw,hq,yB hq,by decide,by decide,by decide +kernel,fun v H' s w=>k v H' s (Vr hq w (by decide))⟩
theorem Yr:a8 ["script","k"] ["script","k"] (aM B9):=bH
theorem Ys(T:Txt K mg t):aY P w K mg base bI 1 t.rF t.vk ["script","k"] (UK K):=by
 have S:=Yr;refine T.wM.bS S (fun _ _ _ _ H _ _ _ hr h=>?_);obtain ⟨a,ns,k,rfl,hS,kk⟩:=h
 refine ⟨_,(ak (bL (bj om (pv 1) (bW e8 rfl T.dH dO (aa (pv 0) ae))) (aq (aI (ai aV (pv 0) (pv 1)))) bO)
  (aq (aI ag))),?_⟩
 refine aw fun _ hR=>⟨_,rfl,_,rfl,a,_,rfl,.inl hS,_,_,rfl,rfl,_,rfl,b7 (fun hb=>?_) (fun hb=>hR _ _ (kk 0))⟩;have hb:=eY hb;rw [aR] at hb;have hk:k<ns.length:=by lia
 exact ⟨_,rfl,_,rfl,a,_,_,_,rfl,rfl,hS,gJ (by rw [cz,dF hk];rfl),kk _⟩
theorem Yt:a8 ["found"] ["found"] (aM Cz):=bH
theorem zp(T:Txt K mg t):aY P w K mg base bI 1 t.sD t.vL ["found"] J4:=by
 have S:=Yt;refine T.l7.bS S (fun _ _ _ _ H _ Q _ hr h=>?_);obtain ⟨v,rfl,ha,k⟩:=h;refine ⟨_,(aq (aI (mF (bW (lJ (K:=K)) rfl T.kW boot_isinstance (aa (pv 0) (aa (lA (v:=.ty "int") rfl T.xj boot_int rfl) ae))) (pZ (IS (bW (lJ (K:=K)) rfl T.kW boot_isinstance (aa (pv 0) (aa (lA (v:=.ty "bool") rfl T.Gn boot_bool rfl) ae)))))))),?_⟩;obtain ⟨Ty,ty,k1,k2,_⟩:=ha.AS (K:=K);refine ⟨_,rfl,_,_,_,_,rfl,rfl,ty,k1,_,rfl,b7 (fun h1=>?_) (fun h1=>?_)⟩
 ·refine ⟨_,rfl,_,_,_,_,rfl,rfl,ty,k2,_,rfl,?_⟩
  have e:(!mQ v)=mP v:=by
   cases h2:mQ v with
   | true=>rw [J3 h2];rfl
   | false=>rw [h2,Bool.or_false] at h1;rw [h1];rfl
  show Q (.bl (!mQ v)) H;rw [e];exact k
 ·have e:mP v=false:=by
   cases h2:mP v with
   | true=>rw [h2] at h1;exact absurd rfl h1
   | false=>rfl
  rw [e] at k;exact k
theorem Yu:a8 ["tape","many","found"] ["tape","many"] (aM Ca):=bH
theorem kY(T:Txt K mg t):aY P w K mg base bI 1 t.rJ t.vn ["tape","many"] UM:=by
 have S:=Yu;refine T.gN.bS S (fun _ _ _ _ H _ _ _ hr h=>?_);obtain ⟨Tp,m,rfl,⟨x,e⟩,m1,m2,kk⟩:=h
 refine ⟨_,(ak (putL 2 S.nd (ax ft (ai aV (pv 0) ag) (pv 1)))
  (ak (@gj _ _ _ _ _ _ (ax Aw (ai aV (pv 0) ag) (pv 1)) (gU (pv 0) ag set_list) (by rfl) (by rfl) (by rfl))
  (aq (aI (pv 2))))),?_⟩
 have p0:(0:Int)<(m:Int):=by lia
 refine aw fun _ hR=>aW ⟨_,rfl,Tp,_,_,_,rfl,rfl,.of e,rfl,_,rfl,_,_,rfl,rfl,p0,hR _ _ ?_⟩;refine aw fun _ hR=>⟨_,rfl,Tp,_,_,_,rfl,rfl,.of e,rfl,_,rfl,_,_,rfl,rfl,⟨p0,by lia⟩,_,rfl,Tp,_,0,0,rfl,rfl,e,rfl,hR _ _ ?_⟩
 have d0:=fI x (show (m:Int)≠0 by lia)
 have d1:=fT x p0;obtain ⟨d,ed⟩:=pN d0;refine ⟨_,rfl,?_⟩;dsimp only;rw [ed];exact kk d _ (by lia) bh.upd ⟨_,az⟩
theorem Yv:a8 ["script","k","cell","p","number","last","turn"] ["script","k"] (aM B_):=bH
theorem Df(T:Txt K mg t):aY P w K mg base bI 2 t.rH t.vm ["script","k"] (UL K):=by
 have S:=Yv;refine T.m7.bS S (fun _ _ _ _ H _ _ _ hr h=>?_);obtain ⟨a,ns,k,rfl,hS,k1,kk⟩:=h
 refine ⟨_,(ak (putL 2 S.nd (aB (Ys T) hr T.MJ T.wM.kp T.MI aE (aa (pv 0) (aa (pv 1) ae))))
  (ak (bL (bj dU (ax ft (pv 2) ag) ag) (aq (aI (eR (aa (ax Aw (pv 2) ag) ae)))) bO)
  (ak (putL 3 S.nd ag)
  (ak (putL 4 S.nd ag)
  (ak (putL 5 S.nd (ax ft (ax dS (ax dS (ax eZ (ax ft (pv 2) (pv 3)) ag) (ax eZ ag (pv 1))) ag) (pv 3)))
  (ak (cN cq rfl (gq rfl T.eA (aa ag ae)) (bV (i:=6) S.nd rfl (Or.inl rfl))
   (ak (putL 4 S.nd (ax dS (ax eZ (pv 4) (pv 3)) (pv 5)))
  (aq (putL 5 S.nd (ax ft (ax dS (ax dS (ax eZ (pv 5) (pv 5)) (ax eZ ag (pv 1))) (pv 6)) (pv 3))))))
  (aq (aI (eR (aa (pv 4) ae)))))))))),?_⟩
 have p2:(0:Int)<2:=by decide
 have pp:(0:Int)<2305843009213693951:=by decide
 refine aw fun _ hR=>aW ⟨_,rfl,_,rfl,a,ns,k,rfl,hS,fun z=>hR _ _ ?_⟩;refine aw fun _ hR=>⟨_,rfl,_,_,rfl,rfl,p2,rfl,_,rfl,b7 (fun hb=>?_) (fun hb=>hR _ _ ?_)⟩
 ·refine ⟨_,rfl,_,_,rfl,rfl,⟨p2,by decide⟩,by show 1≤sizeLine;decide,fun Tp zq=>?_⟩
  exact kk Tp _ (aT zq) zq ⟨_,az⟩
 ·refine aw fun _ hR=>aW (hR _ _ ?_)
  refine aw fun _ hR=>aW (hR _ _ ?_);refine aw fun _ hR=>aW ⟨_,rfl,_,rfl,_,_,rfl,rfl,pp,_,_,rfl,rfl,.inr ⟨by decide,by decide⟩,_,rfl,_,_,rfl,rfl,.inl ⟨by decide,by decide⟩,_,_,rfl,rfl,_,_,rfl,rfl,_,rfl,_,_,rfl,rfl,pp,hR _ _ ?_⟩
  have l0:=fI (z % 2305843009213693951*48271+69621*(k:Int)+11) (show (2305843009213693951:Int)≠0 by decide)
  have l1:=fT (z % 2305843009213693951*48271+69621*(k:Int)+11) pp;dsimp only;generalize (z % 2305843009213693951*48271+69621*(k:Int)+11) % 2305843009213693951=la at l0 l1 ⊢;refine aw fun _ hR=>⟨7,rfl,by decide,by decide,?_⟩
  refine iu (fun i σ Hc=>Hc=H∧∃(nu la:Int) (v6:Option V),σ=[some (.ref a),some (.int (k:Int)),some (.int z),some (.int 2305843009213693951),some (.int nu),some (.int la),v6]∧0≤la∧la<2305843009213693951) ⟨rfl,_,_,_,rfl,l0,l1⟩ ?_ ?_
  ·rintro i σ Hc hi ⟨rfl,nu,la,v6,rfl,l0,l1⟩
   dsimp only [b6];refine aw fun _ hR=>aW ⟨_,rfl,_,rfl,_,_,rfl,rfl,.inr ⟨by decide,by decide⟩,_,rfl,_,_,rfl,rfl,hR _ _ ?_⟩
   refine ⟨_,rfl,_,rfl,_,_,rfl,rfl,.inl ⟨by lia,by lia⟩,_,rfl,_,_,rfl,rfl,.inl ⟨by decide,by decide⟩,_,_,rfl,rfl,_,rfl,_,_,rfl,rfl,_,rfl,_,_,rfl,rfl,pp,?_⟩
   refine ⟨rfl,_,_,_,rfl,?_,?_⟩;·exact fI _ (by decide)
   ·exact fT _ pp
  ·rintro σ Hc ⟨rfl,nu,la,v6,rfl,_,_⟩
   refine hR _ _ ?_;refine ⟨_,rfl,by show 1≤sizeLine;decide,fun Tp zq=>?_⟩
   exact kk Tp _ (aT zq) zq ⟨_,az⟩
theorem Yw:a8 ["told","tape","top"] ["told","tape"] (aM Cm):=bH
theorem Dg(T:Txt K mg t):aY P w K mg base bI 3 t.rW t.vz ["told","tape"] Vs:=by
 have S:=Yw;refine T.m_.bS S (fun _ _ _ _ H _ _ _ hr h=>?_);obtain ⟨td,Tp,q,rfl,tw,hq,tc,k⟩:=h
 refine ⟨_,(ak (bL (PW.pt (pw_and (bj dU (ai aC (pv 0) ag) dY) (pw_and1 (bj dU (aB (kY T) hr T.jI T.gN.kp T.jH aE (aa (pv 1) (aa ag ae))) ag)))) (aq (aI (aB (kY T) hr T.jI T.gN.kp T.jH aE (aa (pv 1) (aa (ai aC (pv 0) ag) ae))))) bO)
  (ak (putL 2 S.nd (ax jV (aB (kY T) hr T.jI T.gN.kp T.jH aE (aa (pv 1) (aa ag ae))) ag))
  (ak (bL (bj dU (ai aC (pv 0) ag) dY) (aq (aI (ax ft (pv 2) (ai aC (pv 0) ag)))) bO)
  (aq (aI (aB (oZ T) hr T.m9 T.jJ.kp T.m8 aE (aa (pv 0) (aa (pv 2) (aa (ai aV (eR (aa ag (aa ag (aa ag (aa ag (aa ag ae)))))) (aB (kY T) hr T.jI T.gN.kp T.jH aE (aa (pv 1) (aa ag ae)))) ae))))))))),?_⟩
 rcases id tw with ⟨q0,e0⟩ | ⟨qn,e0⟩
 ·refine aw fun _ hR=>⟨_,rfl,td,_,_,_,rfl,rfl,.of e0,rfl,rfl,false,by decide +kernel,bM (bM (hR _ _ ?_))⟩
  refine aw fun _ hR=>aW ⟨_,rfl,Tp,7,rfl,tc,by decide,by decide,fun d H1 d7 o1 t1=>⟨_,_,rfl,rfl,hR _ _ ?_⟩⟩
  have tw1:=tw.off o1 tc;obtain ⟨_,e1⟩ | ⟨qn,_⟩:=id tw1
  ·refine aw fun _ hR=>⟨_,rfl,td,_,_,_,rfl,rfl,.of e1,rfl,rfl,false,by decide +kernel,bM (hR _ _ ?_)⟩
   refine ⟨_,rfl,_,rfl,by show 5≤sizeLine;decide,fun l nl=>?_⟩
   have sl:af H1 (upd H1 l (.lst [.int 1,.int 1,.int 1,.int 2,.int 3])):=aT nl;have el:upd H1 l (.lst [.int 1,.int 1,.int 1,.int 2,.int 3]) l=some (.lst [.int 1,.int 1,.int 1,.int 2,.int 3]):=az;have lT:l≠Tp:=t1.ne nl;generalize upd H1 l (.lst [.int 1,.int 1,.int 1,.int 2,.int 3])=H2 at sl el ⊢;have t2:=t1.mono sl;refine ⟨_,rfl,Tp,5,rfl,t2,by decide,by decide,fun j H3 j5 o3 t3=>?_⟩
   obtain ⟨b,eb,hb⟩:∃b:Int,gZ [V.int 1,.int 1,.int 1,.int 2,.int 3] (j:Int)=some (.int b)∧(b=1∨b=2∨b=3):=by
    match j,j5 with
    | 0,_=>exact ⟨1,rfl,.inl rfl⟩
    | 1,_=>exact ⟨1,rfl,.inl rfl⟩
    | 2,_=>exact ⟨1,rfl,.inl rfl⟩
    | 3,_=>exact ⟨2,rfl,.inr (.inl rfl)⟩
    | 4,_=>exact ⟨3,rfl,.inr (.inr rfl)⟩
   have tw3:=(tw1.mono sl).off o3 t2;refine ⟨l,_,_,_,rfl,rfl,.of (o3 _ _ lT el),eb,td,q,(d:Int)-3,b,1000,rfl,tw3,hq,?_,by lia,by lia,by decide +kernel,fun v H4 s4 w4=>?_⟩
   ·rw [q0]
    intro z;have:=eX.mp z;lia
   ·obtain ⟨x,m,g1,g2,g3⟩:=Lv w4 (by lia) (by lia) q0
    exact k v x m H4 (o1.trans ((bh.of sl).trans (o3.trans (bh.of s4)))) (t3.mono s4) g1 fun _=>⟨by lia,kr g3 (by rcases hb with rfl | rfl | rfl <;> decide)⟩
  ·exact absurd q0 qn
 ·have cV:2≤q∧q≤997∧fA q=true:=by rcases hq with h | h;exact absurd h qn;exact h
  have qp:0<q:=by lia
  refine aw fun _ hR=>⟨_,rfl,td,_,_,_,rfl,rfl,.of e0,rfl,rfl,true,by decide +kernel,dZ ?_⟩
  refine ⟨_,rfl,Tp,4,rfl,tc,by decide,by decide,fun d H1 d4 o1 t1=>?_⟩
  have tw1:=tw.off o1 tc;obtain ⟨z,_⟩ | ⟨_,e1⟩:=id tw1;·exact absurd z qn
  refine ⟨rfl,_,rfl,b7 (fun hb=>?_) (fun hb=>hR _ _ ?_)⟩
  ·refine ⟨_,rfl,_,rfl,td,_,_,_,rfl,rfl,.of e1,rfl,Tp,q.toNat,by show [V.ref Tp,V.int q]=_;rw [Int.toNat_of_nonneg (by lia)],t1,by lia,by lia,fun d2 H2 d2l o2 t2=>?_⟩
   exact k _ (d2:Int) 1 H2 (o1.trans o2) t2 (.rem (by lia) (by lia) cV.2.1) fun z=>absurd z qn
  ·refine aw fun _ hR=>aW ⟨_,rfl,Tp,7,rfl,t1,by decide,by decide,fun d2 H2 d7 o2 t2=>⟨_,_,rfl,rfl,hR _ _ ?_⟩⟩
   have tw2:=tw1.off o2 t1;obtain ⟨z,_⟩ | ⟨_,e2⟩:=id tw2;·exact absurd z qn
   refine aw fun _ hR=>⟨_,rfl,td,_,_,_,rfl,rfl,.of e2,rfl,rfl,true,by decide +kernel,dZ ?_⟩
   refine ⟨_,rfl,_,rfl,td,_,_,_,rfl,rfl,.of e2,rfl,_,_,rfl,rfl,qp,k _ _ 1 H2 (o1.trans o2) t2 (.rem (fI _ (by lia)) (fT _ qp) cV.2.1) fun z=>absurd z qn⟩
theorem Yx:a8 ["tape","way","wheels"] ["tape"] (aM Ck):=bH
theorem Yy(T:Txt K mg t):aY P w K mg base bI 2 t.rV t.vy ["tape"] Vt:=by
 have S:=Yx;have N3:=kY (P:=P) (w:=w) (base:=base) T;refine T.wR.bS S (fun _ _ _ _ H _ _ _ hr h=>?_);obtain ⟨Tp,rfl,tc,k⟩:=h
 refine ⟨_,(@ak _ _ _ _ _ (@AY _ _ 1 _ _ _ _ (by rfl) (by first | exact .inl rfl | exact .inr rfl | assumption) S.nd rfl (Or.inl rfl) (Ea N3 (hr.mono (by decide)) rfl T.jI T.gN.kp T.jH .nil aE (@e9 _ _ _ _ _ (by rfl) (pv 0) (@e9 _ _ _ _ _ (by rfl) ag ae))))
   (@ak _ _ _ _ _ (@AY _ _ 2 _ _ _ _ (by rfl) (by first | exact .inl rfl | exact .inr rfl | assumption) S.nd rfl (Or.inl rfl) (@eR _ _ _ _ (@e9 _ _ _ _ _ (by rfl) ag (@e9 _ _ _ _ _ (by rfl) ag (@e9 _ _ _ _ _ (by rfl) ag (@e9 _ _ _ _ _ (by rfl) ag (@e9 _ _ _ _ _ (by rfl) ag (@e9 _ _ _ _ _ (by rfl) ag (@e9 _ _ _ _ _ (by rfl) ag (@e9 _ _ _ _ _ (by rfl) (@x5 _ _ _ _ _ _ _ aV (@eR _ _ _ _ (@e9 _ _ _ _ _ (by rfl) ag (@e9 _ _ _ _ _ (by rfl) ag (@e9 _ _ _ _ _ (by rfl) ag ae)))) (Ea N3 (hr.mono (by decide)) rfl T.jI T.gN.kp T.jH .nil aE (@e9 _ _ _ _ _ (by rfl) (pv 0) (@e9 _ _ _ _ _ (by rfl) ag ae))) (fun _ _=>rfl)) ae))))))))))
   (@aq _ _ _ (@aI _ _ _ _ (@x5 _ _ _ _ _ _ _ aV (@eR _ _ _ _ (@e9 _ _ _ _ _ (by rfl) (@fJ _ _ _ _ _ (@e9 _ _ _ _ _ (by rfl) dY (@e9 _ _ _ _ _ (by rfl) (@x5 _ _ _ _ _ _ _ aV (pv 2) (pv 1) (fun _ _=>rfl)) ae))) (@e9 _ _ _ _ _ (by rfl) (@fJ _ _ _ _ _ (@e9 _ _ _ _ _ (by rfl) dY ae)) ae))) (gY D9 rfl T.xj boot_int (@e9 _ _ _ _ _ (by rfl) (@D6 _ _ _ _ _ _ _ _ dU (@x5 _ _ _ _ _ _ _ aV (pv 2) (pv 1) (fun _ _=>rfl)) ag (D5 _)) ae)) (fun _ _=>rfl)))))),?_⟩
 refine aw fun _ hR=>aW ⟨_,rfl,Tp,8,rfl,tc,by decide,by decide,fun wy H1 w8 o1 t1=>hR _ _ ?_⟩
 refine aw fun _ hR=>aW ⟨by show 3≤sizeLine;decide,fun l1 n1=>?_⟩
 have s1:af H1 (upd H1 l1 (.lst [.int 97,.int 13,.int 11])):=aT n1;have e1:upd H1 l1 (.lst [.int 97,.int 13,.int 11]) l1=some (.lst [.int 97,.int 13,.int 11]):=az;have lT:l1≠Tp:=t1.ne n1;generalize upd H1 l1 (.lst [.int 97,.int 13,.int 11])=H2 at s1 e1 ⊢;have t2:=t1.mono s1;refine ⟨_,rfl,Tp,3,rfl,t2,by decide,by decide,fun j H3 j3 o3 t3=>?_⟩
 obtain ⟨w3,ew,hw⟩:∃w3:Int,gZ [V.int 97,.int 13,.int 11] (j:Int)=some (.int w3)∧(w3=97∨w3=13∨w3=11):=by
  match j,j3 with
  | 0,_=>exact ⟨97,rfl,.inl rfl⟩
  | 1,_=>exact ⟨13,rfl,.inr (.inl rfl)⟩
  | 2,_=>exact ⟨11,rfl,.inr (.inr rfl)⟩
 refine ⟨l1,_,_,_,rfl,rfl,.of (o3 _ _ lT e1),ew,by show 8≤sizeLine;decide,fun l2 n2=>hR _ _ ?_⟩
 have s3:af H3 (upd H3 l2 (.lst [.int 0,.int 2,.int 3,.int 5,.int 7,.int 0,.int 997,.int w3])):=aT n2;have e3:upd H3 l2 (.lst [.int 0,.int 2,.int 3,.int 5,.int 7,.int 0,.int 997,.int w3]) l2=some (.lst [.int 0,.int 2,.int 3,.int 5,.int 7,.int 0,.int 997,.int w3]):=az;generalize upd H3 l2 (.lst [.int 0,.int 2,.int 3,.int 5,.int 7,.int 0,.int 997,.int w3])=H4 at s3 e3 ⊢;have t4:=t3.mono s3;have o4:bh Tp H H4:=o1.trans ((bh.of s1).trans (o3.trans (bh.of s3)));obtain ⟨q,N5,hq⟩:∃q:Int,gZ [V.int 0,.int 2,.int 3,.int 5,.int 7,.int 0,.int 997,.int w3] (wy:Int)=some (.int q)∧Fv q=true:=by
  match wy,w8 with
  | 0,_=>exact ⟨0,rfl,by decide⟩
  | 1,_=>exact ⟨2,rfl,by decide⟩
  | 2,_=>exact ⟨3,rfl,by decide⟩
  | 3,_=>exact ⟨5,rfl,by decide⟩
  | 4,_=>exact ⟨7,rfl,by decide⟩
  | 5,_=>exact ⟨0,rfl,by decide⟩
  | 6,_=>exact ⟨997,rfl,by decide⟩
  | 7,_=>exact ⟨w3,rfl,by rcases hw with rfl | rfl | rfl <;> decide⟩
 have hq:=Vu hq;refine ⟨_,rfl,_,rfl,l2,_,_,_,rfl,rfl,.of e3,N5,by show 2≤sizeLine;decide,fun a1 m1=>?_⟩
 have s5:af H4 (upd H4 a1 (.tup [.str (Str.ofString "wheel"),.int q])):=aT m1;have e5:upd H4 a1 (.tup [.str (Str.ofString "wheel"),.int q]) a1=some (.tup [sV "wheel",.int q]):=az;generalize upd H4 a1 (.tup [.str (Str.ofString "wheel"),.int q])=H5 at s5 e5 ⊢;refine ⟨by show 1≤sizeLine;decide,fun a2 m2=>?_⟩
 have s6:af H5 (upd H5 a2 (.tup [.str (Str.ofString "fractions")])):=aT m2;have e6:upd H5 a2 (.tup [.str (Str.ofString "fractions")]) a2=some (.tup [sV "fractions"]):=az;generalize upd H5 a2 (.tup [.str (Str.ofString "fractions")])=H6 at s6 e6 ⊢;refine ⟨by show 2≤sizeLine;decide,fun l3 n3=>?_⟩
 have s7:af H6 (upd H6 l3 (.lst [.ref a1,.ref a2])):=aT n3;have e7:upd H6 l3 (.lst [.ref a1,.ref a2]) l3=some (.lst [.ref a1,.ref a2]):=az;generalize upd H6 l3 (.lst [.ref a1,.ref a2])=H7 at s7 e7 ⊢;have GX:=s5.trans (s6.trans s7);have o7:bh Tp H H7:=o4.trans (bh.of GX);have t7:=t4.mono GX;refine ⟨_,rfl,_,rfl,l2,_,_,_,rfl,rfl,.of (GX _ _ e3),N5,rfl,.inr ⟨decide (V.int q=V.int 0),rfl,?_⟩⟩;by_cases z:q=0
 ·rw [ar (by rw [z];decide)]
  exact ⟨l3,_,_,_,rfl,rfl,.of e7,rfl,k a2 q H7 o7 t7 (.inl ⟨z,s7 _ _ e6⟩) hq⟩
 ·rw [ao (by rw [gv,c_ z];exact dA)]
  exact ⟨l3,_,_,_,rfl,rfl,.of e7,rfl,k a1 q H7 o7 t7 (.inr ⟨z,s7 _ _ (s6 _ _ e5)⟩) hq⟩
theorem Yz:a8 ["told","tape","size"] ["told","tape","size"] (aM Cr):=bH
theorem YA(T:Txt K mg t):aY P w K mg base bI 4 t.r9 t.vE ["told","tape","size"] Vw:=by
 have S:=Yz;refine T.wX.bS S (fun _ _ _ _ H _ _ _ hr h=>?_);obtain ⟨td,Tp,q,n,rfl,tw,hq,tc,xn,k⟩:=h;refine ⟨_,(aq (aI (jz (N:=["j","told","tape"]) (ρ:=(fun σ=>[σ[0]?.join,σ[1]?.join])) (fZ [0,1] rfl) rfl (gq rfl T.eA (aa (pv 2) ae)) (fun _ _ _=>.nil) (fun _ _ _=>(aB (Dg T) hr T.yY T.m_.kp T.yX aE (aa (pv 1) (aa (pv 2) ae))))))),?_⟩;refine iV (Vv (n:=n) (dq (by lia)) tc (fun R h=>⟨_,rfl,(n:Int),rfl,by lia,by lia,by rw [dM];exact h⟩) (fun _ i y Hx=>∃x m,a_ 1000 Hx q y x m∧lX q x m) (fun D i y Ha Hb ys ⟨x,m,h1,h2⟩ t e f=>⟨x,m,h1.off t e f,h2⟩) (fun D i hi Hc R oc eO _ _ _ kR=>⟨_,rfl,_,rfl,td,Tp,q,rfl,tw.off oc tc,hq,eO,fun v x m H' o' t' nu sm=>kR v H' o' t' ⟨x,m,nu,sm⟩⟩) fun D ys Hc DT nD oc eO ly hP eD=>?_)
 have ex:∃ps:List (Int×Int),ps.length=n∧∀i,i<n→a_ 1000 Hc q (ys.getD i .aU) (ps.getD i (0,1)).1 (ps.getD i (0,1)).2∧lX q (ps.getD i (0,1)).1 (ps.getD i (0,1)).2:=by
  have one:∀i,i<n→∃p:Int×Int,a_ 1000 Hc q (ys.getD i .aU) p.1 p.2∧lX q p.1 p.2:=fun i hi=>by
   have hy:i<ys.length:=by lia
   obtain ⟨x,m,h1,h2⟩:=hP i ys[i] (dF hy);exact ⟨(x,m),by rw [getD_at hy];exact h1,h2⟩
  refine ⟨(List.range n).map fun i=>if h:i<n then (one i h).choose else (0,1),by simp,fun i hi=>?_⟩
  have e:((List.range n).map fun i=>if h:i<n then (one i h).choose else (0,1)).getD i (0,1)=(one i hi).choose:=by rw [jb,cz,hV hi];simp [hi]
  rw [e];exact (one i hi).choose_spec
 obtain ⟨ps,lp,hp⟩:=ex;refine k D ps Hc oc eO nD ⟨ys,eD,by lia,fun i v p h1 h2=>?_⟩ lp fun p YB=>?_
 ·have i1:=(bQ.mp h1).1
  have i2:=(bQ.mp h2).1;have:=(hp i (by lia)).1
  rwa [getD_at i1,getD_at i2,(bQ.mp h1).2,(bQ.mp h2).2] at this
 ·obtain ⟨i,hi,e⟩:=xO YB
  have:=(hp i (by lia)).2
  rwa [getD_at hi,e] at this
theorem YC:a8 ["tape","size","links","often","j","i"] ["tape","size"] (aM Cp):=bH
theorem YD(T:Txt K mg t):aY P w K mg base bI 2 t.rZ t.vC ["tape","size"] Vx:=by
 have S:=YC;refine T.wV.bS S (fun _ _ _ _ H _ _ _ hr h=>?_);obtain ⟨Tp,n,rfl,tc,YE,k⟩:=h
 refine ⟨_,(ak (putL 2 S.nd (eR ae))
  (ak (putL 3 S.nd (ax dS ag (aB (kY T) hr T.jI T.gN.kp T.jH aE (aa (pv 0) (aa ag ae)))))
  (ak (cN cq rfl (gq rfl T.eA (aa (pv 1) ae)) (bV (i:=4) S.nd rfl (Or.inl rfl))
   (aq (cN cq rfl (gq rfl T.eA (aa (pv 4) ae)) (bV (i:=5) S.nd rfl (Or.inl rfl))
   (aq (bL (bj om (aB (kY T) hr T.jI T.gN.kp T.jH aE (aa (pv 0) (aa ag ae))) (pv 3)) (aq (gS (lH jj nY nZ kG (pv 2) (aa (fJ (aa (pv 5) (aa (pv 4) ae))) ae)))) bO)))))
  (aq (aI (pv 2)))))),?_⟩
 refine aw fun _ hR=>aW ⟨ck _,fun D nD=>hR _ _ ?_⟩;have DT:D≠Tp:=tc.ne nD;have o1:bh Tp H (upd H D (.lst [])):=bh.of (aT nD);have t1:b_ (upd H D (.lst [])) Tp:=tc.mono (aT nD);have e1:upd H D (.lst []) D=some (.lst []):=az;generalize upd H D (.lst [])=H1 at o1 t1 e1 ⊢;refine aw fun _ hR=>aW ⟨_,rfl,Tp,4,rfl,t1,by decide,by decide,fun of H2 of4 o2 t2=>⟨_,_,rfl,rfl,hR _ _ ?_⟩⟩
 have e2:=o2 _ _ DT e1;refine aw fun _ hR=>⟨_,rfl,(n:Int),rfl,by lia,by lia,?_⟩
 rw [dM];refine iu (fun j σ Hc=>∃(us:List V) (L:cb) (v4 v5:Option V),σ=[some (.ref Tp),some (.int (n:Int)),some (.ref D),some (.int (1+(of:Int))),v4,v5]∧bh Tp H Hc∧b_ Hc Tp∧Hc D=some (.lst us)∧cW Hc us L∧(∀z∈L,0≤z.1∧z.1<z.2∧z.2<(n:Int))∧L.length≤20*j) ⟨[],[],_,_,rfl,o1.trans o2,t2,e2,cW.nil _,(fun z hz=>nomatch hz),ck _⟩ ?_ ?_
 ·rintro j σ Hc hj ⟨us,L,v4,v5,rfl,oc,eO,ec,hL,lt,ll⟩
  dsimp only [b6];refine ⟨_,rfl,0+(j:Int),rfl,by lia,by lia,?_⟩
  rw [show (0+(j:Int)).toNat=j by lia]
  refine iu (fun i σ Hd=>∃(us:List V) (L:cb) (v5:Option V),σ=[some (.ref Tp),some (.int (n:Int)),some (.ref D),some (.int (1+(of:Int))),some (.int (0+(j:Int))),v5]∧bh Tp H Hd∧b_ Hd Tp∧Hd D=some (.lst us)∧cW Hd us L∧(∀z∈L,0≤z.1∧z.1<z.2∧z.2<(n:Int))∧L.length≤20*j+i) ⟨us,L,_,rfl,oc,eO,ec,hL,lt,ll⟩ ?_ ?_
  ·clear hL ec lt ll oc eO
   rintro i σ Hd hi ⟨us,L,v5,rfl,od,Dh,ed,hL,lt,ll⟩;dsimp only [b6];refine ⟨_,rfl,Tp,4,rfl,Dh,by decide,by decide,fun d H3 d4 o3 t3=>?_⟩
   have ki:=o3 _ _ DT ed;have xu:=hL.yN Dh o3;have N6:=od.trans o3;refine ⟨_,rfl,_,_,rfl,rfl,_,rfl,b7 (fun hb=>?_) (fun hb=>⟨us,L,_,rfl,N6,t3,ki,xu,lt,by lia⟩)⟩
   have lu:=hL.1;refine ⟨_,rfl,.inl ⟨rfl,_,.of ki⟩,_,rfl,_,rfl,by show 2≤sizeLine;decide,fun tq l9=>⟨D,us,_,rfl,rfl,(aT l9) _ _ ki,dq (by lia),?_⟩⟩
   have st:af H3 (upd H3 tq (.tup [.int (0+(i:Int)),.int (0+(j:Int))])):=aT l9;have pe:upd H3 tq (.tup [.int (0+(i:Int)),.int (0+(j:Int))]) tq=some (.tup [.int (i:Int),.int (j:Int)]):=by rw [az,hZ,hZ]
   generalize upd H3 tq (.tup [.int (0+(i:Int)),.int (0+(j:Int))])=He at st pe ⊢;refine ⟨us++[.ref tq],L++[((i:Int),(j:Int))],_,rfl,fun b u ne e=>by rw [aP (fun zz=>by rw [zz,nD] at e;cases e)];exact st _ _ (N6 b u ne e),?_,az,?_,fun z hz=>?_,by rw [fo,nK];lia⟩
   ·obtain ⟨x,ex⟩:=t3.mono st
    exact ⟨x,(aP (Ne.symm DT)).trans ex⟩
   ·exact ((xu.mono st).cat (show cW He [.ref tq] [((i:Int),(j:Int))] from ⟨rfl,fun k v p h1 h2=>by
     match k,h1,h2 with
     | 0,h1,h2=>cases h1;cases h2;exact ⟨tq,rfl,pe⟩
     | k+1,h1,h2=>simp at h1⟩)).bR (st _ _ ki) fun b o nb e=>by rw [aP nb];exact e
   ·rcases fk.mp hz with hz | hz
    ·exact lt z hz
    ·rw [dj.mp hz]
     dsimp only;lia
  ·rintro σ Hd ⟨us,L,v5,rfl,od,Dh,ed,hL,lt,ll⟩
   exact ⟨us,L,_,_,rfl,od,Dh,ed,hL,lt,by lia⟩
 ·rintro σ Hc ⟨us,L,v4,v5,rfl,oc,eO,ec,hL,lt,ll⟩
  exact hR _ _ ⟨_,rfl,k D us L Hc oc eO nD ec hL lt (by lia)⟩
theorem YF:a8 ["told","found"] ["told","found"] (aM CA):=bH
theorem YG(T:Txt K mg t):aY P w K mg base bI 2 t.sE t.vM ["told","found"] Vy:=by
 have S:=YF;refine T.xc.bS S (fun _ _ _ _ H _ Q _ hr h=>?_);obtain ⟨td,q,v,x,m,B,rfl,tw,hq,hv,k⟩:=h
 refine ⟨_,(ak (bL (bj dU (ai aC (pv 0) ag) dY) (aq (aI (mF (aB (zp T) hr T.xb T.l7.kp T.xa aE (aa (pv 1) ae)) (pZ (Jk Ay om ag (pv 1) (ai aC (pv 0) ag)))))) bO)
  (ak (bL (PW.pt (pw_or (ig (fW (bW (lJ (K:=K)) rfl T.kW boot_isinstance (aa (pv 1) (aa (lA (v:=.ty "tuple") rfl T.xk boot_tuple rfl) ae))))) (pw_or (bj gI (bW e8 rfl T.dH dO (aa (pv 1) ae)) ag) (pw_or (ig (fW (aB (zp T) hr T.xb T.l7.kp T.xa aE (aa (ai aC (pv 1) ag) ae)))) (pw_or1 (ig (fW (aB (zp T) hr T.xb T.l7.kp T.xa aE (aa (ai aC (pv 1) ag) ae))))))))) (aq (aI eQ)) bO)
  (aq (aI (mF (kz ua (ai aC (pv 1) ag) ag) (pZ (kz dU (aB (NY T) hr T.F9 T.sZ.kp T.F8 aE (aa (ai aC (pv 1) ag) (aa (ai aC (pv 1) ag) ae))) ag))))))),?_⟩
 rcases tw with ⟨rfl,e0⟩ | ⟨qn,e0⟩
 ·cases hv with
  | rem _ _ _=>lia
  | @ba p _ _ e l bx bm=>
   have m0:=l.pos;refine aw fun _ hR=>⟨_,rfl,td,_,_,_,rfl,rfl,.of e0,rfl,rfl,false,by decide +kernel,bM (hR _ _ ?_)⟩
   refine aw fun _ hR=>⟨_,rfl,_,_,_,true,rfl,rfl,.of (.tup e),qm,true,rfl,bM ?_⟩;refine ⟨_,rfl,p,_,rfl,.inr (.of e),rfl,false,by rw [gv];rfl,bM ?_⟩
   refine ⟨_,rfl,p,_,_,_,rfl,rfl,.of e,rfl,.int x,rfl,.int x,true,rfl,bM ?_⟩;refine ⟨_,rfl,p,_,_,_,rfl,rfl,.of e,rfl,.int m,rfl,.int m,true,rfl,bM (hR _ _ ?_)⟩;refine ⟨_,rfl,p,_,_,_,rfl,rfl,.of e,rfl,_,_,rfl,rfl,true,by show V.bl (decide ((0:Int)<m))=_;rw [cA (show (0:Int)<m by lia)],dZ ?_⟩
   refine ⟨_,rfl,p,_,_,_,rfl,rfl,.of e,rfl,_,rfl,p,_,_,_,rfl,rfl,.of e,rfl,x,m,rfl,rfl,?_⟩;rw [l.f9];exact k
 ·have cV:2≤q∧q≤997∧fA q=true:=by rcases hq with h | h;exact absurd h qn;exact h
  cases hv with
  | ba _ _ _ _=>exact absurd rfl qn
  | rem x0 x1 x2=>
   refine aw fun _ hR=>⟨_,rfl,td,_,_,_,rfl,rfl,.of e0,rfl,rfl,true,by decide +kernel,dZ ?_⟩
   refine ⟨_,rfl,.int x,rfl,.int x,true,rfl,dZ ?_⟩;refine ⟨_,rfl,_,_,rfl,rfl,true,by show V.bl (decide ((0:Int)≤x))=_;rw [cA x0],dZ ?_⟩
   refine ⟨_,rfl,td,_,_,_,rfl,rfl,.of e0,rfl,_,_,rfl,rfl,?_⟩;show Q (.bl (decide (x<q))) H;rw [cA x1];exact k
theorem YH:a8 ["told","found","size"] ["told","found","size"] (aM CB):=bH
theorem N7(T:Txt K mg t):aY P w K mg base bI 4 t.sF t.vN ["told","found","size"] Vz:=by
 have S:=YH;refine T.tu.bS S (fun _ _ _ _ H vs _ _ hr h=>?_);obtain ⟨td,a,q,ps,B,rfl,tw,hq,⟨vs,ea,hl,hn⟩,h60,k⟩:=h
 refine ⟨_,(ak (bL (PW.pt (pw_or (ig (fW (bW (lJ (K:=K)) rfl T.kW boot_isinstance (aa (pv 1) (aa (lA (v:=.ty "list") rfl T.i8 boot_list rfl) ae))))) (pw_or1 (bj gI (bW e8 rfl T.dH dO (aa (pv 1) ae)) (pv 2))))) (aq (aI eQ)) bO)
  (aq (aI (D6 JI eQ (jz (N:=["one","told"]) (ρ:=(fun σ=>[σ[0]?.join])) (fZ [0] rfl) rfl (dR (pv 1)) (fun _ _ _=>.nil) (fun _ _ _=>(aB (YG T) hr T.Nb T.xc.kp T.Na aE (aa (pv 1) (aa (pv 0) ae))))) rfl)))),?_⟩
 refine aw fun _ hR=>⟨_,rfl,_,_,_,true,rfl,rfl,.of (.lst ea),qm,true,rfl,bM ?_⟩;refine ⟨_,rfl,a,vs,rfl,.inl (.of ea),_,rfl,rfl,false,by rw [gv,cA (by lia)];rfl,bM (hR _ _ ?_)⟩
 refine iV ?_;dsimp only [oi,tC];refine (EC (xs:=vs) (fun R h=>⟨_,rfl,a,rfl,⟨_,.of ea⟩,h _ _ (af.refl _) (j7 (.of ea))⟩) (by rw [hl];exact dq (by lia)) (fun _ i y _=>y=.bl true) (fun _ _ _ _ _ _ h _ _=>h) ?_ ?_)
 ·intro D i v hi Hc R sc _ kc
  have cR:i<ps.length:=by rw [←hl];exact (bQ.mp hi).1
  exact ⟨_,rfl,_,rfl,td,q,v,_,_,B,rfl,tw.mono sc,hq,(hn i v ps[i] hi (by simp [cR])).mono sc,kc _ Hc (af.refl _) rfl⟩
 ·intro D ys Hc sc kh hP eD
  have yt:ys=List.replicate ys.length (.bl true):=List.eq_replicate_iff.mpr ⟨rfl,fun y hy=>by obtain ⟨i,hi⟩:=List.getElem?_of_mem hy;exact hP i y hi⟩
  refine ⟨D,ys,rfl,.inl (.of eD),rfl,?_,?_⟩;·rw [yt];simp [gK]
  ·rw [show lG (.bl false) ys=false by rw [yt];simp [lG];intro _;rfl]
   exact k Hc sc
theorem YI:a8 ["tape","size","order","k"] ["tape","size"] (aM Cq):=bH
theorem YJ(T:Txt K mg t):aY P w K mg base bI 2 t.r6 t.vD ["tape","size"] UP:=by
 have S:=YI;refine T.wW.bS S (fun _ _ _ _ H _ _ _ hr h=>?_);obtain ⟨Tp,n,rfl,tc,xn,kk⟩:=h
 refine ⟨_,(ak (putL 2 S.nd (eR ae))
  (ak (cN cq rfl (gq rfl T.eA (aa (pv 1) ae)) (bV (i:=3) S.nd rfl (Or.inl rfl))
   (aq (gS (lH jj PySem.F.slot_list_insert PySem.F.type_list_insert UO (pv 2) (aa (aB (kY T) hr T.jI T.gN.kp T.jH aE (aa (pv 0) (aa (ax dS (pv 3) ag) ae))) (aa (pv 3) ae))))))
  (aq (aI (pv 2))))),?_⟩
 refine aw fun _ hR=>aW ⟨ck _,fun D nD=>hR _ _ ?_⟩;have DT:D≠Tp:=tc.ne nD;have o1:bh Tp H (upd H D (.lst [])):=bh.of (aT nD);have t1:b_ (upd H D (.lst [])) Tp:=tc.mono (aT nD);have e1:upd H D (.lst []) D=some (.lst (nI [])):=az;generalize upd H D (.lst [])=H1 at o1 t1 e1 ⊢;refine aw fun _ hR=>⟨_,rfl,(n:Int),rfl,by lia,by lia,?_⟩
 rw [dM];refine iu (fun k σ Hc=>∃(o:List Nat) (v3:Option V),σ=[some (.ref Tp),some (.int (n:Int)),some (.ref D),v3]∧bh Tp H Hc∧b_ Hc Tp∧Hc D=some (.lst (nI o))∧o.Perm (List.range k)) ⟨[],_,rfl,o1,t1,e1,List.Perm.refl _⟩ ?_ ?_
 ·rintro k σ Hc hk ⟨o,v3,rfl,oc,eO,eD,pm⟩
  dsimp only [b6];refine ⟨_,rfl,.inl ⟨rfl,_,.of eD⟩,_,rfl,_,rfl,_,_,rfl,rfl,Tp,k+1,by show [V.ref Tp,V.int ((0+(k:Int))+1)]=_;rw [show (0+(k:Int))+1=((k+1:Nat):Int) by lia],eO,by lia,by lia,fun d H2 hd od td=>?_⟩
  have C_:=od _ _ DT eD;have lo:(nI o).length=k:=by unfold nI;rw [aR,pm.length_eq,cC]
  refine ⟨_,rfl,D,nI o,d,_,_,rfl,rfl,rfl,C_,by lia,by lia,?_⟩
  have pk:(o.take d++k::o.drop d).Perm (List.range (k+1)):=by rw [nR];refine List.perm_middle.trans ?_;rw [List.take_append_drop];exact ((List.Perm.cons k pm).trans (List.perm_append_comm (l₁:=[k])))
  refine ⟨o.take d++k::o.drop d,_,rfl,fun b u ne e=>?_,?_,?_,pk⟩
  ·rw [aP (fun z=>by rw [z,nD] at e;cases e)]
   exact (oc.trans od) b u ne e
  ·obtain ⟨x,ex⟩:=td
   exact ⟨x,(aP (Ne.symm DT)).trans ex⟩
  ·rw [az]
   unfold nI;rw [jf,cy,List.map_take,List.map_drop,hZ]
 ·rintro σ Hc ⟨o,v3,rfl,oc,eO,eD,pm⟩
  exact hR _ _ ⟨_,rfl,kk D o _ oc eO nD eD pm⟩
theorem YK:a8 ["behind"] ["behind"] (aM Cy):=bH
theorem YL(T:Txt K mg t):aY P w K mg base bI 2 t.sC t.vK ["behind"] UQ:=by
 have S:=YK;refine T.w_.bS S (fun _ _ _ _ H _ _ _ hr h=>?_);obtain ⟨D,n,rs,g,rfl,la,xn,lg,kk⟩:=h;refine ⟨_,(aq (aI (bW (J9 (K:=K) rfl) rfl T.Gq boot_sum (aa (jz (N:=["row"]) (ρ:=(fun σ=>[])) (fZ [] rfl) rfl (dR (pv 0)) (fun _ _ _=>.nil) (fun _ _ _=>(ax dS (ax dS (ax eZ (bW (yv (K:=K)) rfl T.dH dO (aa (pv 0) ae)) (bW (yv (K:=K)) rfl T.dH dO (aa (pv 0) ae))) (ax eZ ag (bW (yv (K:=K)) rfl T.dH dO (aa (pv 0) ae)))) ag))) ae)))),?_⟩;have eN:((List.range n).map fun p=>V.ref (rs p)).length=n:=by rw [aR,cC]
 refine iV (Ba (A_ (xs:=(List.range n).map fun p=>V.ref (rs p)) (fun R h=>⟨_,rfl,D,rfl,⟨_,.of la.1⟩,h _ _ (af.refl _) (j7 (.of la.1))⟩) (by rw [eN];exact dq (by lia)) (fun _ i y _=>y=.int (((g i).length:Int)*(g i).length+3*(g i).length+1)) (fun _ _ _ _ _ _ h _ _=>h) ?_ ?_))
 ·intro D' k x hx Hc R sc _ kc
  have hk:k<n:=by have:=(bQ.mp hx).1;rw [eN] at this;exact this
  have ex:x=.ref (rs k):=by rw [cz,hV hk] at hx;exact (Option.some.inj hx).symm
  subst ex;have lk:=lg k hk;have ek:=sc _ _ (la.2 k hk);have len:((g k).map fun k:Nat=>V.int (k:Int)).length=(g k).length:=aR _;refine ⟨_,rfl,rs k,_,rfl,.inl (.of ek),_,rfl,rs k,_,rfl,.inl (.of ek),?_⟩;rw [len];refine ⟨_,_,rfl,rfl,.inl ⟨by lia,by lia⟩,_,rfl,rs k,_,rfl,.inl (.of ek),?_⟩
  rw [len];exact ⟨_,_,rfl,rfl,.inl ⟨by lia,by lia⟩,_,_,rfl,rfl,_,_,rfl,rfl,kc _ Hc (af.refl _) rfl⟩
 ·intro D' ys Hc Yc sc hE kh GV
  rw [eN] at hE;have ey:ys=((List.range n).map fun i=>((g i).length:Int)*(g i).length+3*(g i).length+1).map V.int:=by
   refine gQ (by simp [hE]) fun i h1 h2=>?_
   rw [gF,gF,jh];exact kh i _ (dF h1)
  have es:((List.range n).map fun i=>((g i).length:Int)*(g i).length+3*(g i).length+1).sum=((ke n g:Nat):Int):=by
   unfold ke E_;generalize List.range n=l;clear ey kh hE kk
   induction l with
   | nil=>rfl
   | cons x l ih=>rw [cy,cM,cy,cM,ih];push_cast;rfl
  refine ⟨D',_,rfl,.of (by rw [GV,ey]),?_⟩
  rw [es];exact kk _ sc
theorem YM:a8 ["size","links","order","beside","i","j","found","k","place","other","seen","waits","one"] ["size","links","order"] (aM Cw):=bH
theorem YN(T:Txt K mg t):aY P w K mg base bI 2 t.sA t.vJ ["size","links","order"] VU:=by
 have S:=YM
 refine T.w9.bS S (fun _ _ _ _ H _ _ _ hr h=>?_)
 obtain ⟨lt,a,n,us,L,o,rfl,elt,hL,ok,n12,l2,ndL,upL,ea,ho,kk⟩:=h
 have jM:=hr.units
 have lo:=fM ho
 have yJ:=e_ ho
 have C5:((List.range n).map fun i:Nat=>V.int (0+(i:Int))).length=n:=by rw [aR,cC]
 refine ⟨_,(ak (uv (i0:=3) (N:=["k"]) (ρ:=(fun σ=>[])) (fZ [] rfl) rfl S.nd rfl (Or.inl rfl) (gq rfl T.eA (aa (pv 0) ae)) (fun _ _ _=>.nil) (fun _ _ _=>(eR ae)))
  (ak (cN cq rfl (dR (pv 1)) (p6 rfl (gT (bV (i:=4) S.nd rfl (Or.inl rfl)) (gT (bV (i:=5) S.nd rfl (Or.inl rfl)) p5)))
   (ak (gS (lH jj nY nZ kG (ai aV (pv 3) (pv 4)) (aa (pv 5) ae)))
  (aq (gS (lH jj nY nZ kG (ai aV (pv 3) (pv 5)) (aa (pv 4) ae))))))
  (ak (uv (i0:=6) (N:=["k"]) (ρ:=(fun σ=>[])) (fZ [] rfl) rfl S.nd rfl (Or.inl rfl) (gq rfl T.eA (aa (pv 0) ae)) (fun _ _ _=>.nil) (fun _ _ _=>(eR ae)))
  (ak (cN cq rfl (gq rfl T.eA (aa (pv 0) ae)) (bV (i:=7) S.nd rfl (Or.inl rfl))
   (ak (putL 8 S.nd (ai aV (pv 2) (pv 7)))
  (aq (cN cq rfl (dR (AI AJ (pv 2) (AH (ax dS (pv 7) ag)) AG)) (bV (i:=9) S.nd rfl (Or.inl rfl))
   (ak (putL 10 S.nd (eR (aa (pv 8) ae)))
  (ak (putL 11 S.nd (eR (aa (pv 8) ae)))
  (aq (p8 cq (bj (Ts jM) (pv 11) (eR ae)) (aq (cN cq rfl (dR (ai aV (pv 3) (AL jj PySem.F.slot_list_pop PySem.F.type_list_pop Q2 (pv 11)))) (bV (i:=12) S.nd rfl (Or.inl rfl))
   (ak (bL (PW.pt (pw_and (bj dU (pv 12) (pv 9)) (pw_and1 (AA (KZ (K:=K)) (pv 9) (ai aV (pv 6) (pv 8)) rfl)))) (aq (gS (lH jj nY nZ kG (ai aV (pv 6) (pv 8)) (aa (pv 9) ae)))) bO)
  (aq (bL (PW.pt (pw_and (AA (KZ (K:=K)) (pv 12) (pv 10) rfl) (pw_and1 (AA (UD (K:=K)) (pv 12) (AI AJ (pv 2) AG (AH (pv 7))) rfl)))) (ak (gS (lH jj nY nZ kG (pv 10) (aa (pv 12) ae)))
  (aq (gS (lH jj nY nZ kG (pv 11) (aa (pv 12) ae))))) bO)))))))))))))
  (aq (aI (jz (N:=["row"]) (ρ:=(fun σ=>[])) (fZ [] rfl) rfl (dR (pv 6)) (fun _ _ _=>.nil) (fun _ _ _=>(bW ES rfl T.CZ DJ (aa (pv 0) ae)))))))))),?_⟩
 refine aw fun _ hR=>aW (lQ (xs:=(List.range n).map fun i:Nat=>V.int (0+(i:Int))) (n:=n) C5 (fun R h=>⟨_,rfl,(n:Int),rfl,by lia,by lia,h _ _ (af.refl _) (by rw [dM];exact uu)⟩) (dq (by lia)) (fun _ i y Hx=>Hx y=some (.lst [])∧H y=none) ?_ ?_ ?_)
 ·intro D i y Ha Hb ys ⟨h1,h2⟩ hy e f
  exact ⟨f y _ hy h1,h2⟩
 ·intro D i x hx Hc R sc _ kc
  exact ⟨ck _,fun p np=>kc p _ (iC (af.refl _) np) np ⟨_,az⟩ ⟨az,none_of sc np⟩⟩
 ·intro D rs H1 nD s1 inj hA eD
  have K0:iX H1 D n rs (fun _=>[]):=⟨eD,inj,fun i hi=>(hA i hi).2,fun i hi=>(hA i hi).1.1⟩
  have fr:∀i,i<n→H (rs i)=none:=fun i hi=>(hA i hi).1.2
  refine hR _ _ ?_
  refine aw fun _ hR=>⟨_,rfl,lt,rfl,⟨_,.of (s1 _ _ elt)⟩,?_⟩
  refine iR (K:=K) (a:=lt) (xs:=us) (fun k σ Hc=>∃(g:Nat→List Nat) (v4 v5:Option V),σ=[some (.int (n:Int)),some (.ref lt),some (.ref a),some (.ref D),v4,v5,none,none,none,none,none,none,none]∧af H Hc∧iX Hc D n rs g∧iW n (L.take k) g∧(∀a,(g a).length≤2*k)) ⟨_,_,_,rfl,s1,K0,iW.nil n,fun _=>aK _⟩ (fun k σ Hc _ ⟨_,_,_,_,sc,_⟩=>.of (sc _ _ elt)) ?_ ?_
  ·rintro k x σ Hc hx ⟨g,v4,v5,rfl,sc,KL,nb,gl⟩
   have hk:k<L.length:=by
    rw [←hL.1]
    exact (bQ.mp hx).1
   obtain ⟨b,rfl,eb⟩:=hL.2 k x L[k] hx (by simp [hk])
   have pk:=ok L[k] (dN hk)
   have tk:L.take (k+1)=L.take k++[L[k]]:=by rw [List.take_succ,dF hk];rfl
   generalize L[k]=p at eb pk tk
   obtain ⟨p1,p2⟩:=p
   dsimp only at pk eb
   obtain ⟨i,rfl⟩:=pN pk.1
   obtain ⟨j,rfl⟩:=pN pk.2.2.1
   have hi:i<n:=by lia
   have hj:j<n:=by lia
   refine ⟨b,_,rfl,.of (sc _ _ eb),rfl,_,_,rfl,_,_,rfl,rfl,?_⟩
   have off:∀(Hx:Hp) (i:Nat) (o:HO),i<n→af H Hx→af H (upd Hx (rs i) o):=fun Hx i o hi sx a u e=>by
    rw [aP (fun z=>by rw [z,fr i hi] at e;cases e)]
    exact sx _ _ e
   have K1:=KL.snoc j hi
   have K2:=K1.snoc i hj
   have g1:=gl i
   have g2:(kL g i j j).length≤2*k+1:=aH EY (by have:=gl j;lia)
   refine ⟨_,rfl,_,rfl,D,_,_,_,rfl,rfl,.of KL.lst,bK hi,.inl ⟨rfl,_,.of (KL.at' i hi)⟩,_,rfl,rs i,_,_,rfl,rfl,KL.at' i hi,dq (by rw [aR];lia),?_⟩
   refine ⟨_,rfl,_,rfl,D,_,_,_,rfl,rfl,.of K1.lst,bK hj,.inl ⟨rfl,_,.of (K1.at' j hj)⟩,_,rfl,rs j,_,_,rfl,rfl,K1.at' j hj,dq (by rw [aR];lia),?_⟩
   exact ⟨_,_,_,rfl,off _ _ _ hj (off _ _ _ hi sc),K2,by rw [tk];exact nb.snoc,fun a=>aH EY (by have:=EY (g:=g) (i:=i) (j:=j) (a:=a);have:=gl a;lia)⟩
  ·rintro σ HB ⟨g,v4,v5,rfl,sB,KB,nb,gl⟩
   rw [hL.1,je] at nb
   rw [hL.1] at gl
   refine hR _ _ ?_
   clear hR s1 K0 hA eD
   have bT:∀x,x<n→∀b,b∈g x↔aL n L x b:=fun x hx b=>by
    rw [nb x b hx]
    constructor
    ·intro h
     refine ⟨hx,?_,h⟩
     rcases h with h | h <;> (have:=ok _ h;lia)
    ·rintro ⟨_,_,h⟩
     exact h
   refine aw fun _ hR=>aW (lQ (xs:=(List.range n).map fun i:Nat=>V.int (0+(i:Int))) (n:=n) C5 (fun R h=>⟨_,rfl,(n:Int),rfl,by lia,by lia,h _ _ (af.refl _) (by rw [dM];exact uu)⟩) (dq (by lia)) (fun _ i y Hx=>Hx y=some (.lst [])∧HB y=none) ?_ ?_ ?_)
   ·intro D i y Ha Hb ys ⟨h1,h2⟩ hy e f
    exact ⟨f y _ hy h1,h2⟩
   ·intro D i x hx Hc R sc _ kc
    exact ⟨ck _,fun p np=>kc p _ (iC (af.refl _) np) np ⟨_,az⟩ ⟨az,none_of sc np⟩⟩
   ·intro F fs H2 nF s2 inj hA eF
    have K0:iX H2 F n fs (fun _=>[]):=⟨eF,inj,fun i hi=>(hA i hi).2,fun i hi=>(hA i hi).1.1⟩
    have ff:∀i,i<n→HB (fs i)=none:=fun i hi=>(hA i hi).1.2
    refine hR _ _ ?_
    clear hR
    have GY:=sB _ _ ea
    refine aw fun _ hR=>⟨_,rfl,(n:Int),rfl,by lia,by lia,?_⟩
    rw [dM]
    refine iu (fun k σ Hc=>∃(gf:Nat→List Nat) (v:Nat→Option V),σ=[some (.int (n:Int)),some (.ref lt),some (.ref a),some (.ref D),v 4,v 5,some (.ref F),v 7,v 8,v 9,v 10,v 11,v 12]∧af HB Hc∧iX Hc F n fs gf∧(∀p,p<n→o.idxOf p<k→(gf p).Nodup∧eM n L o p (gf p))∧∀p,p<n→k≤o.idxOf p→gf p=[]) ⟨fun _=>[],fun i=>List.getD [none,none,none,none,v4,v5] i none,rfl,s2,K0,fun p _ h=>absurd h (mr _),fun _ _ _=>rfl⟩ ?_ ?_
    ·rintro k σ Hc hk ⟨gf,v,rfl,sc,KF,dn,un⟩
     dsimp only [b6]
     have fO:k<o.length:=by lia
     have ek:(nI o)[k]?=some (.int ((o[k]:Nat):Int)):=by
      unfold nI
      rw [cz,dF fO]
      rfl
     have hp:o[k]<n:=(cJ ho).mp (dN fO)
     have ip:o.idxOf o[k]=k:=g8 yJ fO
     refine aw fun _ hR=>aW ⟨_,rfl,_,rfl,a,_,_,_,rfl,rfl,.of (sc _ _ GY),by rw [hZ];exact gJ ek,hR _ _ ?_⟩
     generalize o[k]=p at hp ip
     have kn:k<n:=hk
     have YO:iS (nI o) (some (0+(k:Int)+1)) none=nI (o.drop (k+1)):=by
      rw [show (0+(k:Int)+1)=((k+1:Nat):Int) by lia,UE _ _ (by unfold nI;rw [aR];lia)]
      unfold nI
      rw [List.map_drop]
     refine ⟨_,rfl,_,rfl,_,_,rfl,rfl,_,rfl,a,_,rfl,.of (sc _ _ GY),fun u nu=>?_⟩
     rw [YO]
     have su:af Hc (upd Hc u (.lst (nI (o.drop (k+1))))):=aT nu
     have eu:upd Hc u (.lst (nI (o.drop (k+1)))) u=some (.lst (nI (o.drop (k+1)))):=az
     generalize upd Hc u (.lst (nI (o.drop (k+1))))=Hu at su eu ⊢
     have uF:u≠F:=fun z=>by rw [z,KF.lst] at nu;cases nu
     have YQ:∀i,i<n→u≠fs i:=fun i hi z=>by rw [z,KF.at' i hi] at nu;cases nu
     have gp:gf p=[]:=un p hp (by lia)
     refine ⟨u,rfl,⟨_,.of eu⟩,?_⟩
     refine iR (K:=K) (a:=u) (xs:=nI (o.drop (k+1))) (fun j σ He=>∃(R:List Nat) (v:Nat→Option V),σ=[some (.int (n:Int)),some (.ref lt),some (.ref a),some (.ref D),v 4,v 5,some (.ref F),some (.int (0+(k:Int))),some (.int (p:Int)),v 9,v 10,v 11,v 12]∧af HB He∧He u=some (.lst (nI (o.drop (k+1))))∧iX He F n fs (cP gf p R)∧R.Nodup∧∀x,x∈R↔x∈(o.drop (k+1)).take j∧Wk (aL n L) (jF n o k) p x) ⟨[],v,rfl,sc.trans su,eu,by rw [←gp,UT];exact KF.bR fun b o _ e=>su b o e,List.nodup_nil,fun x=>by simp⟩ (fun j σ He _ ⟨_,_,_,_,e,_⟩=>.of e) ?_ ?_
     ·rintro j x σ He hx ⟨R,v,rfl,se,Di,KR,zt,mR⟩
      obtain ⟨q,hq,rfl⟩:∃q:Nat,(o.drop (k+1))[j]?=some q∧x=.int (q:Int):=by
       unfold nI at hx
       rw [cz] at hx
       cases e:(o.drop (k+1))[j]? with
       | none=>rw [e] at hx;cases hx
       | some q=>rw [e] at hx;exact ⟨q,rfl,(Option.some.inj hx).symm⟩
      have tq:=take_snoc hq
      have nq:q∉(o.drop (k+1)).take j:=fun z=>by
       have:=(List.drop_sublist (k+1) o).nodup yJ
       have h2:=(pE (j+1) (o.drop (k+1))).nodup this
       rw [tq,tZ] at h2
       exact h2.2.2 q z q (dj.mpr rfl) rfl
      have qR:q∉R:=fun z=>nq ((mR q).mp z).1
      dsimp only [b6]
      refine aw fun _ hR=>aW ⟨_,rfl,by show 1≤sizeLine;decide,fun sa pf=>hR _ _ ?_⟩
      have s1:af He (upd He sa (.lst [.int (p:Int)])):=aT pf
      have e1:upd He sa (.lst [.int (p:Int)]) sa=some (.lst (nI [p])):=az
      generalize upd He sa (.lst [.int (p:Int)])=H5 at s1 e1 ⊢
      refine aw fun _ hR=>aW ⟨_,rfl,by show 1≤sizeLine;decide,fun wa Dj=>hR _ _ ?_⟩
      have s3:af H5 (upd H5 wa (.lst [.int (p:Int)])):=aT Dj
      have e3:upd H5 wa (.lst [.int (p:Int)]) wa=some (.lst (nI [p])):=az
      generalize upd H5 wa (.lst [.int (p:Int)])=H6 at s3 e3 ⊢
      have s6:=s1.trans s3
      have tK:He wa=none:=none_of s1 Dj
      have GZ:sa≠wa:=fun z=>by rw [←z,e1] at Dj;cases Dj
      have YR:sa≠F:=fun z=>by rw [z,KR.lst] at pf;cases pf
      have N8:wa≠F:=fun z=>by rw [z,KR.lst] at tK;cases tK
      have YS:sa≠u:=fun z=>by rw [z,Di] at pf;cases pf
      have N9:wa≠u:=fun z=>by rw [z,Di] at tK;cases tK
      have N_:∀i,i<n→fs i≠sa:=fun i hi z=>by rw [←z,KR.at' i hi] at pf;cases pf
      have G0:∀i,i<n→fs i≠wa:=fun i hi z=>by rw [←z,KR.at' i hi] at tK;cases tK
      have YT:HB sa=none:=none_of se pf
      have Oa:HB wa=none:=none_of se tK
      refine ⟨fun m σ Hw=>∃(sn ws:List Nat) (c:Bool) (tL:Option V),σ=[some (.int (n:Int)),some (.ref lt),some (.ref a),some (.ref D),v 4,v 5,some (.ref F),some (.int (0+(k:Int))),some (.int (p:Int)),some (.int (q:Int)),some (.ref sa),some (.ref wa),tL]∧m=2*(n-sn.length)+ws.length∧af HB Hw∧Hw u=some (.lst (nI (o.drop (k+1))))∧iX Hw F n fs (cP gf p (iZ R q c))∧Hw sa=some (.lst (nI sn))∧Hw wa=some (.lst (nI ws))∧gM n (aL n L) (jF n o k) p q none (fun _=>True) sn ws (c=true)∧ws.length≤sn.length,⟨_,[p],[p],false,_,rfl,rfl,se.trans s6,s6 _ _ Di,KR.bR fun b o _ e=>s6 b o e,s3 _ _ e1,e3,gM.start hp (by decide),aK _⟩,?_⟩
      rintro m' σ Hw ⟨sn,ws,c,tL,rfl,em,sw,G1,KW,ph,l_,i_,wl⟩
      have Ob:sn.length≤n:=iE.len ⟨i_.nd,i_.lt⟩
      refine ⟨_,rfl,by show 0≤sizeLine;decide,fun le YU=>?_⟩
      have s7:af Hw (upd Hw le (.lst [])):=aT YU
      have e7:upd Hw le (.lst []) le=some (.lst []):=az
      generalize upd Hw le (.lst [])=Hn at s7 e7 ⊢
      refine ⟨wa,le,_,rfl,rfl,.of (s7 _ _ l_),e7,_,rfl,b7 (fun hz=>?_) (fun hz=>?_)⟩
      ·have Oc:ws≠[]:=fun z=>by rw [z] at hz;cases hz
       obtain ⟨kg,h,rfl⟩:∃us h,ws=us++[h]:=⟨ws.dropLast,ws.getLast Oc,(List.dropLast_concat_getLast Oc).symm⟩
       have lus:(kg++[h]).length=kg.length+1:=by simp
       have hh:=i_.wt h (eB _ (dj.mpr rfl))
       have hn:h<n:=i_.lt h hh
       have YV:(nI (kg++[h])).dropLast=nI kg:=by
        unfold nI
        rw [jf,cy,List.map_nil,List.dropLast_concat]
       refine ⟨_,fun _ _ h=>h,?_⟩
       refine ⟨_,rfl,_,rfl,.inl ⟨rfl,_,.of (s7 _ _ l_)⟩,wa,_,.int (h:Int),rfl,rfl,s7 _ _ l_,by unfold nI;simp,?_⟩
       rw [YV]
       have o1:∀b w,b≠wa→Hn b=some w→upd Hn wa (.lst (nI kg)) b=some w:=fun b w ne e=>by rw [aP ne];exact e
       have xv:upd Hn wa (.lst (nI kg)) wa=some (.lst (nI kg)):=az
       generalize upd Hn wa (.lst (nI kg))=H8 at o1 xv ⊢
       have Dk:af HB H8:=fun b w e=>o1 b w (fun z=>by rw [z,Oa] at e;cases e) (s7 _ _ (sw _ _ e))
       have Od:=o1 _ _ (Ne.symm N9) (s7 _ _ G1)
       have Oe:=o1 _ _ GZ (s7 _ _ ph)
       have K8:=KW.bR fun b w hb e=>o1 b w (by rcases hb with rfl | ⟨i,hi,rfl⟩;exact Ne.symm N8;exact G0 i hi) (s7 b w e)
       refine ⟨D,_,_,_,rfl,rfl,.of (Dk _ _ KB.lst),bK hn,rs h,rfl,⟨_,.of (Dk _ _ (KB.at' h hn))⟩,?_⟩
       refine iR (K:=K) (a:=rs h) (xs:=(g h).map fun k:Nat=>V.int (k:Int)) (fun i σ Hi=>∃(sn ws:List Nat) (c:Bool) (tL:Option V),σ=[some (.int (n:Int)),some (.ref lt),some (.ref a),some (.ref D),v 4,v 5,some (.ref F),some (.int (0+(k:Int))),some (.int (p:Int)),some (.int (q:Int)),some (.ref sa),some (.ref wa),tL]∧af HB Hi∧Hi u=some (.lst (nI (o.drop (k+1))))∧iX Hi F n fs (cP gf p (iZ R q c))∧Hi sa=some (.lst (nI sn))∧Hi wa=some (.lst (nI ws))∧gM n (aL n L) (jF n o k) p q (some h) (·∈(g h).take i) sn ws (c=true)∧ws.length≤sn.length∧h∈sn∧2*(n-sn.length)+ws.length<m') ⟨sn,kg,c,_,rfl,Dk,Od,K8,Oe,xv,i_.UR (fun b hb=>by simp at hb),by lia,hh,by lia⟩ (fun i σ Hi _ ⟨_,_,_,_,_,e,_⟩=>.of (e _ _ (KB.at' h hn))) ?_ ?_
       ·clear i_ wl Ob ph l_ KW G1 sw em Dk Od Oe K8 xv o1
        rintro i x σ Hi hx ⟨sn,ws,c,tL,rfl,si,zu,KI,ph,l_,i_,wl,zw,lt'⟩
        obtain ⟨b,hb,rfl⟩:∃b:Nat,(g h)[i]?=some b∧x=.int (b:Int):=by
         rw [cz] at hx
         cases e:(g h)[i]? with
         | none=>rw [e] at hx;cases hx
         | some q=>rw [e] at hx;exact ⟨q,rfl,(Option.some.inj hx).symm⟩
        have ab:aL n L h b:=(bT h hn b).mp (hU hb)
        have bn:b<n:=ab.2.1
        have tb:=take_snoc hb
        have Ob:sn.length≤n:=iE.len ⟨i_.nd,i_.lt⟩
        dsimp only [b6]
        refine aw fun Rr hR=>?_
        have fin:∀(c':Bool) (Hj:Hp),af HB Hj→Hj u=some (.lst (nI (o.drop (k+1))))→iX Hj F n fs (cP gf p (iZ R q c'))→Hj sa=some (.lst (nI sn))→Hj wa=some (.lst (nI ws))→(c'=true↔c=true∨b=q)→Rr [some (.int (n:Int)),some (.ref lt),some (.ref a),some (.ref D),v 4,v 5,some (.ref F),some (.int (0+(k:Int))),some (.int (p:Int)),some (.int (q:Int)),some (.ref sa),some (.ref wa),some (.int (b:Int))] Hj:=fun c' Hj sj G2 KJ Dl G3 fq=>by
         refine hR _ _ ?_
         have conv:∀{ox qC:List Nat},(b∉sn∧jF n o k b∧ox=sn++[b]∧qC=ws++[b])∨((b∈sn∨¬jF n o k b)∧ox=sn∧qC=ws)→gM n (aL n L) (jF n o k) p q (some h) (·∈(g h).take (i+1)) ox qC (c'=true):=fun hs=>i_.step zw ab bn hs (fun x hx=>by rw [tb] at hx;exact (fk.mp hx).imp id dj.mp) fq
         refine ⟨_,rfl,_,rfl,sa,_,rfl,.inl (.of Dl),rfl,EX sn,_,rfl,b7 (fun gC=>?_) (fun gC=>?_)⟩
         ·have zx:b∉sn:=fun z=>by
           have gC:(!lG (.int (b:Int)) (sn.map fun k:Nat=>V.int (k:Int)))=true:=gC
           rw [yF,cA z] at gC
           cases gC
          refine ⟨_,rfl,_,rfl,_,rfl,_,rfl,a,_,rfl,.of (sj _ _ GY),fun w1 YW=>?_⟩
          have ec:iS (nI o) none (some (0+(k:Int)))=nI (o.take k):=by
           rw [hZ,Ez]
           unfold nI
           rw [List.map_take]
          rw [ec]
          have ma:af Hj (upd Hj w1 (.lst (nI (o.take k)))):=aT YW
          have xv:upd Hj w1 (.lst (nI (o.take k))) w1=some (.lst (nI (o.take k))):=az
          generalize upd Hj w1 (.lst (nI (o.take k)))=Hk at ma xv ⊢
          have K9:=KJ.bR fun b w _ e=>ma b w e
          refine ⟨w1,_,rfl,.inl (.of xv),rfl,EX (o.take k),_,rfl,b7 (fun kZ=>?_) (fun kZ=>?_)⟩
          ·have kZ:lG (.int (b:Int)) ((o.take k).map fun k:Nat=>V.int (k:Int))=true:=kZ
           rw [yF,nS,oR ho] at kZ
           have Of:=ma _ _ Dl
           have YX:=ma _ _ G3
           have YY:(sn++[b]).length≤n:=iE.len ⟨(conv (.inl ⟨zx,kZ,rfl,rfl⟩)).nd,(conv (.inl ⟨zx,kZ,rfl,rfl⟩)).lt⟩
           rw [fo,nK] at YY
           refine aw fun _ hR=>⟨_,rfl,.inl ⟨rfl,_,.of Of⟩,_,rfl,sa,_,_,rfl,rfl,Of,dq (by unfold nI;rw [aR];lia),hR _ _ ?_⟩
           have o5:∀b' w,b'≠sa→Hk b'=some w→upd Hk sa (.lst (nI sn++[V.int (b:Int)])) b'=some w:=fun b' w ne e=>by rw [aP ne];exact e
           have e5:upd Hk sa (.lst (nI sn++[V.int (b:Int)])) sa=some (.lst (nI (sn++[b]))):=by
            rw [az]
            unfold nI
            rw [jf]
            rfl
           generalize upd Hk sa (.lst (nI sn++[V.int (b:Int)]))=Hl at o5 e5 ⊢
           have Og:=o5 _ _ (Ne.symm GZ) YX
           refine ⟨_,rfl,.inl ⟨rfl,_,.of Og⟩,_,rfl,wa,_,_,rfl,rfl,Og,dq (by unfold nI;rw [aR];lia),?_⟩
           have o6:∀b' w,b'≠wa→Hl b'=some w→upd Hl wa (.lst (nI ws++[V.int (b:Int)])) b'=some w:=fun b' w ne e=>by rw [aP ne];exact e
           have e6:upd Hl wa (.lst (nI ws++[V.int (b:Int)])) wa=some (.lst (nI (ws++[b]))):=by
            rw [az]
            unfold nI
            rw [jf]
            rfl
           generalize upd Hl wa (.lst (nI ws++[V.int (b:Int)]))=Hm at o6 e6 ⊢
           have o7:∀b' w,b'≠sa→b'≠wa→Hk b'=some w→Hm b'=some w:=fun b' w n1 n2 e=>o6 b' w n2 (o5 b' w n1 e)
           refine ⟨sn++[b],ws++[b],c',_,rfl,fun b' w e=>o7 b' w (fun z=>by rw [z,YT] at e;cases e) (fun z=>by rw [z,Oa] at e;cases e) (ma _ _ (sj _ _ e)),o7 _ _ (Ne.symm YS) (Ne.symm N9) (ma _ _ G2),K9.bR (fun b' w zc e=>?_),o6 _ _ GZ e5,e6,conv (.inl ⟨zx,kZ,rfl,rfl⟩),by rw [fo,fo,nK];lia,mi _ zw,by rw [fo,fo,nK];lia⟩
           rcases zc with rfl | ⟨i',cR,rfl⟩
           ·exact o7 _ _ (Ne.symm YR) (Ne.symm N8) e
           ·exact o7 _ _ (N_ i' cR) (G0 i' cR) e
          ·have kZ:¬lG (.int (b:Int)) ((o.take k).map fun k:Nat=>V.int (k:Int))=true:=kZ
           rw [yF,nS,oR ho] at kZ
           exact ⟨sn,ws,c',_,rfl,sj.trans ma,ma _ _ G2,K9,ma _ _ Dl,ma _ _ G3,conv (.inr ⟨.inr kZ,rfl,rfl⟩),wl,zw,lt'⟩
         ·have zx:b∈sn:=pL fun z=>gC (by
           show (!lG (.int (b:Int)) (sn.map fun k:Nat=>V.int (k:Int)))=true
           rw [yF,c_ z]
           rfl)
          exact bM ⟨sn,ws,c',_,rfl,sj,G2,KJ,Dl,G3,conv (.inr ⟨.inl zx,rfl,rfl⟩),wl,zw,lt'⟩
        refine ⟨_,rfl,_,rfl,rfl,_,rfl,b7 (fun gC=>?_) (fun gC=>?_)⟩
        ·rw [gv] at gC
         have bq:b=q:=by have:=eY gC;lia
         have row:cP gf p (iZ R q c) p=iZ R q c:=EV ..
         have Dm:=KI.at' p hp
         rw [row] at Dm
         refine ⟨_,rfl,_,rfl,_,rfl,F,_,_,_,rfl,rfl,.of KI.lst,bK hp,fs p,_,rfl,.inl (.of Dm),rfl,EX _,_,rfl,?_⟩
         rw [yF]
         cases c with
         | true=>
          rw [cA (show q∈iZ R q true from eB _ (dj.mpr rfl))]
          exact bM (fin true Hi si zu KI ph l_ (by simp))
         | false=>
          rw [c_ (show ¬q∈iZ R q false from qR)]
          refine dZ ?_
          have lR:R.length≤12:=by
           have:R.length≤n:=iE.len ⟨zt,fun x hx=>((Ln ho).mp (xQ ((mR x).mp hx).1)).1⟩
           lia
          refine ⟨_,rfl,_,rfl,F,_,_,_,rfl,rfl,.of KI.lst,bK hp,.inl ⟨rfl,_,.of Dm⟩,_,rfl,fs p,_,_,rfl,rfl,Dm,dq (by rw [aR];show R.length≤1000;lia),?_⟩
          have K9:=KI.snoc q hp
          rw [row,US] at K9
          have o5:∀b' w,b'≠fs p→Hi b'=some w→upd Hi (fs p) (.lst (((iZ R q false).map fun k:Nat=>V.int (k:Int))++[V.int (q:Int)])) b'=some w:=fun b' w ne e=>by rw [aP ne];exact e
          exact fin true _ (fun b' w e=>o5 b' w (fun z=>by rw [z,ff p hp] at e;cases e) (si _ _ e)) (o5 _ _ (YQ p hp) zu) K9 (o5 _ _ (Ne.symm (N_ p hp)) ph) (o5 _ _ (Ne.symm (G0 p hp)) l_) (by simp [bq])
        ·have YZ:¬b=q:=fun z=>gC (by rw [gv,z];exact cA rfl)
         exact bM (fin c Hi si zu KI ph l_ (by simp [YZ]))
       ·rintro σ Hi ⟨sn,ws,c,tL,rfl,si,zu,KI,ph,l_,i_,wl,zw,lt'⟩
        rw [aR,je] at i_
        exact ⟨_,lt',sn,ws,c,_,rfl,rfl,si,zu,KI,ph,l_,i_.next fun b hb=>(bT h hn b).mpr hb,wl⟩
      ·have w0:ws=[]:=by
        cases ws with
        | nil=>rfl
        | cons x r=>exact absurd rfl hz
       subst w0
       have hd:=i_.done
       refine ⟨iZ R q c,fun i=>List.getD [none,none,none,none,v 4,v 5,none,none,none,some (.int (q:Int)),some (.ref sa),some (.ref wa),tL] i none,rfl,sw.trans s7,s7 _ _ G1,KW.bR fun b o _ e=>s7 b o e,?_,fun x=>?_⟩
       ·unfold iZ
        split
        ·rw [tZ]
         exact ⟨zt,by simp,fun a ha c hc=>fun z=>qR (by rw [dj.mp hc] at z;rw [←z];exact ha)⟩
        ·exact zt
       ·rw [tq,fk]
        unfold iZ
        split
        ·rename_i hc
         rw [fk,mR x]
         constructor
         ·rintro (⟨h1,h2⟩ | h1)
          ·exact ⟨.inl h1,h2⟩
          ·rw [dj.mp h1]
           exact ⟨.inr (dj.mpr rfl),hd.mp hc⟩
         ·rintro ⟨h1 | h1,h2⟩
          ·exact .inl ⟨h1,h2⟩
          ·exact .inr h1
        ·rename_i hc
         rw [mR x]
         constructor
         ·rintro ⟨h1,h2⟩
          exact ⟨.inl h1,h2⟩
         ·rintro ⟨h1 | h1,h2⟩
          ·exact ⟨h1,h2⟩
          ·rw [dj.mp h1] at h2
           exact absurd (hd.mpr h2) hc
     ·rintro σ He ⟨R,v,rfl,se,Di,KR,zt,mR⟩
      have ll:(nI (o.drop (k+1))).length=(o.drop (k+1)).length:=aR _
      rw [ll,je] at mR
      refine ⟨cP gf p R,fun i=>List.getD [none,none,none,none,v 4,v 5,none,some (.int (0+(k:Int))),some (.int (p:Int)),v 9,v 10,v 11,v 12] i none,rfl,se,KR,fun p' Dn h1=>?_,fun p' Dn h1=>?_⟩
      ·by_cases e:p'=p
       ·subst e
        rw [EV]
        refine ⟨zt,fun x=>?_⟩
        rw [mR x,Ln ho,ip]
        constructor
        ·rintro ⟨⟨h1,h2⟩,h3⟩
         exact ⟨h1,by lia,h3⟩
        ·rintro ⟨h1,h2,h3⟩
         exact ⟨⟨h1,by lia⟩,h3⟩
       ·rw [EW e]
        have:=qz ho Dn hp e
        exact dn p' Dn (by lia)
      ·have e:p'≠p:=fun z=>by subst z;lia
       rw [EW e]
       exact un p' Dn (by lia)
    ·rintro σ Hc ⟨gf,v,rfl,sc,KF,dn,un⟩
     refine hR _ _ ?_
     have eN:((List.range n).map fun p=>V.ref (fs p)).length=n:=by rw [aR,cC]
     have lt':∀p,p<n→o.idxOf p<n:=fun p hp=>by
      have:=(fD ((cJ ho).mpr hp)).1
      lia
     refine iV (lQ (xs:=(List.range n).map fun p=>V.ref (fs p)) (n:=n) eN (fun R h=>⟨_,rfl,F,rfl,⟨_,.of KF.lst⟩,h _ _ (af.refl _) (j7 (.of KF.lst))⟩) (dq (by lia)) (fun _ i y Hx=>∃ms:List Nat,Hx y=some (.lst (nI ms))∧fb n o i ms∧eM n L o i ms) ?_ ?_ ?_)
     ·rintro D i y Ha Hb ys ⟨ms,h1,h2⟩ hy e f
      exact ⟨ms,f y _ hy h1,h2⟩
     ·intro D i x hx Hd R sd _ kc
      have hi:i<n:=by
       have:=(bQ.mp hx).1
       rwa [eN] at this
      have ex:x=.ref (fs i):=by
       rw [cz,hV hi] at hx
       exact (Option.some.inj hx).symm
      subst ex
      obtain ⟨Y0,lw⟩:=dn i hi (lt' i hi)
      have Oh:iE n (gf i):=⟨Y0,fun q hq=>((lw q).mp hq).1⟩
      have ln:=Oh.len
      refine ⟨_,rfl,fs i,(gf i).map iN,rfl,by rw [sd _ _ (KF.at' i hi),iP];rfl,by rw [aR];lia,fun ws D2 pw so zh=>?_⟩
      obtain ⟨ms,rfl,pm⟩:=EU pw
      refine kc D2 _ (aT zh) zh ⟨_,az⟩ ⟨ms,by rw [az,iP];rfl,KS Oh (by rw [List.filter_eq_self.mpr fun q hq=>cA ((lw q).mp hq).2.1];exact pm) so,fun q=>by rw [pm.mem_iff];exact lw q⟩
     ·intro c Oi H4 nc s4 inj hA ec
      obtain ⟨g',Oj⟩:∃g':Nat→List Nat,∀i,i<n→H4 (Oi i)=some (.lst (nI (g' i)))∧fb n o i (g' i)∧eM n L o i (g' i):=⟨fun i=>if h:i<n then (hA i h).1.choose else [],fun i hi=>by simp only [k_ hi];exact (hA i hi).1.choose_spec⟩
      exact kk H4 c Oi g' (sB.trans (sc.trans s4)) ⟨ec,fun p hp=>(Oj p hp).1⟩ fun p hp=>(Oj p hp).2
theorem Y1:a8 ["told","table","links","j","i"] ["told","table"] (aM Cv):=bH
theorem Y2(T:Txt K mg t):aY P w K mg base bI 6 t.sv t.vI ["told","table"] VA:=by
 have S:=Y1;refine T.w5.bS S (fun _ _ _ _ H vs _ _ hr h=>?_);obtain ⟨td,a,q,B,n,ah,rfl,tw,hq,hT,ln,YE,hm,kk⟩:=h;have hu:=hr.qe
 refine ⟨_,(ak (putL 2 S.nd (eR ae))
  (ak (cN cq rfl (gq rfl T.eA (aa (bW e8 rfl T.dH dO (aa (pv 1) ae)) ae)) (bV (i:=3) S.nd rfl (Or.inl rfl))
   (aq (cN cq rfl (gq rfl T.eA (aa (pv 3) ae)) (bV (i:=4) S.nd rfl (Or.inl rfl))
   (aq (bL (PW.pt (pw_or (bj (Bf (K:=K) hu) (ai aV (ai aV (pv 1) (pv 4)) (pv 3)) (aB (o_ T) hr T.ni T.jK.kp T.ng aE (aa (pv 0) ae))) (pw_or1 (bj (Bf (K:=K) hu) (ai aV (ai aV (pv 1) (pv 3)) (pv 4)) (aB (o_ T) hr T.ni T.jK.kp T.ng aE (aa (pv 0) ae)))))) (aq (gS (lH jj nY nZ kG (pv 2) (aa (fJ (aa (pv 4) (aa (pv 3) ae))) ae)))) bO)))))
  (aq (aI (pv 2))))),?_⟩
 refine aw fun _ hR=>aW ⟨ck _,fun D nD=>hR _ _ ?_⟩;have s1:af H (upd H D (.lst [])):=aT nD;have e1:upd H D (.lst []) D=some (.lst []):=az;generalize upd H D (.lst [])=H1 at s1 e1 ⊢;obtain ⟨vs,ea,lv,hv⟩:=id hT;have cell:∀i j,i<n→j<n→∃(r:Addr) (ws:List V) (v:V),vs[i]?=some (.ref r)∧H r=some (.lst ws)∧ws[j]?=some v∧a_ B H q v ((ah.getD i []).getD j o1).1 ((ah.getD i []).getD j o1).2:=fun i j hi hj=>by
  have i1:i<vs.length:=by lia
  have i2:i<ah.length:=by lia
  obtain ⟨r,e,ws,er,lw,fw⟩:=hv i vs[i] ah[i] (by simp [i1]) (by simp [i2])
  have lp:=hm ah[i] (dN i2);have j1:j<ws.length:=by lia
  have j2:j<ah[i].length:=by lia
  refine ⟨r,ws,ws[j],by rw [←e];simp [i1],er,by simp [j1],?_⟩
  rw [getD_at i2,getD_at j2];exact fw j _ _ (by simp [j1]) (by simp [j2])
 refine aw fun _ hR=>⟨_,rfl,a,vs,rfl,.inl (.of (s1 _ _ ea)),(vs.length:Int),rfl,by lia,by lia,?_⟩
 rw [dM,show vs.length=n by lia]
 refine iu (fun j σ Hc=>∃(us:List V) (v4 v5:Option V),σ=[some (.ref td),some (.ref a),some (.ref D),v4,v5]∧af H Hc∧Hc D=some (.lst us)∧cW Hc us (gz ah j)∧(gz ah j).length≤20*j) ⟨[],_,_,rfl,s1,e1,cW.nil _,ck _⟩ ?_ ?_
 ·rintro j σ Hc hj ⟨us,v4,v5,rfl,sc,ec,hL,ll⟩
  dsimp only [b6];refine ⟨_,rfl,0+(j:Int),rfl,by lia,by lia,?_⟩
  rw [show (0+(j:Int)).toNat=j by lia]
  refine iu (fun i σ Hd=>∃(us:List V) (v5:Option V),σ=[some (.ref td),some (.ref a),some (.ref D),some (.int (0+(j:Int))),v5]∧af H Hd∧Hd D=some (.lst us)∧cW Hd us (gz ah j++i3 ah j i)∧(gz ah j++i3 ah j i).length≤20*j+i) ⟨us,_,rfl,sc,ec,(by show cW _ _ (_++[]);rw [tT];exact hL),(by show (_++[]).length≤_;rw [tT];exact ll)⟩ ?_ ?_
  ·clear hL ec ll sc
   rintro i σ Hd hi ⟨us,v5,rfl,sd,ed,hL,ll⟩;dsimp only [b6];obtain ⟨r1,w1,v1,a1,a2,a3,a4⟩:=cell i j (by lia) hj
   obtain ⟨r2,w2,v2,b1,b2,b3,b4⟩:=cell j i hj (by lia)
   have zi:0+(i:Int)=(i:Int):=hZ _;have zj:0+(j:Int)=(j:Int):=hZ _;rw [zi,zj];refine ⟨_,rfl,_,rfl,a,vs,_,.ref r1,rfl,rfl,.of (sd _ _ ea),gJ a1,_,rfl,r1,w1,_,v1,rfl,rfl,.of (sd _ _ a2),gJ a3,_,rfl,td,q,rfl,tw.mono sd,hq,fun v0 H3 s3 h0=>uB (a4.mono (sd.trans s3)) h0 ⟨_,rfl,b7 (fun hb=>?_) (fun hb=>?_)⟩⟩
   ·have ht:b5 ah i j=true:=by unfold b5 jE;rw [hb,Bool.true_or]
    have ki:=s3 _ _ ed;have xu:=hL.mono s3;have G4:=sd.trans s3;have lu:=hL.1;refine dZ (⟨_,rfl,.inl ⟨rfl,_,.of ki⟩,_,rfl,_,rfl,by show 2≤sizeLine;decide,fun tq l9=>⟨D,us,_,rfl,rfl,(aT l9) _ _ ki,dq (by lia),?_⟩⟩)
    have st:af H3 (upd H3 tq (.tup [.int (i:Int),.int (j:Int)])):=aT l9;have pe:upd H3 tq (.tup [.int (i:Int),.int (j:Int)]) tq=some (.tup [.int (i:Int),.int (j:Int)]):=az;generalize upd H3 tq (.tup [.int (i:Int),.int (j:Int)])=He at st pe ⊢;refine ⟨us++[.ref tq],_,rfl,fun b u e=>by rw [aP (fun zz=>by rw [zz,nD] at e;cases e)];exact st _ _ (G4 b u e),az,?_,?_⟩
    ·rw [Bw ht,←xG]
     exact ((xu.mono st).cat (show cW He [.ref tq] [((i:Int),(j:Int))] from ⟨rfl,fun k v p h1 h2=>by
      match k,h1,h2 with
      | 0,h1,h2=>cases h1;cases h2;exact ⟨tq,rfl,pe⟩
      | k+1,h1,h2=>simp at h1⟩)).bR (st _ _ ki) fun b o nb e=>by rw [aP nb];exact e
    ·rw [Bw ht,←xG,fo,nK]
     lia
   ·have zc:jE ah i j=false:=by unfold jE;simpa using hb
    have et:b5 ah i j=jE ah j i:=by unfold b5;rw [zc,xI]
    refine ⟨_,rfl,_,rfl,a,vs,_,.ref r2,rfl,rfl,.of (s3 _ _ (sd _ _ ea)),gJ b1,_,rfl,r2,w2,_,v2,rfl,rfl,.of (s3 _ _ (sd _ _ b2)),gJ b3,_,rfl,td,q,rfl,(tw.mono sd).mono s3,hq,fun v0' H4 s4 Bc=>uB (b4.mono ((sd.trans s3).trans s4)) Bc ⟨_,rfl,b7 (fun hc=>?_) (fun hc=>?_)⟩⟩
    ·have ht:b5 ah i j=true:=by rw [et];exact hc
     have s5:=s3.trans s4;have ki:=s5 _ _ ed;have xu:=hL.mono s5;have G4:=sd.trans s5;have lu:=hL.1;refine ⟨_,rfl,.inl ⟨rfl,_,.of ki⟩,_,rfl,_,rfl,by show 2≤sizeLine;decide,fun tq l9=>⟨D,us,_,rfl,rfl,(aT l9) _ _ ki,dq (by lia),?_⟩⟩
     have st:af H4 (upd H4 tq (.tup [.int (i:Int),.int (j:Int)])):=aT l9;have pe:upd H4 tq (.tup [.int (i:Int),.int (j:Int)]) tq=some (.tup [.int (i:Int),.int (j:Int)]):=az;generalize upd H4 tq (.tup [.int (i:Int),.int (j:Int)])=He at st pe ⊢;refine ⟨us++[.ref tq],_,rfl,fun b u e=>by rw [aP (fun zz=>by rw [zz,nD] at e;cases e)];exact st _ _ (G4 b u e),az,?_,?_⟩
     ·rw [Bw ht,←xG]
      exact ((xu.mono st).cat (show cW He [.ref tq] [((i:Int),(j:Int))] from ⟨rfl,fun k v p h1 h2=>by
       match k,h1,h2 with
       | 0,h1,h2=>cases h1;cases h2;exact ⟨tq,rfl,pe⟩
       | k+1,h1,h2=>simp at h1⟩)).bR (st _ _ ki) fun b o nb e=>by rw [aP nb];exact e
     ·rw [Bw ht,←xG,fo,nK]
      lia
    ·have ht:b5 ah i j=false:=by rw [et];unfold jE;simpa using hc
     have s5:=s3.trans s4;refine ⟨us,_,rfl,sd.trans s5,s5 _ _ ed,?_,?_⟩;·rw [Lw ht];exact hL.mono s5
     ·rw [Lw ht];lia
  ·rintro σ Hd ⟨us,v5,rfl,sd,ed,hL,ll⟩
   refine ⟨us,_,_,rfl,sd,ed,?_,?_⟩;·rw [Fw];exact hL
   ·rw [Fw];lia
 ·rintro σ Hc ⟨us,v4,v5,rfl,sc,ec,hL,ll⟩
  exact hR _ _ ⟨_,rfl,kk D us Hc sc nD ec hL (by lia)⟩
theorem Y3:a8 ["told","table","row","found","line","total","j"] ["told","table","row"] (aM Cs):=bH
theorem Ol(T:Txt K mg t):aY P w K mg base bI 6 t.r_ t.vF ["told","table","row"] VN:=by
 have S:=Y3;refine T.tj.bS S (fun _ _ _ _ H _ _ _ hr h=>?_);obtain ⟨td,a,r,q,X,Y,n,m,ra,vf,lv,Tw,U,tt,u,Sw,R,rfl,tw,hq,hT,hw,xn,m60,hF,hL,cp,kk⟩:=h
 refine ⟨_,(ak (putL 3 S.nd (eR ae))
  (ak (cN cq rfl (dR (pv 1)) (bV (i:=4) S.nd rfl (Or.inl rfl))
   (ak (putL 5 S.nd (aB (o_ T) hr T.ni T.jK.kp T.ng aE (aa (pv 0) ae)))
  (ak (cN cq rfl (gq rfl T.eA (aa (bW e8 rfl T.dH dO (aa (pv 2) ae)) ae)) (bV (i:=6) S.nd rfl (Or.inl rfl))
   (aq (putL 5 S.nd (aB (Yi T) hr T.ML T.wN.kp T.MK aE (aa (pv 0) (aa (pv 5) (aa (aB (N2 T) hr T.Gd T.tf.kp T.Gb aE (aa (pv 0) (aa (ai aV (pv 4) (pv 6)) (aa (ai aV (pv 2) (pv 6)) ae)))) ae)))))))
  (aq (gS (lH jj nY nZ kG (pv 3) (aa (pv 5) ae)))))))
  (aq (aI (pv 3))))),?_⟩
 refine aw fun _ hR=>aW ⟨ck _,fun D nD=>hR _ _ ?_⟩;have s1:af H (upd H D (.lst [])):=aT nD;have e1:upd H D (.lst []) D=some (.lst []):=az;generalize upd H D (.lst [])=H1 at s1 e1 ⊢;have eN:((List.range n).map fun i=>V.ref (ra i)).length=n:=by rw [aR,cC]
 refine aw fun _ hR=>⟨_,rfl,a,rfl,⟨_,.of (s1 _ _ hT.lst)⟩,?_⟩;refine iR (K:=K) (a:=a) (xs:=(List.range n).map fun i=>V.ref (ra i)) (fun k σ Hc=>∃(wv:Nat→V) (v4 v5 v6:Option V),σ=[some (.ref td),some (.ref a),some (.ref r),some (.ref D),v4,v5,v6]∧af H Hc∧Hc D=some (.lst ((List.range k).map wv))∧∀i,i<k→aJ X Hc q (wv i) (Sw i m) (R i)) ⟨fun _=>.aU,_,_,_,rfl,s1,e1,fun i hi=>absurd hi (mr _)⟩ (fun k σ Hc _ ⟨_,_,_,_,_,sc,_⟩=>.of (sc _ _ hT.lst)) ?_ ?_
 ·rintro i x σ Hc hx ⟨wv,v4,v5,v6,rfl,sc,ec,Fc⟩
  have hi:i<n:=by
   have:=(bQ.mp hx).1
   rwa [eN] at this
  have ex:x=.ref (ra i):=by rw [cz,hV hi] at hx;exact (Option.some.inj hx).symm
  subst ex;dsimp only [b6];refine aw fun _ hR=>aW ⟨_,rfl,td,q,rfl,tw.mono sc,hq,fun v0 H2 s2 h0=>hR _ _ ?_⟩;have G5:=sc.trans s2;have w0:aJ X H2 q v0 (Sw i 0) (R i):=Bs h0 (by rw [cp.s0 i hi,gh,gh];exact k9 q) (cp.nz i hi) (cp.bd i 0 hi (ck _)).1 (cp.bd i 0 hi (ck _)).2
  refine aw fun _ hR=>⟨_,rfl,r,_,rfl,.inl (.of (G5 _ _ hw)),(m:Int),by rw [aR,cC],by lia,by lia,?_⟩
  rw [dM];refine iu (fun j σ Hd=>∃(v:V) (v6:Option V),σ=[some (.ref td),some (.ref a),some (.ref r),some (.ref D),some (.ref (ra i)),some v,v6]∧af H2 Hd∧aJ X Hd q v (Sw i j) (R i)) ⟨v0,_,rfl,af.refl _,w0⟩ ?_ ?_
  ·rintro j σ Hd hj ⟨v,v6,rfl,sd,wd⟩
   dsimp only [b6];have S2:=G5.trans sd;rw [hZ];refine aW ⟨_,rfl,_,rfl,_,rfl,_,rfl,_,rfl,ra i,_,_,_,rfl,rfl,.of (S2 _ _ (hT.at' i hi)),bK hj,_,rfl,_,rfl,r,_,_,_,rfl,rfl,.of (S2 _ _ hw),bK hj,?_⟩;dsimp only [kB];have w1:=(hF i j hi hj).mono S2;have w2:=(hL j hj).mono S2;have nk:=w1.choose_spec.choose_spec.2.2;have tF:=w2.choose_spec.choose_spec.2.2;have pb:=cp.pr i j hi hj;refine ⟨td,_,_,q,Tw i j,U i j,tt j,u j,X,Y,rfl,tw.mono S2,hq,w1,w2,cp.cB,dh hq nk tF,pb.1,pb.2,fun v' H3 s3 w3=>?_⟩;have XY:X≤X+Y:=by lia
   refine ⟨td,_,_,q,Sw i j,R i,Tw i j*tt j,U i j*u j,max X Y,_,rfl,tw.mono (S2.trans s3),hq,(wd.mono s3).bd (aH (cp.bd i j hi (by lia)).1 (Nat.le_max_left ..)) (aH (cp.bd i j hi (by lia)).2 (Nat.le_max_left ..)),w3.bd (aH pb.1 (Nat.le_max_right ..)) (aH pb.2 (Nat.le_max_right ..)),Nat.max_le.mpr ⟨cp.cB,cp.VM⟩,dh hq (cp.nz i hi) (dh hq nk tF),xN _ _,Ah _ _,fun Y4 H4 s4 w4=>?_⟩
   refine ⟨Y4,_,rfl,sd.trans (s3.trans s4),(w4.eq hq (cp.Fj i j hi hj) (cp.nz i hi)).bd (cp.bd i (j+1) hi (by lia)).1 (cp.bd i (j+1) hi (by lia)).2⟩
  ·rintro σ Hd ⟨v,v6,rfl,sd,wd⟩
   refine hR _ _ ?_;have S2:=G5.trans sd;have ed:=sd _ _ (s2 _ _ ec);refine ⟨_,rfl,.inl ⟨rfl,_,.of ed⟩,_,rfl,D,_,_,rfl,rfl,ed,by rw [aR,cC];exact dq (by lia),?_⟩
   refine ⟨fun j=>if j=i then v else wv j,_,_,_,rfl,fun b o e=>by rw [aP (fun zz=>by rw [zz,nD] at e;cases e)];exact S2 b o e,?_,fun j hj=>?_⟩
   ·rw [az,nR,jf,Af,ar rfl]
    congr 3
    refine h_ fun j hj=>?_;rw [ao (by have:=eW.mp hj;lia)]
   ·dsimp only
    by_cases e:j=i
    ·subst e
     rw [ar rfl];exact wd.put ed
    ·rw [ao e]
     exact ((Fc j (by lia)).mono (s2.trans sd)).put ed
 ·rintro σ Hc ⟨wv,v4,v5,v6,rfl,sc,ec,Fc⟩
  rw [eN] at ec Fc;exact hR _ _ ⟨_,rfl,kk D wv Hc sc nD ec Fc⟩
theorem Y5:a8 ["told","table","places","lines","size","k","at","held","i","factor","j"] ["told","table","places"] (aM Ct):=bH
theorem Y6(T:Txt K mg t):aY P w K mg base bI 6 t.sk t.vG ["told","table","places"] VI:=by
 have S:=Y5;refine T.wY.bS S (fun _ _ _ _ H _ _ E hr h=>?_);obtain ⟨td,a,p,q,n,B,ra,vf,M,D,ps,rfl,tw,hq,hT,hF,ep,pl,nd,i9,b1,hM,hD,G6,dB,kk⟩:=h;have hu:=hr.qe
 refine ⟨_,(ak (SN (i0:=3) (N:=["i","places","table"]) (ρ:=(fun σ=>[σ[2]?.join,σ[1]?.join])) ⟨rfl,rfl,(fun _=>rfl),(fun _=>rfl),by decide +kernel,(List.forall_mem_cons.mpr ⟨rfl,(List.forall_mem_cons.mpr ⟨rfl,(List.forall_mem_nil _)⟩)⟩),SG (by rfl),rfl,by decide +kernel,rfl,(fun σ j v h=>match j,h with | 0,h=>⟨2,_,rfl,rfl,join_some h,Or.inr (Or.inl rfl),.inl rfl,.inl rfl⟩ | 1,h=>⟨1,_,rfl,rfl,join_some h,Or.inr (Or.inl rfl),.inl rfl,.inl rfl⟩ | j+2,h=>by cases h),(fun _ _=>rfl)⟩ rfl S.nd rfl (Or.inl rfl) (dR (pv 2)) (fun _ _ _=>.nil) (fun _ _ _=>(jz (N:=["j","table","i"]) (ρ:=(fun σ=>[σ[2]?.join,σ[0]?.join])) (fZ [2,0] rfl) rfl (SU (K:=K) (pv 1)) (fun _ _ _=>.nil) (fun _ _ _=>(ai (oM (K:=K)) (ai (oM (K:=K)) (pv 1) (pv 2)) (pv 0))))))
  (ak (putL 4 S.nd (bW e8 rfl T.dH dO (aa (pv 2) ae)))
  (ak (cN cq rfl (gq rfl T.eA (aa (pv 4) ae)) (bV (i:=5) S.nd rfl (Or.inl rfl))
   (ak (putL 6 S.nd (pv 5))
  (ak (p8 cq (PW.pt (pw_and (bj om (pv 6) (pv 4)) (pw_and1 (bj (EB hu) (ai aV (ai aV (pv 3) (pv 6)) (pv 5)) (aB (o_ T) hr T.ni T.jK.kp T.ng aE (aa (pv 0) ae)))))) (aq (putL 6 S.nd (ax dS (pv 6) ag))))
  (ak (bL (bj dU (pv 6) (pv 4)) (aq (aI eQ)) bO)
  (ak (putL 7 S.nd (ai aV (pv 3) (pv 5)))
  (ak (@gj _ _ _ _ _ _ (ai aV (pv 3) (pv 6)) (gU (pv 3) (pv 5) set_list) (by rfl) (by rfl) (by rfl))
  (ak (@gj _ _ _ _ _ _ (pv 7) (gU (pv 3) (pv 6) set_list) (by rfl) (by rfl) (by rfl))
  (aq (cN cq rfl (As rfl T.eA (aa (ax dS (pv 5) ag) (aa (pv 4) ae))) (bV (i:=8) S.nd rfl (Or.inl rfl))
   (ak (putL 9 S.nd (aB (Yn T) hr T.MP T.wQ.kp T.MO aE (aa (pv 0) (aa (ai aV (ai aV (pv 3) (pv 8)) (pv 5)) (aa (ai aV (ai aV (pv 3) (pv 5)) (pv 5)) ae)))))
  (aq (cN cq rfl (As rfl T.eA (aa (pv 5) (aa (pv 4) ae))) (bV (i:=10) S.nd rfl (Or.inl rfl))
   (aq (@gj _ _ _ _ _ _ (aB (Yl T) hr T.MN T.wO.kp T.MM aE (aa (pv 0) (aa (ai aV (ai aV (pv 3) (pv 8)) (pv 10)) (aa (aB (N2 T) hr T.Gd T.tf.kp T.Gb aE (aa (pv 0) (aa (pv 9) (aa (ai aV (ai aV (pv 3) (pv 5)) (pv 10)) ae)))) ae)))) (gU (ai aV (pv 3) (pv 8)) (pv 10) set_list) (by rfl) (by rfl) (by rfl)))))))))))))))
  (aq (aI eQ))))),?_⟩
 obtain ⟨m,hm⟩:∃m,m=ps.length:=⟨_,rfl⟩;have mn:m≤n:=by have:=nd.length_le_of_subset (l₂:=List.range n) fun x hx=>eW.mpr (pl x hx);rw [cC] at this;lia
 have oY:(bg ps).length=m:=by unfold bg;rw [aR,hm]
 have pd:∀i,i<m→ps.getD i 0<n:=fun i hi=>by
  rw [getD_at (by lia)]
  exact pl _ (dN _)
 have pat:∀{i:Nat} {x:V},(bg ps)[i]?=some x→i<m∧x=.int ((ps.getD i 0:Nat):Int):=fun{i x} h=>by
  obtain ⟨y,hy,rfl⟩:=int_at h;have hi:=(bQ.mp hy).1;refine ⟨by lia,?_⟩
  rw [getD_at hi,(bQ.mp hy).2]
 refine aw fun _ hR=>aW (lQ (xs:=bg ps) (n:=m) oY (fun R h=>⟨_,rfl,p,rfl,⟨_,.of ep⟩,h _ _ (af.refl _) (j7 (.of ep))⟩) (dq (by lia)) (fun _ i y Hx=>Hx y=some (.lst ((List.range m).map fun j=>vf (ps.getD i 0) (ps.getD j 0)))∧H y=none) ?_ ?_ ?_)
 ·intro D i y Ha Hb ys ⟨h1,h2⟩ hy e f
  exact ⟨f y _ hy h1,h2⟩
 ·intro D0 i x hx Hc R sc _ kc
  obtain ⟨hi,rfl⟩:=pat hx;refine A_ (xs:=bg ps) (fun R h=>⟨_,rfl,p,rfl,⟨_,.of (sc _ _ ep)⟩,h _ _ (af.refl _) (j7 (.of (sc _ _ ep)))⟩) (by rw [oY];exact dq (by lia)) (fun _ j y _=>y=vf (ps.getD i 0) (ps.getD j 0)) (fun _ _ _ _ _ _ h _ _=>h) ?_ ?_
  ·intro D1 j x hx Hd R' sd _ kd
   obtain ⟨hj,rfl⟩:=pat hx;have S2:=sc.trans sd;refine ⟨_,rfl,_,rfl,a,_,_,_,rfl,rfl,.of (S2 _ _ hT.lst),bK (pd i hi),_,rfl,ra (ps.getD i 0),_,_,_,rfl,rfl,.of (S2 _ _ (hT.at' _ (pd i hi))),bK (pd j hj),kd _ Hd (af.refl _) rfl⟩
  ·intro D1 ys Hd xt sd hE kh eD
   rw [oY] at hE;refine kc D1 Hd sd xt ⟨_,eD⟩ ⟨?_,none_of sc xt⟩;rw [eD]
   congr 2
   refine gQ (by simp [hE]) fun j h1 h2=>?_
   rw [gF,jh];exact kh j _ (dF h1)
 ·intro ln rs H1 Y7 s1 inj hA Om
  refine hR _ _ ?_;have W1:WTab H1 ln m rs (fun i j=>vf (ps.getD i 0) (ps.getD j 0)):=⟨Om,inj,fun i hi=>(hA i hi).2,fun i hi=>(hA i hi).1.1⟩;have gP:∀i,i<m→H (rs i)=none:=fun i hi=>(hA i hi).1.2;clear hA inj Om;have cB:bJ n B≤10 ^ 140:=aH dB (by decide +kernel)
  have bX:B≤bJ n B:=by
   have:=qE (n:=n) b1 (show 1≤n+2 by lia)
   rw [Nat.pow_one] at this;exact aH (aH (by show B≤gL 1*B;exact ji _ (Bu 1)) this) (kP b1)
  have I0:iI q B m 0 (fun i j=>M (ps.getD i 0) (ps.getD j 0)) (fun i=>D (ps.getD i 0)) (fun i j=>M (ps.getD i 0) (ps.getD j 0)):=⟨trivial,fun _=>Iff.rfl,fun i j=>hM _ _,fun i=>hD _,fun i=>G6 _⟩;have F1:gA (bJ n B) H1 q 0 m (fun i j=>vf (ps.getD i 0) (ps.getD j 0)) (nT (fun i j=>M (ps.getD i 0) (ps.getD j 0)) 0) (nU (fun i j=>M (ps.getD i 0) (ps.getD j 0)) (fun i=>D (ps.getD i 0)) 0):=fun i j _ hi _ hj=>by have e1:nT (fun i j=>M (ps.getD i 0) (ps.getD j 0)) 0 i j=M (ps.getD i 0) (ps.getD j 0):=Bk;have e2:nU (fun i j=>M (ps.getD i 0) (ps.getD j 0)) (fun i=>D (ps.getD i 0)) 0 i j=D (ps.getD i 0):=fS _;rw [e1,e2];exact ((hF _ _ (pd i hi) (pd j hj)).mono s1).bd (aH (hM _ _) bX) (aH (hD _) bX)
  have fin:∀{k:Nat} {N:aO} {E:Nat→Int},iI q B m k N E (fun i j=>M (ps.getD i 0) (ps.getD j 0))→∀y:Nat→Int,((∀i,i<m→q∣((List.range m).map fun j=>N i j*y j).sum)↔∀i,i<m→q∣((List.range m).map fun j=>M (ps.getD i 0) (ps.getD j 0)*y j).sum):=fun{k N E} I y=>I.rows fun f=>q∣((List.range m).map fun j=>f j*y j).sum;generalize (fun i j=>vf (ps.getD i 0) (ps.getD j 0))=Y8 at W1 F1;generalize hN0:(fun i j=>M (ps.getD i 0) (ps.getD j 0))=N0 at I0 F1 fin;generalize (fun i=>D (ps.getD i 0))=E0 at I0 F1;refine aw fun _ hR=>aW ⟨_,rfl,p,_,rfl,.inl (.of (s1 _ _ ep)),hR _ _ ?_⟩;rw [oY];refine aw fun _ hR=>⟨_,rfl,(m:Int),rfl,by lia,by lia,?_⟩
  rw [dM];refine iu (fun k σ Hc=>∃(v5 v6 v7 v8 v9 v10:Option V) (rs:Nat→Addr) (fE:Nat→Nat→V) (N:aO) (E:Nat→Int),σ=[some (.ref td),some (.ref a),some (.ref p),some (.ref ln),some (.int (m:Int)),v5,v6,v7,v8,v9,v10]∧af H Hc∧WTab Hc ln m rs fE∧(∀i,i<m→H (rs i)=none)∧iI q B m k N E N0∧gA (bJ n B) Hc q k m fE (nT N k) (nU N E k)) ⟨_,_,_,_,_,_,rs,Y8,N0,E0,rfl,s1,W1,gP,I0,F1⟩ ?_ ?_
  ·clear F1 I0 gP W1 s1
   rintro k σ Hc hk ⟨v5,v6,v7,v8,v9,v10,rs,fE,N,E,rfl,sc,Wc,gP,I,Fc⟩;dsimp only [b6];rw [hZ];refine aw fun _ hR=>aW ⟨_,rfl,hR _ _ ?_⟩;refine aw fun R hR=>?_;have rest:∀(b:Nat) (H3:Hp),k≤b→b≤m→af Hc H3→(∀i,k≤i→i<b→q∣nT N k i k)→(b<m→¬q∣nT N k b k)→R [some (.ref td),some (.ref a),some (.ref p),some (.ref ln),some (.int (m:Int)),some (.int (k:Int)),some (.int (b:Int)),v7,v8,v9,v10] H3:=fun b H3 kb bm sb hz Oo=>hR _ _ (by
    have S3:=sc.trans sb;have W3:=Wc.mono sb;have F3:=Fc.mono sb;refine aw fun _ hR=>⟨_,rfl,_,rfl,rfl,_,rfl,b7 (fun hb=>?_) (fun hb=>hR _ _ ?_)⟩
    ·have qj:b=m:=by rw [gv] at hb;have:=eY hb;lia
     subst qj;obtain ⟨y,ny,hy⟩:=VG hq hk I.good hz;exact kk true H3 S3 ⟨fun _=>(LI hm nd).mpr ⟨y,⟨k,hk,ny⟩,(fin I y).mp hy⟩,fun _=>rfl⟩
    ·have qj:b≠m:=fun e=>hb (by rw [gv];exact cA (by lia))
     have jN:b<m:=by lia
     have Oq:=Oo jN;refine aw fun _ hR=>aW ⟨_,rfl,_,rfl,ln,_,_,_,rfl,rfl,.of W3.lst,bK hk,hR _ _ ?_⟩;refine aw fun _ hR=>aW ⟨_,rfl,_,rfl,ln,_,_,_,rfl,rfl,.of W3.lst,bK jN,_,rfl,_,rfl,ln,_,_,k,rfl,rfl,W3.lst,by rw [aR,cC];exact iF hk,hR _ _ ?_⟩
     refine aw fun _ hR=>aW ⟨_,rfl,_,rfl,_,rfl,ln,_,_,b,rfl,rfl,az,by rw [List.length_set,aR,cC];exact iF jN,hR _ _ ?_⟩
     rw [O6];have W4:=W3.swap hk jN;have S4:af H (upd H3 ln (.lst ((((List.range m).map fun i=>V.ref (rs i)).set k (.ref (rs b))).set b (.ref (rs k))))):=iC S3 Y7;have I4:=I.swap kb jN;have F4:gA (bJ n B) (upd H3 ln (.lst ((((List.range m).map fun i=>V.ref (rs i)).set k (.ref (rs b))).set b (.ref (rs k))))) q k m (cw k b fE) (nT (cw k b N) k) (nU (cw k b N) (cw k b E) k):=F3.swap kb jN fun v t u h=>h.put W3.lst;have G7:∀i,i<m→H (cw k b rs i)=none:=(FE hk jN (f:=rs) (P:=fun r=>H r=none)).mpr gP;have iG:¬q∣nT (cw k b N) k k k:=by rw [LG kb,LB];exact Oq
     generalize upd H3 ln (.lst ((((List.range m).map fun i=>V.ref (rs i)).set k (.ref (rs b))).set b (.ref (rs k))))=H4 at W4 S4 F4 ⊢;generalize cw k b fE=Y9 at W4 F4;generalize cw k b N=N4 at I4 F4 iG;generalize cw k b E=E4 at I4 F4;generalize cw k b rs=me at W4 G7;clear Oq F3 W3 S3 hz Oo;have I5:=I4.next iG;refine ⟨_,rfl,_,_,rfl,rfl,_,rfl,(k:Int)+1,(m:Int),rfl,⟨by lia,by lia,by lia,by lia⟩,?_⟩
     rw [show ((m:Int)-((k:Int)+1)).toNat=m-(k+1) by lia]
     refine iu (fun l σ Hd=>∃(v7 v8 v9 v10:Option V) (tM:Nat→Nat→V),σ=[some (.ref td),some (.ref a),some (.ref p),some (.ref ln),some (.int (m:Int)),some (.int (k:Int)),some (.int (b:Int)),v7,v8,v9,v10]∧af H Hd∧WTab Hd ln m me tM∧gA (bJ n B) Hd q k m tM (fg (fun i _=>decide (k<i∧i<k+1+l)) (nT N4 k) (nT N4 (k+1))) (fg (fun i _=>decide (k<i∧i<k+1+l)) (nU N4 E4 k) (nU N4 E4 (k+1)))) ⟨_,_,_,_,Y9,rfl,S4,W4,F4.to fun i j _ _ _ _=>⟨cK (by simp;lia),cK (by simp;lia)⟩⟩ ?_ ?_
     ·clear F4 W4 S4
      rintro l σ Hd hl ⟨v7,v8,v9,v10,tM,rfl,S5,W5,F5⟩;dsimp only [b6];obtain ⟨i,ei⟩:∃i,i=k+1+l:=⟨_,rfl⟩;have eI:(k:Int)+1+(l:Int)=(i:Int):=by lia
      rw [eI];rw [←ei] at F5;have jO:i<m:=by lia
      have G8:=F5 i k (by lia) jO (aK _) hk
      have G9:=F5 k k (aK _) hk (aK _) hk;rw [cK (by simp),cK (by simp)] at G8
      rw [cK (by simp),cK (by simp)] at G9
      refine aw fun _ hR=>aW ⟨_,rfl,_,rfl,_,rfl,ln,_,_,_,rfl,rfl,.of W5.lst,bK jO,_,rfl,me i,_,_,_,rfl,rfl,.of (W5.at' i jO),bK hk,_,rfl,_,rfl,ln,_,_,_,rfl,rfl,.of W5.lst,bK hk,_,rfl,me k,_,_,_,rfl,rfl,.of (W5.at' k hk),bK hk,?_⟩;dsimp only [kB];refine ⟨td,_,_,q,_,_,_,_,bJ n B,_,rfl,tw.mono S5,hq,G8,G9,cB,iG,xN _ _,Ah _ _,fun fc H6 s6 w6=>hR _ _ ?_⟩;have kn:k≤n:=by lia
      have w6:aJ (bJ n B) H6 q fc (nT N4 k i k*E4 k) (E4 i*nT N4 k k k):=(w6.eq hq (show Cg q (nT N4 k i k*nU N4 E4 k k k*(E4 i*nT N4 k k k)) (nT N4 k i k*E4 k*(nU N4 E4 k i k*nT N4 k k k)) from Cg.of_eq (by unfold nU;grind)) (dh hq (I4.nE i) iG)).bd (lV b1 (uI I4 b1 kn _ _) (I4.bE k)).1 (lV b1 (uI I4 b1 kn _ _) (I4.bE i)).2
      have S6:=S5.trans s6;have W6:=W5.mono s6;have F6:gA (bJ n B) H6 q k m tM (fg (fun i' j'=>decide (k<i'∧i'<i) || (decide (i'=i) && decide (j'<k+0))) (nT N4 k) (nT N4 (k+1))) (fg (fun i' j'=>decide (k<i'∧i'<i) || (decide (i'=i) && decide (j'<k+0))) (nU N4 E4 k) (nU N4 E4 (k+1))):=(F5.mono s6).to fun i' j' _ _ h _=>by
       have ee:(fun i' j'=>decide (k<i'∧i'<i) || (decide (i'=i) && decide (j'<k+0))) i' j'=(fun i' _=>decide (k<i'∧i'<i)) i' j':=by dsimp only;rw [show decide (j'<k+0)=false from c_ (by lia),Bool.and_false,Bool.or_false]
       constructor <;> (unfold fg;rw [ee])
      clear F5 W5 G8 G9;refine ⟨_,rfl,_,rfl,(k:Int),(m:Int),rfl,⟨by lia,by lia,by lia,by lia⟩,?_⟩
      rw [show ((m:Int)-(k:Int)).toNat=m-k by lia]
      refine iu (fun l2 σ He=>∃(v10:Option V) (tH:Nat→Nat→V),σ=[some (.ref td),some (.ref a),some (.ref p),some (.ref ln),some (.int (m:Int)),some (.int (k:Int)),some (.int (b:Int)),v7,some (.int (i:Int)),some fc,v10]∧af H He∧aJ (bJ n B) He q fc (nT N4 k i k*E4 k) (E4 i*nT N4 k k k)∧WTab He ln m me tH∧gA (bJ n B) He q k m tH (fg (fun i' j'=>decide (k<i'∧i'<i) || (decide (i'=i) && decide (j'<k+l2))) (nT N4 k) (nT N4 (k+1))) (fg (fun i' j'=>decide (k<i'∧i'<i) || (decide (i'=i) && decide (j'<k+l2))) (nU N4 E4 k) (nU N4 E4 (k+1)))) ⟨_,tM,rfl,S6,w6,W6,F6⟩ ?_ ?_
      ·clear F6 W6 S6 w6
       rintro l2 σ He JM ⟨v10,tH,rfl,S6,w6,W6,F6⟩;dsimp only [b6];obtain ⟨j,ej⟩:∃j,j=k+l2:=⟨_,rfl⟩;have eJ:(k:Int)+(l2:Int)=(j:Int):=by lia
       rw [eJ];rw [←ej] at F6;have zy:j<m:=by lia
       have xo:=F6 i j (by lia) jO (by lia) zy
       have Ot:=F6 k j (aK _) hk (by lia) zy
       rw [cK (by simp),cK (by simp)] at xo
       rw [cK (by simp <;> lia),cK (by simp <;> lia)] at Ot
       refine aW ⟨_,rfl,_,rfl,_,rfl,ln,_,_,_,rfl,rfl,.of W6.lst,bK jO,_,rfl,me i,_,_,_,rfl,rfl,.of (W6.at' i jO),bK zy,_,rfl,_,rfl,_,rfl,_,rfl,ln,_,_,_,rfl,rfl,.of W6.lst,bK hk,_,rfl,me k,_,_,_,rfl,rfl,.of (W6.at' k hk),bK zy,?_⟩;dsimp only [kB];have nk:¬q∣E4 i*nT N4 k k k:=dh hq (I4.nE i) iG;have tF:=FG hq I4 k j;refine ⟨td,_,_,q,_,_,_,_,bJ n B,_,rfl,tw.mono S6,hq,w6,Ot,cB,dh hq nk tF,xN _ _,Ah _ _,fun v1 H7 s7 w7=>?_⟩;have dz:=iY hq I4.good;have w7:aJ (bJ n B) H7 q v1 (nT N4 k i k*nT N4 k k j) (E4 i*nT N4 k k k*aA N4 (cG k)):=(w7.eq hq (show Cg q (nT N4 k i k*E4 k*nT N4 k k j*(E4 i*nT N4 k k k*aA N4 (cG k))) (nT N4 k i k*nT N4 k k j*(E4 i*nT N4 k k k*nU N4 E4 k k j)) from Cg.of_eq (by unfold nU;grind)) (dh hq nk dz)).bd (by
        have:=Bv (n:=n) b1 (a:=1) (show (1:Int).natAbs≤B from b1) (uI I4 b1 kn i k) (uI I4 b1 kn k j)
        rwa [nQ] at this) (Bv b1 (I4.bE i) (uI I4 b1 kn k k) (LH I4 b1 kn))
       refine ⟨td,_,_,q,_,_,_,_,bJ n B,_,rfl,(tw.mono S6).mono s7,hq,xo.mono s7,w7,cB,dh hq (FG hq I4 i j) (dh hq nk dz),xN _ _,Ah _ _,fun v2 H8 s8 w8=>?_⟩;have w8:=(w8.eq hq (VT hq I4 i j) (FG hq I5 i j)).bd (VR (n:=n) I5 b1 (by lia) i j) (VS (n:=n) I5 b1 (by lia) i j)
       have Dp:=s7.trans s8;have W8:=W6.mono Dp;refine ⟨_,rfl,_,rfl,ln,_,_,_,rfl,rfl,.of W8.lst,bK jO,_,rfl,me i,_,_,j,rfl,rfl,W8.at' i jO,by rw [aR,cC];exact iF zy,?_⟩
       refine ⟨_,_,rfl,iC (S6.trans Dp) (G7 i jO),(w6.mono Dp).put (W8.at' i jO),W8.put (j:=j) v2 jO,(F6.mono Dp).put (fun v t u h=>h.put (W8.at' i jO)) (by rw [d5 (by rw [show decide (j<k+(l2+1))=true from cA (by lia)];simp),d5 (by rw [show decide (j<k+(l2+1))=true from cA (by lia)];simp)];exact w8.put (W8.at' i jO)) fun i' j' _ _ _ _ ne=>?_⟩
       have ee:(fun i' j'=>decide (k<i'∧i'<i) || (decide (i'=i) && decide (j'<k+(l2+1)))) i' j'=(fun i' j'=>decide (k<i'∧i'<i) || (decide (i'=i) && decide (j'<j))) i' j':=by
        dsimp only;by_cases h2:i'=i
        ·have h3:j'≠j:=fun z=>ne ⟨h2,z⟩
         rw [show decide (j'<k+(l2+1))=decide (j'<j) from decide_eq_decide.mpr (by lia)]
        ·simp [h2]
       constructor <;> (unfold fg;rw [ee])
      ·rintro σ He ⟨v10,tH,rfl,S6,w6,W6,F6⟩
       refine ⟨_,_,_,_,tH,rfl,S6,W6,F6.to fun i' j' _ _ _ du=>?_⟩;have ee:(fun i' _=>decide (k<i'∧i'<k+1+(l+1))) i' j'=(fun i' j'=>decide (k<i'∧i'<i) || (decide (i'=i) && decide (j'<k+(m-k)))) i' j':=by
        dsimp only;rw [show decide (j'<k+(m-k))=true from cA (by lia),Bool.and_true,←Bool.decide_or]
        exact decide_eq_decide.mpr (by lia)
       constructor <;> (unfold fg;rw [ee])
     ·rintro σ Hd ⟨v7,v8,v9,v10,tM,rfl,S5,W5,F5⟩
      refine ⟨_,_,_,_,_,_,me,tM,N4,E4,rfl,S5,W5,G7,I5,fun i j h1 h2 h3 h4=>?_⟩;have:=F5 i j (by lia) h2 (by lia) h4
      rwa [d5 (by simp;lia),d5 (by simp;lia)] at this)
   refine ⟨fun μ σ H'=>∃b:Nat,σ=[some (.ref td),some (.ref a),some (.ref p),some (.ref ln),some (.int (m:Int)),some (.int (k:Int)),some (.int (b:Int)),v7,v8,v9,v10]∧μ=m-b∧k≤b∧b≤m∧af Hc H'∧∀i,k≤i→i<b→q∣nT N k i k,⟨_,k,rfl,rfl,aK _,by lia,af.refl _,fun i h1 h2=>by lia⟩,?_⟩
   rintro μ σ H' ⟨b,rfl,em,kb,bm,sb,hz⟩;refine ⟨_,rfl,_,rfl,_,_,rfl,rfl,_,rfl,b7 (fun hb=>?_) (fun hb=>?_)⟩
   ·have jN:b<m:=by have:=eY hb;lia
    have Wb:=Wc.mono sb;obtain ⟨x,d,h1,h2,h3⟩:=Fc b k kb jN (aK _) hk;refine ⟨_,rfl,_,rfl,ln,_,_,_,rfl,rfl,.of Wb.lst,bK jN,_,rfl,rs b,_,_,_,rfl,rfl,.of (Wb.at' b jN),bK hk,_,rfl,td,q,rfl,tw.mono (sc.trans sb),hq,fun v0 H3 s3 h0=>EH (h1.mono (sb.trans s3)) h0 ⟨_,rfl,b7 (fun hb=>?_) (fun hb=>?_)⟩⟩
    ·have x0:x=0:=eY hb
     have dv:=(mY hq ⟨x,d,h1,h2,h3⟩).mpr ⟨x,d,h1,x0⟩;refine ⟨fun σ' H2=>H2=H3∧σ'=[some (.ref td),some (.ref a),some (.ref p),some (.ref ln),some (.int (m:Int)),some (.int (k:Int)),some (.int ((b:Int)+1)),v7,v8,v9,v10],?_,?_⟩
     ·rintro σ' H2 ⟨rfl,rfl⟩
      refine ⟨m-(b+1),by lia,b+1,by push_cast;rfl,rfl,by lia,by lia,sb.trans s3,fun i i1 i2=>?_⟩
      by_cases e:i=b;·subst e;exact dv
      ·exact hz i i1 (by lia)
     ·exact aW ⟨_,rfl,_,_,rfl,rfl,rfl,rfl⟩
    ·have x0:¬x=0:=fun zz=>hb (cA zz)
     refine rest b H3 kb bm (sb.trans s3) hz fun _ dv=>?_;obtain ⟨x',m',g1,g2⟩:=(mY hq ⟨x,d,h1,h2,h3⟩).mp dv;exact x0 ((Fh h1 g1).1.trans g2)
   ·have jN:¬b<m:=fun z=>hb (cA (by lia))
    exact rest b H' kb bm sb hz fun z=>absurd z jN
  ·rintro σ Hc ⟨v5,v6,v7,v8,v9,v10,rs,fE,N,E,rfl,sc,Wc,gP,I,Fc⟩
   refine hR _ _ (kk false Hc sc ⟨fun h=>absurd h (by decide),fun h=>?_⟩)
   obtain ⟨y,⟨j,hj,nj⟩,hy⟩:=(LI hm nd).mp h;exact absurd (VH hq I.good y ((fin I y).mpr hy) j hj) nj
theorem Y_:a8 ["told","table","order","k"] ["told","table","order"] (aM Cu):=bH
theorem Za(T:Txt K mg t):aY P w K mg base bI 7 t.sq t.vH ["told","table","order"] VJ:=by
 have S:=Y_;refine T.wZ.bS S (fun _ _ _ _ H _ _ _ hr h=>?_);obtain ⟨td,a,p,q,n,B,ra,vf,M,D,o,rfl,tw,hq,hT,hF,ep,ho,i9,b1,hM,hD,G6,dB,kS,kO⟩:=h;have lo:=fM ho;have ll:(bg o).length=n:=by unfold bg;rw [aR,lo]
 refine ⟨_,(ak (cN cq rfl (As rfl T.eA (aa ag (aa (ax dS (bW e8 rfl T.dH dO (aa (pv 2) ae)) ag) ae))) (bV (i:=3) S.nd rfl (Or.inl rfl))
   (aq (bL (fW (aB (Y6 T) hr T.M1 T.wY.kp T.M0 aE (aa (pv 0) (aa (pv 1) (aa (AI AJ (pv 2) AG (AH (pv 3))) ae))))) (aq (aI (pv 3))) bO)))
  (aq (aI ag))),?_⟩
 refine aw fun _ hR=>⟨_,rfl,p,_,rfl,.inl (.of ep),_,_,rfl,rfl,1,((bg o).length:Int)+1,rfl,⟨by lia,by lia,by lia,by lia⟩,?_⟩
 rw [ll,show ((n:Int)+1-1).toNat=n by lia]
 refine iu (fun k σ Hc=>∃(v3:Option V),σ=[some (.ref td),some (.ref a),some (.ref p),v3]∧af H Hc∧cf q M (cO o k)) ⟨_,rfl,af.refl _,trivial⟩ ?_ ?_
 ·rintro k σ Hc hk ⟨v3,rfl,sc,g⟩
  dsimp only [b6];refine ⟨_,rfl,_,rfl,_,rfl,_,rfl,_,rfl,p,_,rfl,.of (sc _ _ ep),fun u nu=>?_⟩;have ec:iS (bg o) none (some (1+(k:Int)))=bg (o.take (k+1)):=by
   rw [show (1:Int)+(k:Int)=((k+1:Nat):Int) by lia,Ez]
   unfold bg;rw [List.map_take]
  rw [ec];have su:af Hc (upd Hc u (.lst (bg (o.take (k+1))))):=aT nu;have eu:upd Hc u (.lst (bg (o.take (k+1)))) u=some (.lst (bg (o.take (k+1)))):=az;generalize upd Hc u (.lst (bg (o.take (k+1))))=H1 at su eu ⊢;have s1:=sc.trans su;have kl:k<o.length:=by lia
  refine ⟨td,a,u,q,n,B,ra,vf,M,D,o.take (k+1),rfl,tw.mono s1,hq,hT.mono s1,fun i j hi hj=>(hF i j hi hj).mono s1,eu,fun x hx=>(cJ ho).mp (xQ hx),(pE _ _).nodup (e_ ho),i9,b1,hM,hD,G6,dB,fun b H2 s2 hb=>?_⟩;rw [VL hq ho kl g] at hb;refine ⟨b,rfl,b7 (fun h=>?_) (fun h=>?_)⟩
  ·have:=kS k kl g (hb.mp h) H2 (s1.trans s2)
   refine iV ⟨_,rfl,?_⟩;rw [show (1:Int)+(k:Int)=(k:Int)+1 by lia]
   exact this
  ·refine ⟨_,rfl,s1.trans s2,?_⟩
   rw [kM kl];exact ⟨g,fun z=>h (hb.mpr z)⟩
 ·rintro σ Hc ⟨v3,rfl,sc,g⟩
  exact hR _ _ (kO g Hc sc)
theorem Zb:a8 ["told","tape","size","links","table","i","j","way"] ["told","tape","size","links"] (aM Co):=bH
theorem Zc(T:Txt K mg t):aY P w K mg base bI 6 t.rY t.vB ["told","tape","size","links"] VP:=by
 have S:=Zb;refine T.wU.bS S (fun _ _ _ _ H _ _ _ hr h=>?_);obtain ⟨td,Tp,lk,q,n,us,L,rfl,tw,hq,tc,xn,lT,pj,hL,cu,kk⟩:=h;have hu:=hr.qe
 refine ⟨_,(ak (uv (i0:=4) (N:=["i","size","told"]) (ρ:=(fun σ=>[σ[2]?.join,σ[0]?.join])) (fZ [2,0] rfl) rfl S.nd rfl (Or.inl rfl) (gq rfl T.eA (aa (pv 2) ae)) (fun _ _ _=>.nil) (fun _ _ _=>(jz (N:=["j","told"]) (ρ:=(fun σ=>[σ[2]?.join])) (fZ [2] rfl) rfl (gq rfl T.eA (aa (pv 1) ae)) (fun _ _ _=>.nil) (fun _ _ _=>(aB (o_ T) hr T.ni T.jK.kp T.ng aE (aa (pv 1) ae))))))
  (ak (cN cq rfl (gq rfl T.eA (aa (pv 2) ae)) (bV (i:=5) S.nd rfl (Or.inl rfl))
   (ak (@gj _ _ _ _ _ _ (aB (Dg T) hr T.yY T.m_.kp T.yX aE (aa (pv 0) (aa (pv 1) ae))) (gU (ai aV (pv 4) (pv 5)) (pv 5) set_list) (by rfl) (by rfl) (by rfl))
  (aq (bL (PW.pt (pw_and (bj (EB hu) (ai aV (ai aV (pv 4) (pv 5)) (pv 5)) (aB (o_ T) hr T.ni T.jK.kp T.ng aE (aa (pv 0) ae))) (pw_and1 (bj ua (aB (kY T) hr T.jI T.gN.kp T.jH aE (aa (pv 1) (aa ag ae))) ag)))) (aq (@gj _ _ _ _ _ _ (aB (oZ T) hr T.m9 T.jJ.kp T.m8 aE (aa (pv 0) (aa ag (aa ag ae)))) (gU (ai aV (pv 4) (pv 5)) (pv 5) set_list) (by rfl) (by rfl) (by rfl))) bO))))
  (ak (cN cq rfl (dR (pv 3)) (p6 rfl (gT (bV (i:=5) S.nd rfl (Or.inl rfl)) (gT (bV (i:=6) S.nd rfl (Or.inl rfl)) p5)))
   (ak (putL 7 S.nd (aB (kY T) hr T.jI T.gN.kp T.jH aE (aa (pv 1) (aa ag ae))))
  (ak (bL (bj gI (pv 7) ag) (aq (@gj _ _ _ _ _ _ (aB (Dg T) hr T.yY T.m_.kp T.yX aE (aa (pv 0) (aa (pv 1) ae))) (gU (ai aV (pv 4) (pv 5)) (pv 6) set_list) (by rfl) (by rfl) (by rfl))) bO)
  (aq (bL (bj gI (pv 7) ag) (aq (@gj _ _ _ _ _ _ (aB (Dg T) hr T.yY T.m_.kp T.yX aE (aa (pv 0) (aa (pv 1) ae))) (gU (ai aV (pv 4) (pv 6)) (pv 5) set_list) (by rfl) (by rfl) (by rfl))) bO)))))
  (aq (aI (pv 4)))))),?_⟩
 have eN:((List.range n).map fun i:Nat=>V.int (0+(i:Int))).length=n:=by rw [aR,cC]
 refine aw fun _ hR=>aW (lQ (xs:=(List.range n).map fun i:Nat=>V.int (0+(i:Int))) (n:=n) eN (fun R h=>⟨_,rfl,(n:Int),rfl,by lia,by lia,by rw [dM];exact h _ _ (af.refl _) uu⟩) (dq (by lia)) (fun _ i y Hx=>(∃ys,Hx y=some (.lst ys)∧ys.length=n∧∀(j:Nat) (v:V),ys[j]?=some v→a_ 1000 Hx q v 0 1)∧H y=none) ?_ ?_ ?_)
 ·intro D i y Ha Hb ys ⟨⟨zs,h1,h3,h4⟩,h2⟩ hy e f
  exact ⟨⟨zs,f y _ hy h1,h3,fun j v hv=>(h4 j v hv).bR e f⟩,h2⟩
 ·intro D i x hx Hc R sc _ kc
  refine A_ (xs:=(List.range n).map fun i:Nat=>V.int (0+(i:Int))) (fun R h=>⟨_,rfl,(n:Int),rfl,by lia,by lia,by rw [dM];exact h _ _ (af.refl _) uu⟩) (by rw [eN];exact dq (by lia)) (fun _ j y Hx=>a_ 1000 Hx q y 0 1) (fun D' i' y' Ha Hb ys' h e f=>h.bR e f) ?_ ?_
  ·intro D1 j x' Aq Hd R' sd _ kd
   exact ⟨_,rfl,td,q,rfl,tw.mono (sc.trans sd),hq,fun v0 H2 s2 h0=>kd v0 H2 s2 h0⟩
  ·intro D1 ys Hd xt sd hE kh eD
   rw [eN] at hE;exact kc D1 Hd sd xt ⟨_,eD⟩ ⟨⟨ys,eD,hE,kh⟩,none_of sc xt⟩
 ·intro D rs H1 nD s1 inj hA eD
  refine hR _ _ ?_;have gP:∀i,i<n→H (rs i)=none:=fun i hi=>(hA i hi).1.2;have row:∀i,i<n→∃f:Nat→V,H1 (rs i)=some (.lst ((List.range n).map f))∧∀j,j<n→a_ 1000 H1 q (f j) 0 1:=fun i hi=>by
   obtain ⟨ys,h1,h2,h3⟩:=(hA i hi).1.1;refine ⟨fun j=>ys.getD j .aU,?_,fun j hj=>?_⟩
   ·rw [h1]
    congr 2
    refine gQ (by simp [h2]) fun j g1 g2=>?_
    rw [gF,jh,getD_at g1]
   ·have du:j<ys.length:=by lia
    dsimp only;rw [getD_at du];exact h3 j _ (dF du)
  obtain ⟨vf,hv⟩:∃vf:Nat→Nat→V,∀i,i<n→H1 (rs i)=some (.lst ((List.range n).map (vf i)))∧∀j,j<n→a_ 1000 H1 q (vf i j) 0 1:=⟨fun i=>if h:i<n then (row i h).choose else fun _=>.aU,fun i hi=>by dsimp only;rw [k_ hi];exact (row i hi).choose_spec⟩
  have W1:WTab H1 D n rs vf:=⟨eD,inj,fun i hi=>(hA i hi).2,fun i hi=>(hv i hi).1⟩;have F1:kT H1 q n vf:=fun i j hi hj=>⟨0,1,(hv i hi).2 j hj,fun _=>⟨by decide,by decide⟩⟩
  clear hA row hv eD inj;have DT:=tc.ne nD;have rT:∀i,i<n→rs i≠Tp:=fun i hi=>tc.ne (gP i hi);have o1:bh Tp H H1:=bh.of s1;have t1:=tc.mono s1;have step:∀{Ha Hb:Hp} {vf:Nat→Nat→V} {i j:Nat} {v:V} {x d:Int},i<n→j<n→bh Tp H Ha→WTab Ha D n rs vf→kT Ha q n vf→b_ Ha Tp→bh Tp Ha Hb→b_ Hb Tp→a_ 1000 Hb q v x d→lX q x d→bh Tp H (upd Hb (rs i) (.lst (((List.range n).map (vf i)).set j v)))∧b_ (upd Hb (rs i) (.lst (((List.range n).map (vf i)).set j v))) Tp∧WTab (upd Hb (rs i) (.lst (((List.range n).map (vf i)).set j v))) D n rs (j_ vf i j v)∧kT (upd Hb (rs i) (.lst (((List.range n).map (vf i)).set j v))) q n (j_ vf i j v):=fun{Ha Hb vf i j v x d} hi hj oa Wa Fa ta ob tb nu sm=>by
   have Wb:WTab Hb D n rs vf:=Wa.bR fun b o hb e=>ob b o (by rcases hb with rfl | ⟨k,hk,rfl⟩;exact DT;exact rT k hk) e
   refine ⟨fun b o ne e=>?_,?_,Wb.put v hi,fun i' j' cR du=>?_⟩
   ·rw [aP (fun z=>by rw [z,gP i hi] at e;cases e)]
    exact ob b o ne (oa b o ne e)
   ·obtain ⟨x,ex⟩:=tb
    exact ⟨x,by rw [aP (Ne.symm (rT i hi))];exact ex⟩
   ·have up:∀{v:V} {x d:Int},a_ 1000 Hb q v x d→a_ 1000 (upd Hb (rs i) (.lst (((List.range n).map (vf i)).set j v))) q v x d:=fun{v x d} h=>h.bR (Wb.at' i hi) fun b o ne e=>by rw [aP ne];exact e
    unfold j_
    split
    ·exact ⟨x,d,nu.bR (Wb.at' i hi) fun b o ne e=>by rw [aP ne];exact e,sm⟩
    ·obtain ⟨x',d',h1,h2⟩:=Fa i' j' cR du
     exact ⟨x',d',(h1.yN ta ob).bR (Wb.at' i hi) fun b o ne e=>by rw [aP ne];exact e,h2⟩
  have bR:∀{Ha Hb:Hp} {vf:Nat→Nat→V},WTab Ha D n rs vf→kT Ha q n vf→b_ Ha Tp→bh Tp Ha Hb→WTab Hb D n rs vf∧kT Hb q n vf:=fun{Ha Hb vf} Wa Fa ta ob=>⟨Wa.bR fun b o hb e=>ob b o (by rcases hb with rfl | ⟨k,hk,rfl⟩;exact DT;exact rT k hk) e,fun i j hi hj=>by obtain ⟨x',d',h1,h2⟩:=Fa i j hi hj;exact ⟨x',d',h1.yN ta ob,h2⟩⟩
  refine aw fun _ hR=>⟨_,rfl,(n:Int),rfl,by lia,by lia,?_⟩
  rw [dM];refine iu (fun k σ Hc=>∃(vf:Nat→Nat→V) (v5 v6 v7:Option V),σ=[some (.ref td),some (.ref Tp),some (.int (n:Int)),some (.ref lk),some (.ref D),v5,v6,v7]∧bh Tp H Hc∧b_ Hc Tp∧WTab Hc D n rs vf∧kT Hc q n vf) ⟨vf,_,_,_,rfl,o1,t1,W1,F1⟩ ?_ ?_
  ·clear W1 F1 o1 t1
   rintro k σ Hc hk ⟨vf,v5,v6,v7,rfl,oc,eO,Wc,Fc⟩;dsimp only [b6];rw [hZ];refine aw fun _ hR=>aW ⟨_,rfl,_,rfl,td,Tp,q,rfl,tw.off oc tc,hq,eO,fun v x d H2 o2 t2 nu sm=>?_⟩;obtain ⟨W2,F2⟩:=bR Wc Fc eO o2;obtain ⟨o3,t3,W3,F3⟩:=step hk hk oc Wc Fc eO o2 t2 nu sm;refine ⟨_,rfl,_,rfl,D,_,_,_,rfl,rfl,.of W2.lst,bK hk,_,rfl,rs k,_,_,k,rfl,rfl,W2.at' k hk,by rw [aR,cC];exact iF hk,hR _ _ ?_⟩
   generalize upd H2 (rs k) (.lst (((List.range n).map (vf k)).set k v))=H3 at o3 t3 W3 F3 ⊢;generalize j_ vf k k v=vf3 at W3 F3;clear W2 F2 o2 t2 nu;obtain ⟨x3,d3,h3,_⟩:=F3 k k hk hk;refine ⟨_,rfl,_,rfl,D,_,_,_,rfl,rfl,.of W3.lst,bK hk,_,rfl,rs k,_,_,_,rfl,rfl,.of (W3.at' k hk),bK hk,_,rfl,td,q,rfl,tw.off o3 tc,hq,fun v0 H4 s4 h0=>EH (h3.mono s4) h0 ⟨_,rfl,b7 (fun hb=>?_) (fun hb=>?_)⟩⟩
   ·refine ⟨_,rfl,Tp,3,rfl,t3.mono s4,by decide,by decide,fun g H5 g3 o5 t5=>⟨_,_,rfl,rfl,_,rfl,b7 (fun hb=>?_) (fun hb=>?_)⟩⟩
    ·have zA:=(bh.of s4:bh Tp H3 H4).trans o5
     refine aW ⟨_,rfl,td,q,1,1,1000,rfl,tw.off (o3.trans zA) tc,hq,yB hq,by decide,by decide,by decide +kernel,fun v' H6 s6 w6=>?_⟩
     obtain ⟨x6,d6,n6,Zd⟩:=VO hq w6;have Ou:=zA.trans (bh.of s6);obtain ⟨W6,F6⟩:=bR W3 F3 t3 Ou;obtain ⟨o7,t7,W7,F7⟩:=step hk hk o3 W3 F3 t3 Ou (t5.mono s6) n6 Zd;exact ⟨_,rfl,_,rfl,D,_,_,_,rfl,rfl,.of W6.lst,bK hk,_,rfl,rs k,_,_,k,rfl,rfl,W6.at' k hk,by rw [aR,cC];exact iF hk,⟨_,_,_,_,rfl,o7,t7,W7,F7⟩⟩
    ·have zA:=(bh.of s4:bh Tp H3 H4).trans o5
     obtain ⟨W6,F6⟩:=bR W3 F3 t3 zA;exact ⟨_,_,_,_,rfl,o3.trans zA,t5,W6,F6⟩
   ·obtain ⟨W6,F6⟩:=bR W3 F3 t3 (bh.of s4)
    exact ⟨_,_,_,_,rfl,o3.trans (bh.of s4),t3.mono s4,W6,F6⟩
  ·rintro σ Hc ⟨vf,v5,v6,v7,rfl,oc,eO,Wc,Fc⟩
   refine hR _ _ ?_;refine aw fun _ hR=>⟨_,rfl,lk,rfl,⟨_,.of (oc _ _ lT pj)⟩,?_⟩;refine iR (K:=K) (a:=lk) (xs:=us) (fun k σ Hc=>∃(vf:Nat→Nat→V) (v5 v6 v7:Option V),σ=[some (.ref td),some (.ref Tp),some (.int (n:Int)),some (.ref lk),some (.ref D),v5,v6,v7]∧bh Tp H Hc∧b_ Hc Tp∧WTab Hc D n rs vf∧kT Hc q n vf) ⟨vf,_,_,_,rfl,oc,eO,Wc,Fc⟩ (fun k σ Hc _ ⟨_,_,_,_,_,oc,_⟩=>.of (oc _ _ lT pj)) ?_ ?_
   ·clear Wc Fc oc eO
    rintro k x σ Hc hx ⟨vf,v5,v6,v7,rfl,oc,eO,Wc,Fc⟩;have hk:k<L.length:=by rw [←hL.1];exact (bQ.mp hx).1
    obtain ⟨b,rfl,eb⟩:=(hL.yN tc oc).2 k x L[k] hx (dF hk);obtain ⟨z1,z2,z3⟩:=cu L[k] (dN hk);obtain ⟨i,ei⟩:=pN z1;obtain ⟨j,ej⟩:=pN (show 0≤(L[k]).2 by lia)
    rw [ei,ej] at eb;have hi:i<n:=by lia
    have hj:j<n:=by lia
    dsimp only [b6];refine ⟨b,_,rfl,.of eb,rfl,_,_,rfl,_,_,rfl,rfl,?_⟩;refine aw fun _ hR=>aW ⟨_,rfl,Tp,5,rfl,eO,by decide,by decide,fun wy H1 _ o1 t1=>hR _ _ ?_⟩
    obtain ⟨W1,F1⟩:=bR Wc Fc eO o1;have G_:=oc.trans o1;clear Wc Fc;refine aw fun R hR=>?_;have next:∀(vf:Nat→Nat→V) (Hd:Hp),bh Tp H Hd→b_ Hd Tp→WTab Hd D n rs vf→kT Hd q n vf→R [some (.ref td),some (.ref Tp),some (.int (n:Int)),some (.ref lk),some (.ref D),some (.int (i:Int)),some (.int (j:Int)),some (.int (wy:Int))] Hd:=fun vf Hd od Dq Wd Fd=>hR _ _ (by refine ⟨_,rfl,rfl,_,rfl,b7 (fun hb=>?_) (fun hb=>⟨_,_,_,_,rfl,od,Dq,Wd,Fd⟩)⟩;refine aW ⟨_,rfl,_,rfl,td,Tp,q,rfl,tw.off od tc,hq,Dq,fun v x d H2 o2 t2 nu sm=>?_⟩;obtain ⟨W2,F2⟩:=bR Wd Fd Dq o2;obtain ⟨o3,t3,W3,F3⟩:=step hj hi od Wd Fd Dq o2 t2 nu sm;exact ⟨_,rfl,_,rfl,D,_,_,_,rfl,rfl,.of W2.lst,bK hj,_,rfl,rs j,_,_,i,rfl,rfl,W2.at' j hj,by rw [aR,cC];exact iF hi,⟨_,_,_,_,rfl,o3,t3,W3,F3⟩⟩)
    refine ⟨_,rfl,rfl,_,rfl,b7 (fun hb=>?_) (fun hb=>next vf H1 G_ t1 W1 F1)⟩
    refine aW ⟨_,rfl,_,rfl,td,Tp,q,rfl,tw.off G_ tc,hq,t1,fun v x d H2 o2 t2 nu sm=>?_⟩;obtain ⟨W2,F2⟩:=bR W1 F1 t1 o2;obtain ⟨o3,t3,W3,F3⟩:=step hi hj G_ W1 F1 t1 o2 t2 nu sm;exact ⟨_,rfl,_,rfl,D,_,_,_,rfl,rfl,.of W2.lst,bK hi,_,rfl,rs i,_,_,j,rfl,rfl,W2.at' i hi,by rw [aR,cC];exact iF hj,next _ _ o3 t3 W3 F3⟩
   ·rintro σ Hc ⟨vf,v5,v6,v7,rfl,oc,eO,Wc,Fc⟩
    exact hR _ _ ⟨_,rfl,kk D rs vf Hc oc eO nD gP Wc Fc⟩
theorem Ze:a8 ["script","start","tape","told","size","order","links","table"] ["script","start"] (aM CD):=bH
theorem Zf(T:Txt K mg t):aY P w K mg base bI 7 t.sG t.vO ["script","start"] (V6 K):=by
 have S:=Ze;refine T.xf.bS S (fun _ _ _ s H vs _ _ hr h=>?_);obtain ⟨sc,ns,k,rfl,hS,ago,kk⟩:=h
 refine ⟨_,(ak (putL 2 S.nd (aB (Df T) hr T.yW T.m7.kp T.yV aE (aa (pv 0) (aa (pv 1) ae))))
  (ak (putL 3 S.nd (aB (Yy T) hr T.MR T.wR.kp T.MQ aE (aa (pv 2) ae)))
  (ak (putL 4 S.nd (ax dS ag (aB (kY T) hr T.jI T.gN.kp T.jH aE (aa (pv 2) (aa ag ae)))))
  (ak (putL 5 S.nd (aB (YJ T) hr T.MX T.wW.kp T.MW aE (aa (pv 2) (aa (pv 4) ae))))
  (ak (putL 6 S.nd (aB (YD T) hr T.MV T.wV.kp T.MU aE (aa (aB (Df T) hr T.yW T.m7.kp T.yV aE (aa (pv 0) (aa (ax dS (pv 1) ag) ae))) (aa (pv 4) ae))))
  (ak (putL 7 S.nd (aB (Zc T) hr T.MT T.wU.kp T.MS aE (aa (pv 3) (aa (aB (Df T) hr T.yW T.m7.kp T.yV aE (aa (pv 0) (aa (ax dS (pv 1) ag) ae))) (aa (pv 4) (aa (pv 6) ae))))))
  (aq (aI (fJ (aa (pv 3) (aa (pv 7) (aa (pv 5) (aa (aB (YA T) hr T.MZ T.wX.kp T.MY aE (aa (pv 3) (aa (aB (Df T) hr T.yW T.m7.kp T.yV aE (aa (pv 0) (aa (ax dS (pv 1) ag) ae))) (aa (pv 4) ae)))) ae))))))))))))),?_⟩
 have join:∀{Ha Hb Hc:Hp} {T:Addr},af Ha Hb→Ha T=none→bh T Hb Hc→af Ha Hc:=fun{Ha Hb Hc T} s nT o b u e=>o b u (fun z=>by rw [z,nT] at e;cases e) (s _ _ e)
 refine aw fun _ hR=>aW ⟨_,rfl,_,rfl,sc,ns,k,rfl,hS,by lia,fun T1 H1 s1 Ov Zg=>hR _ _ ?_⟩
 refine aw fun _ hR=>aW ⟨_,rfl,T1,rfl,Zg,fun td q H2 o2 Ow tw hq=>hR _ _ ?_⟩;refine aw fun _ hR=>aW ⟨_,rfl,T1,6,rfl,Ow,by decide,by decide,fun d H3 d6 o3 Zh=>⟨_,_,rfl,rfl,hR _ _ ?_⟩⟩
 obtain ⟨n,en⟩:∃n,n=1+d:=⟨_,rfl⟩;have eI:(1:Int)+(d:Int)=(n:Int):=by lia
 dsimp only [L2.start,List.set_cons_zero,List.set_cons_succ];rw [eI];refine aw fun _ hR=>aW ⟨_,rfl,_,rfl,T1,n,rfl,Zh,by lia,fun od o H4 o4 tc4 Fb Zi ho=>hR _ _ ?_⟩
 have S4:af H H4:=join s1 Ov (o2.trans (o3.trans o4));have tw4:d8 H4 td q:=tw.off (o3.trans o4) Ow;have Zj:H od=none:=none_of (join s1 Ov (o2.trans o3)) Fb;refine aw fun _ hR=>aW ⟨_,rfl,_,rfl,_,_,rfl,rfl,sc,ns,k+1,rfl,S4.seq hS,by lia,fun T2 H5 s5 Zk Zl=>⟨_,rfl,T2,n,rfl,Zl,by lia,fun lk us L H6 o6 tc6 Zm pj hL cu hlen=>hR _ _ ?_⟩⟩
 have zB:af H4 H6:=join s5 Zk o6;have S6:=S4.trans zB;refine aw fun _ hR=>aW ⟨_,rfl,_,rfl,_,rfl,_,_,rfl,rfl,sc,ns,k+2,rfl,S6.seq hS,by lia,fun T3 H7 s7 Ox Zn=>?_⟩
 refine ⟨_,rfl,_,rfl,td,T3,lk,q,n,us,L,rfl,(tw4.mono zB).mono s7,hq,Zn,by lia,(fun z=>by rw [z,Ox] at pj;cases pj),s7 _ _ pj,hL.mono s7,cu,fun tab rs vf H8 o8 tc8 Zo gP Wt Ft=>hR _ _ ?_⟩
 have Dr:af H6 H8:=join s7 Ox o8;have S8:=S6.trans Dr;refine iV ⟨_,rfl,_,rfl,_,rfl,_,rfl,_,rfl,_,rfl,_,_,rfl,rfl,sc,ns,k+3,rfl,S8.seq hS,by lia,fun T4 H9 s9 Zp Zq=>?_⟩
 refine ⟨_,rfl,td,T4,q,n,rfl,((tw4.mono zB).mono Dr).mono s9,hq,Zq,by lia,fun am ps mf Zr ags Zs rg oY Zt=>?_⟩
 have Oy:af H8 mf:=join s9 Zp Zr;have Zu:=S8.trans Oy;refine ⟨by show 4≤sizeLine;decide,fun tp dI=>?_⟩
 have k4:af mf (upd mf tp (.tup [.ref td,.ref tab,.ref od,.ref am])):=aT dI;have dD:upd mf tp (.tup [.ref td,.ref tab,.ref od,.ref am]) tp=some (.tup [.ref td,.ref tab,.ref od,.ref am]):=az;generalize upd mf tp (.tup [.ref td,.ref tab,.ref od,.ref am])=zC at k4 dD ⊢;obtain ⟨vs,Zv,lvs,Zw⟩:=id rg;have Ds:=Oy.trans k4;have ra:dC zC am n (fun i=>vs.getD i .aU):=by
  unfold dC;rw [k4 _ _ Zv]
  congr 2
  refine gQ (by simp;lia) fun j g1 g2=>?_
  rw [gF,jh,getD_at g1]
 have na:∀i,i<n→∃x m,a_ 1000 zC q ((fun i=>vs.getD i V.aU) i) x m∧lX q x m:=fun i hi=>by
  have g1:i<vs.length:=by lia
  have g2:i<ps.length:=by lia
  refine ⟨ps[i].1,ps[i].2,?_,Zt _ (dN g2)⟩;dsimp only;rw [getD_at g1];exact (Zw i _ _ (dF g1) (dF g2)).mono k4
 have Zx:kT zC q n vf:=fun i j hi hj=>by obtain ⟨x,m,h1,h2⟩:=Ft i j hi hj;exact ⟨x,m,h1.mono Ds,h2⟩
 obtain ⟨f,f1,f2,f3⟩:=V7 Zx na;exact kk tp td tab od am q n o rs vf _ f zC (Zu.trans k4) dD (((tw4.mono zB).mono Dr).mono Ds) hq (by lia) (by lia) ⟨Wt.mono Ds,Ds _ _ (Dr _ _ (zB _ _ Zi)),ho,ra,f1,f2,f3⟩ (none_of (S6.trans s7) Zo) Zj (none_of (S8.trans s9) Zs) fun i hi=>none_of (S6.trans s7) (gP i hi)
theorem Zy:a8 ["told","table","order","aim","found","first","size","price","comes","k"] ["told","table","order","aim","found"] (aM CF):=bH
theorem Oz(T:Txt K mg t):aY P w K mg base bI 8 t.sI t.vP ["told","table","order","aim","found"] V9:=by
 have S:=Zy;refine T.tD.bS S (fun _ _ _ _ H _ _ _ hr h=>?_);obtain ⟨td,tab,od,am,fd,r,q,n,at',o,rs,vf,av,lv,f,rfl,tw,hq,n1,n9,pc,out,kk⟩:=h;have hu:=hr.qe;have jM:=hr.units
 refine ⟨_,(ak (putL 5 S.nd (aB (Za T) hr T.M4 T.wZ.kp T.M3 aE (aa (pv 0) (aa (pv 1) (aa (pv 2) ae)))))
  (ak (putL 6 S.nd (bW e8 rfl T.dH dO (aa (pv 2) ae)))
  (ak (bL (PW.pt (pw_or (ig (fW (bW (lJ (K:=K)) rfl T.kW boot_isinstance (aa (pv 4) (aa (lA (v:=.ty "tuple") rfl T.xk boot_tuple rfl) ae))))) (pw_or1 (bj gI (bW e8 rfl T.dH dO (aa (pv 4) ae)) ag)))) (aq (aI eQ)) bO)
  (ak (bL (bj dU (pv 5) ag) (ak (bL (PW.pt (pw_or (bj gI (ai aC (pv 4) ag) dY) (pw_or (ig (fW (aB (N7 T) hr T.Gh T.tu.kp T.Gg aE (aa (pv 0) (aa (ai aC (pv 4) ag) (aa (pv 6) ae)))))) (pw_or1 (ig (fW (aB (zp T) hr T.xb T.l7.kp T.xa aE (aa (ai aC (pv 4) ag) ae)))))))) (aq (aI eQ)) bO)
  (ak (putL 7 S.nd (aB (YL T) hr T.M_ T.w_.kp T.M9 aE (aa (aB (YN T) hr T.M8 T.w9.kp T.M7 aE (aa (pv 6) (aa (aB (Y2 T) hr T.M6 T.w5.kp T.M5 aE (aa (pv 0) (aa (pv 1) ae))) (aa (pv 2) ae)))) ae)))
  (aq (aI (mF (kz (SM (n:=1) jM) (aB (Ol T) hr T.Gf T.tj.kp T.Ge aE (aa (pv 0) (aa (pv 1) (aa (ai aC (pv 4) ag) ae)))) (pv 3)) (pZ (kz dU (ai aC (pv 4) ag) (pv 7)))))))) bO)
  (ak (bL (PW.pt (pw_or (bj gI (ai aC (pv 4) ag) dY) (pw_or (ig (fW (aB (zp T) hr T.xb T.l7.kp T.xa aE (aa (ai aC (pv 4) ag) ae)))) (pw_or1 (bj gI (ai aC (pv 4) ag) (pv 5)))))) (aq (aI eQ)) bO)
  (ak (bL (PW.pt (pw_or (ig (fW (aB (N7 T) hr T.Gh T.tu.kp T.Gg aE (aa (pv 0) (aa (ai aC (pv 4) ag) (aa (pv 6) ae)))))) (pw_or1 (bj (A5 hu) (ai aV (ai aC (pv 4) ag) (ai aV (pv 2) (ax jV (pv 5) ag))) (aB (oZ T) hr T.m9 T.jJ.kp T.m8 aE (aa (pv 0) (aa ag (aa ag ae)))))))) (aq (aI eQ)) bO)
  (ak (putL 8 S.nd (aB (Ol T) hr T.Gf T.tj.kp T.Ge aE (aa (pv 0) (aa (pv 1) (aa (ai aC (pv 4) ag) ae)))))
  (ak (cN cq rfl (gq rfl T.eA (aa (pv 6) ae)) (bV (i:=9) S.nd rfl (Or.inl rfl))
   (ak (bL (PW.pt (pw_and (bj Ji (pv 9) (pv 5)) (pw_and1 (bj (A5 hu) (ai aV (ai aC (pv 4) ag) (ai aV (pv 2) (pv 9))) (aB (o_ T) hr T.ni T.jK.kp T.ng aE (aa (pv 0) ae)))))) (aq (aI eQ)) bO)
  (aq (bL (PW.pt (pw_and (bj om (pv 9) (pv 5)) (pw_and1 (bj (A5 hu) (ai aV (pv 8) (ai aV (pv 2) (pv 9))) (aB (o_ T) hr T.ni T.jK.kp T.ng aE (aa (pv 0) ae)))))) (aq (aI eQ)) bO))))
  (aq (aI eQ)))))))))),?_⟩
 have lo:=fM pc.gB;have dB:=(By n n9).2;have X1:=(By n n9).1;have ll:(bg o).length=n:=by unfold bg;rw [aR,lo]
 refine aw fun R hR=>aW ⟨_,rfl,_,rfl,_,rfl,td,tab,od,q,n,997,rs,vf,d9 q n f,i4 q,o,rfl,tw,hq,pc.tab.r,fun i j hi hj=>pc.kN hq hi hj,pc.ord,pc.gB,by lia,by decide,oT pc.sm,lY,uK hq,dB,fun k hk g d H1 s1=>hR _ _ ?_,fun g H1 s1=>hR _ _ ?_⟩
 ·clear hR
  cases out with
  | one g' gd=>exact (Bz lo hk d gd).elim
  | iJ k' fO g' d' ef er ew ea=>
   have e:=LM lo hk fO g d g' d';subst e;have jP:=s1 _ _ ef;refine aw fun _ hR=>aW ⟨_,rfl,od,_,rfl,.inl (.of (s1 _ _ pc.ord)),hR _ _ ?_⟩;rw [ll];refine aw fun _ hR=>⟨_,rfl,_,_,_,true,rfl,rfl,.of (.tup jP),qm,true,rfl,bM ?_⟩;refine ⟨_,rfl,fd,_,rfl,.inr (.of jP),rfl,_,rfl,bM (hR _ _ ?_)⟩;refine aw fun _ hR=>⟨_,rfl,rfl,false,by simp;lia,bM (hR _ _ ?_)⟩
   refine aw fun _ hR=>⟨_,rfl,fd,_,_,_,rfl,rfl,.of jP,rfl,rfl,false,by decide +kernel,bM ?_⟩
   refine ⟨_,rfl,fd,_,_,_,rfl,rfl,.of jP,rfl,.int _,rfl,.int _,true,rfl,bM ?_⟩;refine ⟨_,rfl,fd,_,_,_,rfl,rfl,.of jP,rfl,_,rfl,rfl,false,by simp,bM (hR _ _ ?_)⟩
   obtain ⟨fr,ux⟩:=BC ew;have lr:((List.range n).map fr).length=n:=by simp
   refine aw fun _ hR=>⟨_,rfl,_,rfl,fd,_,_,_,rfl,rfl,.of jP,rfl,_,rfl,td,r,q,(List.range n).map fr,bJ n 997,by rw [lr];rfl,tw.mono s1,hq,FK (s1 _ _ er) (fun j hj=>(ux j hj).mono s1),by rw [lr];lia,fun H2 s2=>⟨true,rfl,bM ?_⟩⟩
   have dy:=s1.trans s2;have ht:o[k]<n:=(cJ pc.gB).mp (dN hk);have Ho:∀j,(hj:j<o.length)→(bg o)[j]?=some (.int ((o[j]:Nat):Int)):=fun j hj=>by unfold bg;rw [cz,dF hj];rfl
   refine ⟨_,rfl,fd,_,_,_,rfl,rfl,.of (s2 _ _ jP),rfl,_,rfl,_,rfl,_,_,rfl,rfl,od,_,_,_,rfl,rfl,.of (dy _ _ pc.ord),(by show gZ (bg o) ((k:Int)+1-1)=_;rw [show (k:Int)+1-1=(k:Int) by lia];exact gJ (Ho k hk)),r,_,_,_,rfl,rfl,.of (dy _ _ er),bK ht,_,rfl,td,q,1,1,1000,rfl,tw.mono dy,hq,yB hq,by decide,by decide,by decide +kernel,fun v1 H3 s3 w3=>?_⟩
   have fP:=dy.trans s3;have Zz:cF (d9 q n f) o k o[k] o[k]=aA (d9 q n f) (cO o k):=by unfold cF;rw [ar rfl]
   obtain ⟨x1,m1,u1,u2⟩:=BA hq ((ew o[k] ht).mono fP) w3 (by rw [Zz,fS,nQ];exact Cg.refl _)
   refine V_ u1 u2 ⟨false,rfl,bM (hR _ _ ?_)⟩;have b1:1≤997:=by decide
   have hM:=oT pc.sm;have cp:=LN (D:=i4 q) (n:=n) (y:=cF (d9 q n f) o k o[k]) (d:=aA (d9 q n f) (cO o k)) hq b1 hM lY (fun c=>by
    unfold cF
    split
    ·exact iH b1 hM lo _
    ·split
     ·rw [mB];exact uH b1 hM lo _ _ _
     ·exact ck _) (iH b1 hM lo _) (iY hq g) (uK hq) X1 dB
   have zD:(997:Nat)≤bJ n 997:=aH (by decide) X1
   refine aw fun _ hR=>aW ⟨_,rfl,_,rfl,_,rfl,fd,_,_,_,rfl,rfl,.of (fP _ _ ef),rfl,td,tab,r,q,bJ n 997,bJ n 997,n,n,rs,vf,lv,_,_,_,_,_,_,rfl,tw.mono fP,hq,pc.tab.r.mono fP,fP _ _ er,by lia,by lia,(fun i j hi hj=>((pc.kN hq hi hj).mono fP).bd (aH (hM i j) zD) (aH (lY i) zD)),fun j hj=>(ew j hj).mono fP,cp,fun cm cv H4 s4 ZA Hq Hr=>hR _ _ ?_⟩
   have hI:=fP.trans s4;refine aw fun _ hR=>⟨_,rfl,(n:Int),rfl,by lia,by lia,?_⟩
   rw [dM];refine iu (fun j σ Hc=>∃(v7 v9:Option V),σ=[some (.ref td),some (.ref tab),some (.ref od),some (.ref am),some (.ref fd),some (.int ((k:Int)+1)),some (.int (n:Int)),v7,some (.ref cm),v9]∧af H4 Hc) ⟨_,_,rfl,af.refl _⟩ ?_ ?_
   ·rintro j σ Hc hj ⟨v7,v9,rfl,sc⟩
    dsimp only [b6];rw [hZ];have S5:=hI.trans sc;have du:j<o.length:=by lia
    have zE:o[j]<n:=(cJ pc.gB).mp (dN du);refine aw fun R hR=>?_;have next:∀He,af H4 He→R [some (.ref td),some (.ref tab),some (.ref od),some (.ref am),some (.ref fd),some (.int ((k:Int)+1)),some (.int (n:Int)),v7,some (.ref cm),some (.int (j:Int))] He:=fun He se=>hR _ _ (by
     refine ⟨_,rfl,_,rfl,_,_,rfl,rfl,_,rfl,b7 (fun hb=>?_) (fun hb=>bM ⟨_,_,rfl,se⟩)⟩;have jk:j≤k:=by have:=eY hb;lia
     refine ⟨_,rfl,_,rfl,_,rfl,od,_,_,_,rfl,rfl,.of (se _ _ (hI _ _ pc.ord)),gJ (Ho j du),cm,_,_,_,rfl,rfl,.of (se _ _ Hq),bK zE,_,rfl,td,q,rfl,tw.mono (hI.trans se),hq,fun v0 H6 s6 h0=>?_⟩;have w:=(Hr o[j] zE).mono (se.trans s6);have dv:q∣((List.range n).map fun c=>d9 q n f o[j] c*cF (d9 q n f) o k o[k] c).sum:=by
      rw [We pc.gB hk];by_cases e:j=k;·subst e;exact d
      ·rw [uE hq g o[j] ((cX pc.gB).mpr ⟨zE,by rw [g8 (e_ pc.gB) du];lia⟩)]
       exact k9 q
     obtain ⟨x,m,hx,x0⟩:=(mY hq w).mp dv;refine uB hx h0 ⟨false,by simp [x0],bM ⟨_,_,rfl,se.trans s6⟩⟩)
    refine ⟨_,rfl,_,rfl,_,_,rfl,rfl,_,rfl,b7 (fun hb=>?_) (fun hb=>bM (next Hc sc))⟩
    have jk:k<j:=by have:=eY hb;lia
    refine ⟨_,rfl,fd,_,_,_,rfl,rfl,.of (S5 _ _ ef),rfl,_,rfl,_,rfl,od,_,_,_,rfl,rfl,.of (S5 _ _ pc.ord),gJ (Ho j du),r,_,_,_,rfl,rfl,.of (S5 _ _ er),bK zE,_,rfl,td,q,rfl,tw.mono S5,hq,fun v0 H6 s6 h0=>?_⟩;have w:=(ew o[j] zE).mono (S5.trans s6);have z:cF (d9 q n f) o k o[k] o[j]=0:=by unfold cF;rw [ao (fun z=>by have h1:=g8 (e_ pc.gB) du;rw [z,g8 (e_ pc.gB) hk] at h1;lia),ao (by rw [g8 (e_ pc.gB) du];lia)]
    obtain ⟨x,m,hx,x0⟩:=(mY hq w).mp (by rw [z];exact k9 q)
    refine uB hx h0 ⟨false,by simp [x0],bM (next H6 (sc.trans s6))⟩
   ·rintro σ Hc ⟨v7,v9,rfl,sc⟩
    exact hR _ _ (kk Hc (hI.trans sc))
 ·clear hR
  cases out with
  | iJ k' fO g' d' ef er ew ea=>exact (Bz lo fO d' g).elim
  | one g' gd eU ef er ew ea=>
   have jP:=s1 _ _ ef;refine aw fun _ hR=>aW ⟨_,rfl,od,_,rfl,.inl (.of (s1 _ _ pc.ord)),hR _ _ ?_⟩;rw [ll];refine aw fun _ hR=>⟨_,rfl,_,_,_,true,rfl,rfl,.of (.tup jP),qm,true,rfl,bM ?_⟩;refine ⟨_,rfl,fd,_,rfl,.inr (.of jP),rfl,_,rfl,bM (hR _ _ ?_)⟩;refine aw fun _ hR=>⟨_,rfl,rfl,true,rfl,dZ ?_⟩;refine aw fun _ hR=>⟨_,rfl,fd,_,_,_,rfl,rfl,.of jP,rfl,rfl,false,by decide +kernel,bM ?_⟩
   obtain ⟨fr,ux⟩:=BC ew;have lr:((List.range n).map fr).length=n:=by simp
   refine ⟨_,rfl,_,rfl,fd,_,_,_,rfl,rfl,.of jP,rfl,_,rfl,td,r,q,(List.range n).map fr,bJ n 997,by rw [lr];rfl,tw.mono s1,hq,FK (s1 _ _ er) (fun j hj=>(ux j hj).mono s1),by rw [lr];lia,fun H2 s2=>⟨true,rfl,bM ?_⟩⟩
   have dy:=s1.trans s2;refine ⟨_,rfl,fd,_,_,_,rfl,rfl,.of (s2 _ _ jP),rfl,.int _,rfl,.int _,true,rfl,bM (hR _ _ ?_)⟩;have GL:yE n (gz (gc n n f) n):=fun zz hz=>by have:=LP zz hz;exact ⟨this.1,by lia,by lia,this.2.2⟩
   refine aw fun _ hR=>aW ⟨_,rfl,_,rfl,_,rfl,td,tab,q,1000,n,gc n n f,rfl,tw.mono dy,hq,pc.V8.mono dy,FI,by lia,FJ,fun lk us H3 s3 Zm pj ZC ZD=>?_⟩
   have fP:=dy.trans s3;refine ⟨_,rfl,lk,od,n,us,gz (gc n n f) n,o,rfl,pj,ZC,GL,by lia,ZD,LO _ _,fun z hz=>(LP z hz).2.1,fP _ _ pc.ord,pc.gB,fun H4 D4 me g4 s4 ZE OA=>?_⟩
   refine ⟨D4,n,me,g4,rfl,ZE,by lia,fun p hp=>aH (KY pc.gB (OA p hp).1) (by lia),fun H5 s5=>hR _ _ ?_⟩
   have tN:=fP.trans (s4.trans s5);have ZF:ke n g4=ke n g':=V5 V3 OA eU;have b1:1≤997:=by decide
   have hM:=oT pc.sm;have cp:=LN (D:=i4 q) (n:=n) (y:=cQ (d9 q n f) (cO o n) n) (d:=aA (d9 q n f) (cO o n)) hq b1 hM lY (fun c=>uH b1 hM lo _ _ _) (iH b1 hM lo _) (iY hq g) (uK hq) X1 dB;have zD:(997:Nat)≤bJ n 997:=aH (by decide) X1
   refine iV ⟨_,rfl,_,rfl,_,rfl,fd,_,_,_,rfl,rfl,.of (tN _ _ ef),rfl,td,tab,r,q,bJ n 997,bJ n 997,n,n,rs,vf,lv,_,_,_,_,_,_,rfl,tw.mono tN,hq,pc.tab.r.mono tN,tN _ _ er,by lia,by lia,(fun i j hi hj=>((pc.kN hq hi hj).mono tN).bd (aH (hM i j) zD) (aH (lY i) zD)),fun j hj=>(ew j hj).mono tN,cp,fun cm cv H6 s6 ZA Hq Hr=>?_⟩
   have Dt:=tN.trans s6;refine ⟨_,rfl,cm,am,_,_,rfl,rfl,.of Hq,.of (Dt _ _ pc.kU),by rw [aR,aR],fun j x y hx hy=>?_,?_⟩
   ·have hj:j<n:=by have:=(bQ.mp hx).1;simpa using this
    rw [cz,hV hj] at hx hy;cases hx;cases hy;obtain ⟨x1,m1,u1,u2⟩:=BA hq (Hr j hj) ((pc.FO hq hj).mono Dt) (by rw [Wg hq pc.gB g hj];exact Cg.of_eq (by grind))
    exact qH u1 u2
   ·refine ⟨true,rfl,dZ ⟨_,rfl,fd,_,_,_,rfl,rfl,.of (Dt _ _ ef),rfl,_,rfl,rfl,?_⟩⟩
    have:=kk H6 Dt;rw [ZF];simpa using this
theorem ZG:a8 ["script","start","told","table","order","aim","handed","world","found","at","kept","row","again"] ["script"] (aM CG):=bH
theorem ZH(T:Txt K mg t):aY P w K mg base bI 10 t.oV t.sJ ["script"] (A0 K):=by
 have S:=ZG;have ZI:=WE (P:=P) (w:=w) (base:=base) T;refine T.xg.bS S (fun _ _ _ _ H _ _ _ hr h=>?_);obtain ⟨a,ns,rfl,hS,hlen,kQ⟩:=h;have jM:=hr.units;have hu:=hr.qe
 refine ⟨_,(ak (cN cq rfl (V0 rfl T.eA (aa ag (aa (bW (P_ rfl) rfl T.Nn boot_max (aa ag (aa (bW (Qa rfl) rfl T.Np boot_min (aa ag (aa (bW e8 rfl T.dH dO (aa (pv 0) ae)) ae))) ae))) (aa ag ae)))) (bV (i:=1) S.nd rfl (Or.inl rfl))
   (ak (@gj _ _ _ _ _ _ (aB (Zf T) hr T.Nd T.xf.kp T.Nc aE (aa (pv 0) (aa (pv 1) ae))) (p6 rfl (gT (bV (i:=2) S.nd rfl (Or.inl rfl)) (gT (bV (i:=3) S.nd rfl (Or.inl rfl)) (gT (bV (i:=4) S.nd rfl (Or.inl rfl)) (gT (bV (i:=5) S.nd rfl (Or.inl rfl)) p5))))) (by rfl) (by rfl) (by rfl))
  (ak (putL 6 S.nd (eR (aa (jz (N:=["row"]) (ρ:=(fun σ=>[])) (fZ [] rfl) rfl (dR (pv 3)) (fun _ _ _=>.nil) (fun _ _ _=>(gY (EF (K:=K)) rfl T.i8 boot_list (aa (pv 0) ae)))) (aa (gY oo rfl T.i8 boot_list (aa (pv 4) ae)) (aa (gY oo rfl T.i8 boot_list (aa (pv 5) ae)) ae)))))
  (ak (putL 7 S.nd (Qz T.CP ZI (hr.mono (by decide)) rfl T.Ni T.Ng .nil lI (aa (pv 2) ae)))
  (ak (putL 8 S.nd (aB (NW T) hr T.FY T.sX.kp T.FX aE (aa (pv 7) (aa (ai aV (pv 6) ag) (aa (ai aV (pv 6) ag) (aa (ai aV (pv 6) ag) ae))))))
  (ak (bL (PW.pt (pw_or (ig (fW (aB (Oz T) hr T.Gj T.tD.kp T.Gi aE (aa (pv 2) (aa (pv 3) (aa (pv 4) (aa (pv 5) (aa (pv 8) ae)))))))) (pw_or1 (bj (yu (n:=3) jM) (pv 6) (eR (aa (pv 3) (aa (pv 4) (aa (pv 5) ae)))))))) (aq (aI eQ)) bO)
  (ak (putL 9 S.nd (ax dS ag (gY D9 rfl T.xj boot_int (aa (kz dU (ai aC (pv 8) ag) dY) ae))))
  (ak (putL 10 S.nd (gY oo rfl T.i8 boot_list (aa (ai aC (pv 8) (pv 9)) ae)))
  (ak (cN cq rfl (dR (ax Q5 (ai aV (pv 6) ag) (pv 6))) (bV (i:=11) S.nd rfl (Or.inl rfl))
   (aq (gS (AL jj PySem.F.slot_list_clear PySem.F.type_list_clear JO (pv 11)))))
  (ak (bL (bj (yu (n:=1) jM) (ai aC (pv 8) (pv 9)) (pv 10)) (aq (aI eQ)) bO)
  (ak (putL 6 S.nd (eR (aa (jz (N:=["row"]) (ρ:=(fun σ=>[])) (fZ [] rfl) rfl (dR (pv 3)) (fun _ _ _=>.nil) (fun _ _ _=>(gY (EF (K:=K)) rfl T.i8 boot_list (aa (pv 0) ae)))) (aa (gY oo rfl T.i8 boot_list (aa (pv 4) ae)) (aa (gY oo rfl T.i8 boot_list (aa (pv 5) ae)) ae)))))
  (ak (putL 12 S.nd (aB (NW T) hr T.FY T.sX.kp T.FX aE (aa (pv 7) (aa (ai aV (pv 6) ag) (aa (ai aV (pv 6) ag) (aa (ai aV (pv 6) ag) ae))))))
  (ak (bL (PW.pt (pw_or (ig (fW (aB (Oz T) hr T.Gj T.tD.kp T.Gi aE (aa (pv 2) (aa (pv 3) (aa (pv 4) (aa (pv 5) (aa (pv 12) ae)))))))) (pw_or1 (bj (yu (n:=1) jM) (ai aC (pv 12) (pv 9)) (pv 10))))) (aq (aI eQ)) bO)
  (ak (gS (AL jj PySem.F.slot_list_clear PySem.F.type_list_clear JO (ai aC (pv 12) (pv 9))))
  (aq (bL (PW.pt (pw_or (bj (yu (n:=3) jM) (pv 6) (eR (aa (pv 3) (aa (pv 4) (aa (pv 5) ae))))) (pw_or1 (bj (yu (n:=1) jM) (ai aC (pv 8) (pv 9)) (pv 10))))) (aq (aI eQ)) bO))))))))))))))))
  (aq (aI eQ))),?_⟩
 refine aw fun _ hR=>⟨_,rfl,a,_,rfl,.inl hS,_,_,rfl,_,_,rfl,_,_,4,rfl,⟨by decide,by decide,by decide,by decide,?_,?_⟩,?_⟩
 ·split <;> split <;> lia
 ·split <;> split <;> lia
 refine V1 (fun i σ Hc=>∃(v:Nat→Option V),σ=[some (.ref a),v 1,v 2,v 3,v 4,v 5,v 6,v 7,v 8,v 9,v 10,v 11,v 12]∧af H Hc) ⟨fun _=>none,rfl,af.refl _⟩ ?_ ?_
 ·rintro i σ Hc hi ⟨v,rfl,sc⟩
  have i10:i≤40:=by
   revert hi
   unfold Builtin.Range.rangeSize;rw [ar (by decide)]
   split
   ·split <;> split <;> lia
   ·lia
  have ZJ:bU K Hc a (ns.map V.int):=sc.seq hS;dsimp only [b6];have eI:(0:Int)+(i:Int)*4=((4*i:Nat):Int):=by lia
  rw [eI];refine aw fun _ hR=>aW ⟨_,rfl,_,rfl,a,ns,4*i,rfl,ZJ,by lia,fun tp td tab od am q n o rt vf av f H1 s1 dD tw hq n1 n6 pc _ _ _ _=>⟨tp,_,rfl,.of dD,rfl,_,_,rfl,_,_,rfl,_,_,rfl,_,_,rfl,rfl,hR _ _ ?_⟩⟩
  have lo:=fM pc.gB;simp only [List.set_cons_zero,List.set_cons_succ];refine aw fun _ hR=>aW (yR (fun x Hx=>∃(hd h0 h1 h2:Addr) (rh:Nat→Addr),x=.ref hd∧af H1 Hx∧lZ H1 Hx hd h0 h1 h2 n o rh vf av) (fun R' kj=>LR ?_) ?_)
  ·have eN:((List.range n).map fun i=>V.ref (rt i)).length=n:=by rw [aR,cC]
   refine lQ (xs:=(List.range n).map fun i=>V.ref (rt i)) (n:=n) eN (fun R h=>⟨_,rfl,tab,rfl,⟨_,.of pc.tab.lst⟩,h _ _ (af.refl _) (j7 (.of pc.tab.lst))⟩) (dq (by lia)) (fun _ i y Hx=>Hx y=some (.lst ((List.range n).map (vf i)))∧H1 y=none) ?_ ?_ ?_
   ·intro D i y Ha Hb ys ⟨g1,g2⟩ hy e f
    exact ⟨f y _ hy g1,g2⟩
   ·intro D i x hx Hd R sd _ kc
    obtain ⟨hi,rfl⟩:=i6 hx;exact ⟨_,rfl,rt i,_,rfl,.inl (.of (sd _ _ (pc.tab.at' i hi))),fun l nl=>kc l _ (aT nl) nl ⟨_,az⟩ ⟨az,none_of sd nl⟩⟩
   ·intro h0 rh Ha Hs sa inj hA Ht
    have Wa:WTab Ha h0 n rh vf:=⟨Ht,inj,fun i hi=>(hA i hi).2,fun i hi=>(hA i hi).1.1⟩;refine ⟨_,rfl,od,_,rfl,.inl (.of (sa _ _ pc.ord)),fun h1 zF=>?_⟩;have sb:af Ha (upd Ha h1 (.lst (bg o))):=aT zF;have eb:upd Ha h1 (.lst (bg o)) h1=some (.lst (bg o)):=az;generalize upd Ha h1 (.lst (bg o))=Hb at sb eb ⊢;refine ⟨_,rfl,am,_,rfl,.inl (.of (sb _ _ (sa _ _ pc.kU))),fun h2 zG=>?_⟩;have nC:af Hb (upd Hb h2 (.lst ((List.range n).map av))):=aT zG;have ec:upd Hb h2 (.lst ((List.range n).map av)) h2=some (.lst ((List.range n).map av)):=az;generalize upd Hb h2 (.lst ((List.range n).map av))=zH at nC ec ⊢;refine ⟨by show 3≤sizeLine;decide,fun hd zI=>kj _ _ ?_⟩
    have sd:af zH (upd zH hd (.lst [.ref h0,.ref h1,.ref h2])):=aT zI;have zJ:=sa.trans sb;have zK:=zJ.trans nC;exact ⟨hd,h0,h1,h2,rh,rfl,zK.trans sd,az,((Wa.mono sb).mono nC).mono sd,sd _ _ (nC _ _ eb),sd _ _ ec,none_of zK zI,Hs,none_of sa zF,none_of zJ zG,fun i hi=>(hA i hi).1.2⟩
  rintro x H2 ⟨hd,h0,h1,h2,rh,rfl,s2,hh⟩;refine hR _ _ ?_;have OB:=pc.mono s2;have tw2:=tw.mono s2;refine aw fun _ hR=>aW ⟨_,rfl,fun z dz nz OC ne=>⟨z,dz,td,lO q,rfl,az,?_,fun _=>⟨rfl,hR _ _ ?_⟩,fun hg=>absurd ((S7 hq).symm.trans hg) (by decide)⟩⟩
  ·have e:=tw2.at
   rw [aP (jo e nz),aP (jo e OC)];exact e
  have s3:af H2 (upd (upd (upd H2 dz (.own z)) z (.ins t.bF dz [])) z (.ins t.bF dz [("prime",(lO q).prime)])):=fun b o e=>by rw [aP (jo e nz),aP (jo e nz),aP (jo e OC)];exact e
  have hz:eK t.bF (upd (upd (upd H2 dz (.own z)) z (.ins t.bF dz [])) z (.ins t.bF dz [("prime",(lO q).prime)])) z q:=⟨dz,by rw [az,TC]⟩
  generalize (upd (upd (upd H2 dz (.own z)) z (.ins t.bF dz [])) z (.ins t.bF dz [("prime",(lO q).prime)]))=H3 at s3 hz ⊢;have nG:=hh.mono s3;have tO:=OB.mono s3;have tw3:=tw2.mono s3;clear hh OB tw2;refine aw fun _ hR=>aW (yR (fun x Hx=>∃(fd r:Addr) (lv:Nat→V) (at':Nat),x=.ref fd∧af H3 Hx∧H3 r=none∧H3 fd=none∧fF Hx fd q (bJ n 997) n o (d9 q n f) (dr n (b5 (gc n n f)) n) r lv at') (fun R' kj=>?_) ?_);·refine ⟨_,rfl,_,rfl,hd,_,_,_,rfl,rfl,.of nG.lst,rfl,_,rfl,hd,_,_,_,rfl,rfl,.of nG.lst,rfl,_,rfl,hd,_,_,_,rfl,rfl,.of nG.lst,rfl,z,h0,h1,h2,q,1000,bJ n 997,n,gc n n f,o,d9 q n f,i4 q,av,rfl,hz,hq,FL nG.tab.r tO.num,by decide +kernel,FI,n1,by lia,FJ,nG.ord,tO.gB,tO.dG hq (by lia),Ls (by decide) (oT tO.sm) lY lo nG.kU (fun i hi=>tO.FO hq hi),fun k hk gd dv tp r lv Hx sx nr dI dD er ew=>kj _ _ ⟨tp,r,lv,2,rfl,sx,nr,dI,.iJ k hk gd dv dD er ew rfl⟩,fun gd tp r lv g Hx sx nr dI eU dD er ew=>kj _ _ ⟨tp,r,lv,1,rfl,sx,nr,dI,.one g gd eU dD er ew rfl⟩⟩
  rintro x H4 ⟨fd,r,lv,at',rfl,s4,nr,GA,out⟩;refine hR _ _ ?_;have Hv:=tO.mono s4;have tw4:=tw3.mono s4;have OD:=nG.mono s4;refine aw fun _ hR=>⟨_,rfl,_,rfl,_,rfl,_,rfl,_,rfl,td,tab,od,am,fd,r,q,n,at',o,rt,vf,av,lv,f,rfl,tw4,hq,n1,by lia,Hv,out,fun H5 s5=>⟨true,rfl,bM ?_⟩⟩
  refine ⟨_,rfl,_,rfl,_,rfl,_,rfl,by show 3≤sizeLine;decide,fun l5 ZK=>?_⟩
  have s6:af H5 (upd H5 l5 (.lst [.ref tab,.ref od,.ref am])):=aT ZK;have OE:upd H5 l5 (.lst [.ref tab,.ref od,.ref am]) l5=some (.lst [.ref tab,.ref od,.ref am]):=az;generalize upd H5 l5 (.lst [.ref tab,.ref od,.ref am])=H6 at s6 OE ⊢;have zL:=s5.trans s6;have OF:=Hv.mono zL;have zM:=OD.mono zL;have zN:=out.mono zL;refine ⟨hd,l5,_,_,rfl,rfl,.of zM.lst,.of OE,rfl,LQ zM OF,false,rfl,bM (hR _ _ ?_)⟩;refine aw fun _ hR=>aW (yR (fun x Hx=>x=.int (at':Int)∧Hx=H6) (fun R' kj=>?_) ?_)
  ·cases id zN with
   | one g a1 a2 a3 a4 a5 a6=>
    subst a6;refine ⟨_,rfl,fd,_,_,_,rfl,rfl,.of a3,rfl,rfl,.inr ⟨_,rfl,_,_,rfl,rfl,kj _ _ ⟨?_,rfl⟩⟩⟩;rw [show decide (V.str (Str.ofString "one")=V.str (Str.ofString "stops"))=false by decide +kernel]
    rfl
   | iJ k hk a1 a2 a3 a4 a5 a6=>
    subst a6;refine ⟨_,rfl,fd,_,_,_,rfl,rfl,.of a3,rfl,rfl,.inr ⟨_,rfl,_,_,rfl,rfl,kj _ _ ⟨?_,rfl⟩⟩⟩;rw [show decide (V.str (Str.ofString "stops")=V.str (Str.ofString "stops"))=true by decide +kernel]
    rfl
  rintro x Hx ⟨rfl,rfl⟩;refine hR _ _ ?_;obtain ⟨ZL,ZM,ZN⟩:=zN.at;refine aw fun _ hR=>aW ⟨_,rfl,_,rfl,fd,ZL,_,_,rfl,rfl,.of ZM,ZN,r,_,rfl,.inl (.of zN.row),fun kp OG=>hR _ _ ?_⟩;have s7:af Hx (upd Hx kp (.lst ((List.range n).map lv))):=aT OG;have OH:upd Hx kp (.lst ((List.range n).map lv)) kp=some (.lst ((List.range n).map lv)):=az;have ZO:mZ (m4 h0 h1 h2 n rh) Hx:=zM.yQ;have ZP:¬m4 h0 h1 h2 n rh kp:=fun zz=>by obtain ⟨ys,ey⟩:=ZO kp zz;rw [OG] at ey;cases ey
  have rC:¬m4 h0 h1 h2 n rh r:=fun zz=>by obtain ⟨ys,ey⟩:=nG.yQ r zz;rw [nr] at ey;cases ey
  generalize upd Hx kp (.lst ((List.range n).map lv))=H7 at s7 OH ⊢;have xw:=zM.mono s7;have OI:=zN.mono s7;refine aw fun _ hR=>⟨_,rfl,hd,_,_,_,rfl,rfl,.of xw.lst,rfl,_,rfl,h0,hd,_,_,rfl,rfl,xw.tab.lst,xw.lst,aH (show _≤100 by simp;lia) (by decide),fun p np=>⟨p,rfl,⟨_,.of az⟩,?_⟩⟩
  have s8:af H7 (upd H7 p (.lst (((List.range n).map fun i=>V.ref (rh i))++[.ref h0,.ref h1,.ref h2]))):=aT np;have ep:upd H7 p (.lst (((List.range n).map fun i=>V.ref (rh i))++[.ref h0,.ref h1,.ref h2])) p=some (.lst (((List.range n).map fun i=>V.ref (rh i))++[.ref h0,.ref h1,.ref h2])):=az;generalize upd H7 p (.lst (((List.range n).map fun i=>V.ref (rh i))++[.ref h0,.ref h1,.ref h2]))=H8 at s8 ep ⊢;have Du:=xw.mono s8;have pC:¬m4 h0 h1 h2 n rh p:=fun zz=>by obtain ⟨ys,ey⟩:=xw.yQ p zz;rw [np] at ey;cases ey
  refine iR (K:=K) (a:=p) (xs:=((List.range n).map fun i=>V.ref (rh i))++[.ref h0,.ref h1,.ref h2]) (fun k σ Hd=>∃(v11:Option V),σ=[some (.ref a),some (.int ((4*i:Nat):Int)),some (.ref td),some (.ref tab),some (.ref od),some (.ref am),some (.ref hd),some (.ref z),some (.ref fd),some (.int (at':Int)),some (.ref kp),v11,v 12]∧iK (m4 h0 h1 h2 n rh) H8 Hd∧mZ (m4 h0 h1 h2 n rh) Hd) ⟨_,rfl,iK.refl _ _,Du.yQ⟩ (fun k σ Hd _ ⟨_,_,od,_⟩=>.of (od _ _ pC ep)) ?_ ?_
  ·rintro k x σ Hd hx ⟨v11,rfl,lL,ls⟩
   have mx:∃l,x=.ref l∧m4 h0 h1 h2 n rh l:=by
    rcases fk.mp (hU hx) with hx | hx
    ·obtain ⟨i,hi,rfl⟩:=jg.mp hx
     exact ⟨_,rfl,.inr (.inr (.inr ⟨i,eW.mp hi,rfl⟩))⟩
    ·simp only [cx,nN,or_false] at hx
     rcases hx with rfl | rfl | rfl;·exact ⟨_,rfl,.inl rfl⟩
     ·exact ⟨_,rfl,.inr (.inl rfl)⟩
     ·exact ⟨_,rfl,.inr (.inr (.inl rfl))⟩
   obtain ⟨l,rfl,cl⟩:=mx;obtain ⟨ys,ey⟩:=ls l cl;dsimp only [b6];refine ⟨_,rfl,.inl ⟨rfl,_,.of ey⟩,l,ys,rfl,rfl,ey,_,rfl,lL.clear cl,fun l' ZQ=>?_⟩;by_cases e:l'=l
   ·subst e
    exact ⟨_,az⟩
   ·rw [aP e]
    exact ls l' ZQ
  rintro σ H9 ⟨v11,rfl,o9,_⟩;refine hR _ _ ?_;have l8:=Du.yQ;have zO:=(OI.mono s8).oU l8 o9 rC;have ZR:eK t.bF H9 z q:=((((hz.mono s4).mono zL).mono s7).mono s8).oU l8 o9;have Hy:=o9 _ _ ZP (s8 _ _ OH);have ZS:af H1 H8:=s2.trans (s3.trans (s4.trans (zL.trans (s7.trans s8))));have Hz:af H1 H9:=o9.same Du.Wi ZS;have xx:=pc.mono Hz;have tw9:=tw.mono Hz;obtain ⟨ZT,ZU,ZV⟩:=zO.at;obtain ⟨fr9,HA⟩:=zO.nums;refine aw fun _ hR=>⟨_,rfl,_,rfl,fd,ZT,_,_,rfl,rfl,.of ZU,ZV,_,rfl,r,kp,_,_,rfl,rfl,.of zO.row,.of Hy,rfl,(fun j x y hx hy=>by obtain ⟨hj,rfl⟩:=i6 hx;obtain ⟨_,rfl⟩:=i6 hy;exact qH (HA j hj) (HA j hj)),false,rfl,bM (hR _ _ ?_)⟩
  clear Du xw zM OD nG OI zN out OF Hv tO HA;refine aw fun _ hR=>aW (yR (fun x Hx=>∃(hd h0 h1 h2:Addr) (rh:Nat→Addr),x=.ref hd∧af H9 Hx∧lZ H9 Hx hd h0 h1 h2 n o rh vf av) (fun R' kj=>LR ?_) ?_)
  ·have eN:((List.range n).map fun i=>V.ref (rt i)).length=n:=by rw [aR,cC]
   refine lQ (xs:=(List.range n).map fun i=>V.ref (rt i)) (n:=n) eN (fun R h=>⟨_,rfl,tab,rfl,⟨_,.of xx.tab.lst⟩,h _ _ (af.refl _) (j7 (.of xx.tab.lst))⟩) (dq (by lia)) (fun _ i y Hx=>Hx y=some (.lst ((List.range n).map (vf i)))∧H9 y=none) ?_ ?_ ?_
   ·intro D i y Ha Hb ys ⟨g1,g2⟩ hy e f
    exact ⟨f y _ hy g1,g2⟩
   ·intro D i x hx Hd R sd _ kc
    obtain ⟨hi,rfl⟩:=i6 hx;exact ⟨_,rfl,rt i,_,rfl,.inl (.of (sd _ _ (xx.tab.at' i hi))),fun l nl=>kc l _ (aT nl) nl ⟨_,az⟩ ⟨az,none_of sd nl⟩⟩
   ·intro h0 rh Ha Hs sa inj hA Ht
    have Wa:WTab Ha h0 n rh vf:=⟨Ht,inj,fun i hi=>(hA i hi).2,fun i hi=>(hA i hi).1.1⟩;refine ⟨_,rfl,od,_,rfl,.inl (.of (sa _ _ xx.ord)),fun h1 zF=>?_⟩;have sb:af Ha (upd Ha h1 (.lst (bg o))):=aT zF;have eb:upd Ha h1 (.lst (bg o)) h1=some (.lst (bg o)):=az;generalize upd Ha h1 (.lst (bg o))=Hb at sb eb ⊢;refine ⟨_,rfl,am,_,rfl,.inl (.of (sb _ _ (sa _ _ xx.kU))),fun h2 zG=>?_⟩;have nC:af Hb (upd Hb h2 (.lst ((List.range n).map av))):=aT zG;have ec:upd Hb h2 (.lst ((List.range n).map av)) h2=some (.lst ((List.range n).map av)):=az;generalize upd Hb h2 (.lst ((List.range n).map av))=zH at nC ec ⊢;refine ⟨by show 3≤sizeLine;decide,fun hd zI=>kj _ _ ?_⟩
    have sd:af zH (upd zH hd (.lst [.ref h0,.ref h1,.ref h2])):=aT zI;have zJ:=sa.trans sb;have zK:=zJ.trans nC;exact ⟨hd,h0,h1,h2,rh,rfl,zK.trans sd,az,((Wa.mono sb).mono nC).mono sd,sd _ _ (nC _ _ eb),sd _ _ ec,none_of zK zI,Hs,none_of sa zF,none_of zJ zG,fun i hi=>(hA i hi).1.2⟩
  rintro x mf ⟨n5,Bc,oN,mO,rh',rfl,tP,cR⟩;refine hR _ _ ?_;have tQ:=xx.mono tP;have tw10:=tw9.mono tP;have ZW:=ZR.mono tP;refine aw fun _ hR=>aW (yR (fun x Hx=>∃(fd r:Addr) (lv:Nat→V) (at':Nat),x=.ref fd∧af mf Hx∧mf r=none∧mf fd=none∧fF Hx fd q (bJ n 997) n o (d9 q n f) (dr n (b5 (gc n n f)) n) r lv at') (fun R' kj=>?_) ?_);·refine ⟨_,rfl,_,rfl,n5,_,_,_,rfl,rfl,.of cR.lst,rfl,_,rfl,n5,_,_,_,rfl,rfl,.of cR.lst,rfl,_,rfl,n5,_,_,_,rfl,rfl,.of cR.lst,rfl,z,Bc,oN,mO,q,1000,bJ n 997,n,gc n n f,o,d9 q n f,i4 q,av,rfl,ZW,hq,FL cR.tab.r tQ.num,by decide +kernel,FI,n1,by lia,FJ,cR.ord,tQ.gB,tQ.dG hq (by lia),Ls (by decide) (oT tQ.sm) lY lo cR.kU (fun i hi=>tQ.FO hq hi),fun k hk gd dv tp r lv Hx sx nr dI dD er ew=>kj _ _ ⟨tp,r,lv,2,rfl,sx,nr,dI,.iJ k hk gd dv dD er ew rfl⟩,fun gd tp r lv g Hx sx nr dI eU dD er ew=>kj _ _ ⟨tp,r,lv,1,rfl,sx,nr,dI,.one g gd eU dD er ew rfl⟩⟩
  rintro x zC ⟨HC,r2,BD,at2,rfl,k4,ZX,agx,OJ⟩;refine hR _ _ ?_;have ZY:=tQ.mono k4;have tw11:=tw10.mono k4;have agy:=cR.mono k4;have OK:=tP.trans k4;refine aw fun _ hR=>⟨_,rfl,_,rfl,_,rfl,_,rfl,_,rfl,td,tab,od,am,HC,r2,q,n,at2,o,rt,vf,av,BD,f,rfl,tw11,hq,n1,by lia,ZY,OJ,fun HD dy=>⟨true,rfl,bM ?_⟩⟩
  have ZZ:=(zO.mono OK).mono dy;have zP:=OJ.mono dy;obtain ⟨Z0,Z1⟩:=fF.same (K:=K) hq lo ZZ zP;subst Z0;obtain ⟨OL,OM,ON⟩:=zP.at;have Z2:=dy _ _ (OK _ _ Hy);refine ⟨_,rfl,_,rfl,HC,OL,_,_,rfl,rfl,.of OM,ON,_,rfl,r2,kp,_,_,rfl,rfl,.of zP.row,.of Z2,by simp,(fun j x y hx hy=>by obtain ⟨hj,rfl⟩:=i6 hx;obtain ⟨_,rfl⟩:=i6 hy;exact Z1 j hj),false,rfl,bM (hR _ _ ?_)⟩
  refine aw fun _ hR=>⟨_,rfl,_,rfl,HC,OL,_,_,rfl,rfl,.of OM,ON,.inl ⟨rfl,_,.of zP.row⟩,r2,_,rfl,rfl,zP.row,hR _ _ ?_⟩;have OO:iK (· = r2) HD (upd HD r2 (.lst [])):=(iK.refl _ _).clear rfl;generalize upd HD r2 (.lst [])=zQ at OO ⊢;have HE:af mf zQ:=OO.same (fun l hl=>by rw [hl];exact ZX) (k4.trans dy)
  have Z3:=tQ.mono HE;have OP:=cR.mono HE;refine ⟨_,rfl,_,rfl,_,rfl,_,rfl,by show 3≤sizeLine;decide,fun zR Z4=>?_⟩
  have hI:af zQ (upd zQ zR (.lst [.ref tab,.ref od,.ref am])):=aT Z4;have OQ:upd zQ zR (.lst [.ref tab,.ref od,.ref am]) zR=some (.lst [.ref tab,.ref od,.ref am]):=az;generalize upd zQ zR (.lst [.ref tab,.ref od,.ref am])=H14 at hI OQ ⊢;refine ⟨n5,zR,_,_,rfl,rfl,.of (OP.mono hI).lst,.of OQ,rfl,LQ (OP.mono hI) (Z3.mono hI),false,rfl,bM ?_⟩;have HF:=HE.trans hI;have HG:=(zO.mono tP).mono HF;obtain ⟨Z5,Z6,Z7⟩:=HG.at;obtain ⟨agA,OR⟩:=HG.nums;refine ⟨_,rfl,_,rfl,fd,Z5,_,_,rfl,rfl,.of Z6,Z7,_,rfl,r,kp,_,_,rfl,rfl,.of HG.row,.of (HF _ _ (tP _ _ Hy)),rfl,(fun j x y hx hy=>by obtain ⟨hj,rfl⟩:=i6 hx;obtain ⟨_,rfl⟩:=i6 hy;exact qH (OR j hj) (OR j hj)),false,rfl,bM ?_⟩
  exact ⟨fun k=>List.getD [none,_,_,_,_,_,_,_,_,_,_,_,_] k none,rfl,sc.trans (s1.trans (Hz.trans (tP.trans HF)))⟩
 ·rintro σ Hc ⟨v,rfl,sc⟩
  exact hR _ _ (kQ _)
theorem Z8{l:PySem.W.OpenLaw}(T:Txt K mg t):∃fd:FuncData,(∀(s:Shared) (v:Value),BindsTo s fd ⟨[v],[]⟩ [("script",v)])∧∀base:Heap,K.In base→base.Ns mainGlobals mg→aY l.prog w K mg base bI 10 t.oV fd ["script"] (A0 K):=by obtain ⟨oc,od,kV,doc,pm,an,bf,ct,fX,e,lk,fV⟩:=T.xg.ex;refine ⟨t.sJ,fun s v=>?_,fun base _ _=>ZH T⟩;rw [e];exact .of_eq rfl
end
theorem walk{l:PySem.W.OpenLaw}{q:Program}{loose:List Str}{XP:(Str→Option Value)→Heap→Prop}{YP:World→Heap→Prop}{d:DefRec}{K:Params→PySem.W.Frag}(hn:l.most=some 63)(yc:d.params.defaults=[])
  (hY:∀(w:World) (h:Heap),YP w h→(K w.params).In h)
  (F:∀(w:World) (mg:dc) (fa:Addr) (h:Heap),(K w.params).In h→h.Ns mainGlobals mg→mg d.name=some (.ref fa)→
   ∃fd:FuncData,(∀(s:Shared) (u:Value),BindsTo s fd ⟨[u],[]⟩ [("script",u)])∧∀base:Heap,(K w.params).In base→base.Ns mainGlobals mg→aY l.prog w (K w.params) mg base bI 10 fa fd ["script"] (A0 (K w.params))) :
  PySem.W.WalkO q loose XP YP l.row.toRowW d [] (fun f vs=>PySem.call f vs):=
 L2.Rn (n:=63) (k:=10) (x:="script") (CX:=fun _=>bI) (sp:=fun w=>A0 (K w.params)) hn (by decide) yc ⟨rfl,by decide,by decide⟩ hY F (fun _ _ a ns hl _ hS=>⟨a,ns,rfl,hS,hl,fun _=>rfl⟩) fun _ _ _ _ _ z=>z
theorem Z9{K:aD}{h:Heap}{mg:dc}(X:K.In h)(G:h.Ns mainGlobals mg)
  {bF:Addr}
  {sQ:Addr}
  {i7:Addr}
  {l4:Addr}
  {m6:Addr}
  {m5:Addr} {Z_ OS:Option Addr} {aaa:Array (Option Value)} {aab OT OU OV HH OW:Value}
  {HI:Addr} {aac:Tok} {aad:Value} {aae:Option Addr} {aaf:Nat} {aag:Array (Option Value)}
  {aah:Tok}
  {aai:Tok}
  {qI qJ qK qL uQ qM qN qO qP qQ qS qT qU qV qW qX qY qZ q5 q8 q_ rf rj rl rn rq rz rA rB rD rE rF rH rJ rK rM rN rO rP rQ rR rV rW rX rY rZ r6 r9 r_ sk sq sv sA sC sD sE sF sG sI oV sM vR sN sO sP:Addr} {uM uN uO uP yS uR uS uT uU uV uW uX uY uZ u0 u3 u4 u5 u6 u7 u9 u_ va vb vc vd ve vg vh vi vj vk vm vn vo vp vq vt vv vw vx vy vz vA vB vC vD vE vF vG vH vI vJ vK vL vM vN vO vP sJ vQ yU vS vT vU:FuncData}
  (HJ:PySem.W.nsIn K mainGlobals "World"=some (some (.ref bF)))
  (HK:PySem.W.nsIn K mainGlobals "NoWorld"=some (some (.ref sQ)))
  (HL:PySem.W.nsIn K mainGlobals "NoOver"=some (some (.ref i7)))
  (HM:PySem.W.nsIn K mainGlobals "NoFit"=some (some (.ref l4)))
  (HN:PySem.W.nsIn K mainGlobals "NoOrder"=some (some (.ref m6)))
  (aaj:mg "width"=some (.ref qI))
  (vV:ay K "width" BE qI uM)
  (aak:mg "square_size"=some (.ref qJ))
  (vW:ay K "square_size" BF qJ uN)
  (aal:mg "check_aim"=some (.ref qK))
  (vX:ay K "check_aim" BG qK uO)
  (aam:mg "is_whole"=some (.ref qL))
  (sR:ay K "is_whole" BH qL uP)
  (aan:mg "shortened"=some (.ref uQ))
  (CM:ay K "shortened" FP uQ yS)
  (aao:mg "common_divisor"=some (.ref qM))
  (l6:ay K "common_divisor" BI qM uR)
  (aap:mg "is_prime"=some (.ref qN))
  (v_:ay K "is_prime" BJ qN uS)
  (aaq:mg "links_of_place"=some (.ref qO))
  (wc:ay K "links_of_place" BK qO uT)
  (aar:mg "shape_of"=some (.ref qP))
  (we:ay K "shape_of" BL qP uU)
  (aas:mg "neighbours"=some (.ref qQ))
  (wg:ay K "neighbours" BM qQ uV)
  (aat:mg "is_order"=some (.ref qS))
  (wm:ay K "is_order" BN qS uW)
  (aau:mg "check_order"=some (.ref qT))
  (wo:ay K "check_order" BO qT uX)
  (aav:mg "turns_of"=some (.ref qU))
  (wq:ay K "turns_of" BP qU uY)
  (aaw:mg "link_all"=some (.ref qV))
  (wu:ay K "link_all" BQ qV uZ)
  (aax:mg "later"=some (.ref qW))
  (wx:ay K "later" BR qW u0)
  (aay:mg "place_deeds"=some (.ref qX))
  (wz:ay K "place_deeds" BS qX u3)
  (aaz:mg "undo_place"=some (.ref qY))
  (wA:ay K "undo_place" BU qY u4)
  (aaA:mg "packed"=some (.ref qZ))
  (wB:ay K "packed" BV qZ u5)
  (aaB:mg "lowered"=some (.ref q5))
  (wC:ay K "lowered" BW q5 u6)
  (aaC:mg "raised"=some (.ref q8))
  (sS:ay K "raised" BX q8 u7)
  (aaD:mg "tied_move"=some (.ref q_))
  (wD:ay K "tied_move" BY q_ u9)
  (aaE:mg "along"=some (.ref rf))
  (sX:ay K "along" BZ rf u_)
  (aaF:mg "ratio"=some (.ref rj))
  (wF:ay K "ratio" B0 rj va)
  (aaG:mg "ratio_plus"=some (.ref rl))
  (wG:ay K "ratio_plus" B1 rl vb)
  (aaH:mg "ratio_minus"=some (.ref rn))
  (wH:ay K "ratio_minus" B2 rn vc)
  (aaI:mg "ratio_times"=some (.ref rq))
  (oW:ay K "ratio_times" B3 rq vd)
  (aaJ:mg "ratio_over"=some (.ref rz))
  (wI:ay K "ratio_over" B4 rz ve)
  (aaK:mg "remainder_back"=some (.ref rA))
  (wJ:ay K "remainder_back" B5 rA vg)
  (aaL:mg "remainder_over"=some (.ref rB))
  (sY:ay K "remainder_over" B6 rB vh)
  (aaM:mg "is_fractions"=some (.ref rD))
  (wK:ay K "is_fractions" B7 rD vi)
  (aaN:mg "is_wheel"=some (.ref rE))
  (wL:ay K "is_wheel" B8 rE vj)
  (aaO:mg "_law_acell"=some (.ref rF))
  (wM:ay K "_law_acell" B9 rF vk)
  (aaP:mg "_law_atape"=some (.ref rH))
  (m7:ay K "_law_atape" B_ rH vm)
  (aaQ:mg "_law_adigit"=some (.ref rJ))
  (gN:ay K "_law_adigit" Ca rJ vn)
  (aaR:mg "_law_adivisor"=some (.ref rK))
  (sZ:ay K "_law_adivisor" Cb rK vo)
  (aaS:mg "_law_aturned"=some (.ref rM))
  (s_:ay K "_law_aturned" Cc rM vp)
  (aaT:mg "_law_anumber"=some (.ref rN))
  (jJ:ay K "_law_anumber" Cd rN vq)
  (aaU:mg "_law_aplus"=some (.ref rO))
  (wN:ay K "_law_aplus" Ce rO vt)
  (aaV:mg "_law_atimes"=some (.ref rP))
  (tf:ay K "_law_atimes" Cf rP vv)
  (aaW:mg "_law_aless"=some (.ref rQ))
  (wO:ay K "_law_aless" Ci rQ vw)
  (aaX:mg "_law_aover"=some (.ref rR))
  (wQ:ay K "_law_aover" Cj rR vx)
  (aaY:mg "_law_aworld"=some (.ref rV))
  (wR:ay K "_law_aworld" Ck rV vy)
  (aaZ:mg "_law_asome"=some (.ref rW))
  (m_:ay K "_law_asome" Cm rW vz)
  (aa0:mg "_law_anought"=some (.ref rX))
  (jK:ay K "_law_anought" Cn rX vA)
  (aa1:mg "_law_atable"=some (.ref rY))
  (wU:ay K "_law_atable" Co rY vB)
  (aa2:mg "_law_alinks"=some (.ref rZ))
  (wV:ay K "_law_alinks" Cp rZ vC)
  (aa3:mg "_law_aorder"=some (.ref r6))
  (wW:ay K "_law_aorder" Cq r6 vD)
  (aa4:mg "_law_arow"=some (.ref r9))
  (wX:ay K "_law_arow" Cr r9 vE)
  (aa5:mg "_law_acarried"=some (.ref r_))
  (tj:ay K "_law_acarried" Cs r_ vF)
  (aa6:mg "_law_atied"=some (.ref sk))
  (wY:ay K "_law_atied" Ct sk vG)
  (aa7:mg "_law_afirst_tied"=some (.ref sq))
  (wZ:ay K "_law_afirst_tied" Cu sq vH)
  (aa8:mg "_law_ashape"=some (.ref sv))
  (w5:ay K "_law_ashape" Cv sv vI)
  (aa9:mg "_law_alater"=some (.ref sA))
  (w9:ay K "_law_alater" Cw sA vJ)
  (aa_:mg "_law_adeeds"=some (.ref sC))
  (w_:ay K "_law_adeeds" Cy sC vK)
  (aba:mg "_law_awhole"=some (.ref sD))
  (l7:ay K "_law_awhole" Cz sD vL)
  (abb:mg "_law_ais_number"=some (.ref sE))
  (xc:ay K "_law_ais_number" CA sE vM)
  (abc:mg "_law_ais_row"=some (.ref sF))
  (tu:ay K "_law_ais_row" CB sF vN)
  (abd:mg "_law_apiece"=some (.ref sG))
  (xf:ay K "_law_apiece" CD sG vO)
  (abe:mg "_law_aright"=some (.ref sI))
  (tD:ay K "_law_aright" CF sI vP)
  (abf:mg "law"=some (.ref oV))
  (xg:ay K "law" CG oV sJ)
  (CP:Mk K bF sM)
  (yZ:eE K "__init__" "World.__init__" CH sM vQ)
  (HP:PySem.W.findIn K (.ref bF) "of"=some (some (.ref m5)))
  (HQ:PySem.W.isFn K (.ref m5)=true)
  (xy:K.lookup m5=some ⟨aab,Z_,.func (PySem.W.fnOf "of" "World.of" (jx kf) (gs kf) (aM kf) (.ref HI) OT OU OV OS HH OW),aaa⟩)
  (xA:PySem.W.codeIn K HH "World.of"=true)
  (tR:PySem.W.keepIn K (.ref m5)=true)
  (xB:K.lookup HI=some ⟨aad,aae,.seq #[.int 1 aac] aaf,aag⟩)
  (Gk:Meth K bF "plus" vR)
  (CS:eE K "plus" "World.plus" FQ vR yU)
  (xh:Meth K bF "minus" sN)
  (y4:eE K "minus" "World.minus" CI sN vS)
  (xi:Meth K bF "times" sO)
  (y6:eE K "times" "World.times" CJ sO vT)
  (y8:Meth K bF "over" sP)
  (y7:eE K "over" "World.over" CK sP vU)
  (HR:PySem.W.plainGet K bF Str.empty=true)
  (HS:PySem.W.hasDictIn K bF=true)
  (HU:PySem.W.plainOver K bF=true)
  (HV:PySem.W.findIn K (.ref bF) "__setattr__"=some (some (.builtin "object.__setattr__")))
  (HW:PySem.W.findIn K (.ref bF) "prime"=some none)
  (HX:PySem.W.nsIn K mainGlobals "ValueError"=some none)
  (HY:PySem.W.nsIn K mainGlobals "abs"=some none)
  (HZ:PySem.W.nsIn K mainGlobals "all"=some none)
  (H_:PySem.W.nsIn K mainGlobals "any"=some none)
  (Ia:PySem.W.nsIn K mainGlobals "bool"=some none)
  (Ib:PySem.W.nsIn K mainGlobals "enumerate"=some none)
  (Ic:PySem.W.nsIn K mainGlobals "int"=some none)
  (Ie:PySem.W.nsIn K mainGlobals "isinstance"=some none)
  (Ig:PySem.W.nsIn K mainGlobals "len"=some none)
  (Ih:PySem.W.nsIn K mainGlobals "list"=some none)
  (Ii:PySem.W.nsIn K mainGlobals "max"=some none)
  (Ij:PySem.W.nsIn K mainGlobals "min"=some none)
  (Ik:PySem.W.nsIn K mainGlobals "range"=some none)
  (Il:PySem.W.nsIn K mainGlobals "reversed"=some none)
  (Im:PySem.W.nsIn K mainGlobals "sorted"=some none)
  (Io:PySem.W.nsIn K mainGlobals "sum"=some none)
  (Ip:PySem.W.nsIn K mainGlobals "tuple"=some none)
  (Iq:PySem.W.nsIn K mainGlobals "zip"=some none)
  (Ir:PySem.W.nsIn K mainGlobals "GREATEST_PRIME"=some (some (.int 997 aah)))
  (Iu:PySem.W.nsIn K mainGlobals "LONG"=some (some (.int 2048 aai)))
  (Iv:PySem.W.excIn K sQ [.type "ValueError",.type "Exception",.type "BaseException",.type "object"] "ValueError.__new__"=true)
  (Iw:PySem.W.excIn K i7 [.type "ValueError",.type "Exception",.type "BaseException",.type "object"] "ValueError.__new__"=true)
  (Iz:PySem.W.excIn K l4 [.type "ValueError",.type "Exception",.type "BaseException",.type "object"] "ValueError.__new__"=true)
  (IA:PySem.W.excIn K m6 [.type "ValueError",.type "Exception",.type "BaseException",.type "object"] "ValueError.__new__"=true)
  : ∃t:FR,Txt K mg t:=by
 refine ⟨⟨qI,uM,qJ,uN,qK,uO,qL,uP,uQ,yS,qM,uR,qN,uS,qO,uT,qP,uU,qQ,uV,qS,uW,qT,uX,qU,uY,qV,uZ,qW,u0,qX,u3,qY,u4,qZ,u5,q5,u6,q8,u7,q_,u9,rf,u_,rj,va,rl,vb,rn,vc,rq,vd,rz,ve,rA,vg,rB,vh,rD,vi,rE,vj,rF,vk,rH,vm,rJ,vn,rK,vo,rM,vp,rN,vq,rO,vt,rP,vv,rQ,vw,rR,vx,rV,vy,rW,vz,rX,vA,rY,vB,rZ,vC,r6,vD,r9,vE,r_,vF,sk,vG,sq,vH,sv,vI,sA,vJ,sC,vK,sD,vL,sE,vM,sF,vN,sG,vO,sI,vP,oV,sJ,sM,vQ,m5,PySem.W.fnOf "of" "World.of" (jx kf) (gs kf) (aM kf) (.ref HI) OT OU OV OS HH OW,vR,yU,sN,vS,sO,vT,sP,vU,bF,sQ,i7,l4,m6⟩,?_⟩
 exact {
  vV:=vV
  LS:=vV.bC
  LU:=aaj
  vW:=vW
  LV:=vW.bC
  LW:=aak
  vX:=vX
  LX:=vX.bC
  LY:=aal
  sR:=sR
  FT:=sR.bC
  FU:=aam
  CM:=CM
  Wj:=CM.bC
  Wl:=aan
  l6:=l6
  vY:=l6.bC
  vZ:=aao
  v_:=v_
  LZ:=v_.bC
  L0:=aap
  wc:=wc
  L3:=wc.bC
  L4:=aaq
  we:=we
  L5:=we.bC
  L6:=aar
  wg:=wg
  L7:=wg.bC
  L8:=aas
  wm:=wm
  L9:=wm.bC
  L_:=aat
  wo:=wo
  Ma:=wo.bC
  Mb:=aau
  wq:=wq
  Mc:=wq.bC
  Md:=aav
  wu:=wu
  Me:=wu.bC
  Mf:=aaw
  wx:=wx
  Mg:=wx.bC
  Mh:=aax
  wz:=wz
  Mi:=wz.bC
  Mj:=aay
  wA:=wA
  Ml:=wA.bC
  Mm:=aaz
  wB:=wB
  Mn:=wB.bC
  Mo:=aaA
  wC:=wC
  Mp:=wC.bC
  Mq:=aaB
  sS:=sS
  FV:=sS.bC
  FW:=aaC
  wD:=wD
  Mr:=wD.bC
  Ms:=aaD
  sX:=sX
  FX:=sX.bC
  FY:=aaE
  wF:=wF
  Mt:=wF.bC
  Mu:=aaF
  wG:=wG
  Mv:=wG.bC
  Mw:=aaG
  wH:=wH
  Mx:=wH.bC
  Mz:=aaH
  oW:=oW
  CN:=oW.bC
  CO:=aaI
  wI:=wI
  MA:=wI.bC
  MB:=aaJ
  wJ:=wJ
  MC:=wJ.bC
  MD:=aaK
  sY:=sY
  FZ:=sY.bC
  F0:=aaL
  wK:=wK
  ME:=wK.bC
  MF:=aaM
  wL:=wL
  MG:=wL.bC
  MH:=aaN
  wM:=wM
  MI:=wM.bC
  MJ:=aaO
  m7:=m7
  yV:=m7.bC
  yW:=aaP
  gN:=gN
  jH:=gN.bC
  jI:=aaQ
  sZ:=sZ
  F8:=sZ.bC
  F9:=aaR
  s_:=s_
  F_:=s_.bC
  Ga:=aaS
  jJ:=jJ
  m8:=jJ.bC
  m9:=aaT
  wN:=wN
  MK:=wN.bC
  ML:=aaU
  tf:=tf
  Gb:=tf.bC
  Gd:=aaV
  wO:=wO
  MM:=wO.bC
  MN:=aaW
  wQ:=wQ
  MO:=wQ.bC
  MP:=aaX
  wR:=wR
  MQ:=wR.bC
  MR:=aaY
  m_:=m_
  yX:=m_.bC
  yY:=aaZ
  jK:=jK
  ng:=jK.bC
  ni:=aa0
  wU:=wU
  MS:=wU.bC
  MT:=aa1
  wV:=wV
  MU:=wV.bC
  MV:=aa2
  wW:=wW
  MW:=wW.bC
  MX:=aa3
  wX:=wX
  MY:=wX.bC
  MZ:=aa4
  tj:=tj
  Ge:=tj.bC
  Gf:=aa5
  wY:=wY
  M0:=wY.bC
  M1:=aa6
  wZ:=wZ
  M3:=wZ.bC
  M4:=aa7
  w5:=w5
  M5:=w5.bC
  M6:=aa8
  w9:=w9
  M7:=w9.bC
  M8:=aa9
  w_:=w_
  M9:=w_.bC
  M_:=aa_
  l7:=l7
  xa:=l7.bC
  xb:=aba
  xc:=xc
  Na:=xc.bC
  Nb:=abb
  tu:=tu
  Gg:=tu.bC
  Gh:=abc
  xf:=xf
  Nc:=xf.bC
  Nd:=abd
  tD:=tD
  Gi:=tD.bC
  Gj:=abe
  xg:=xg
  Wm:=xg.bC
  Nf:=abf
  yZ:=yZ
  Ng:=yZ.bC
  CP:=CP
  Nh:=(A3 (st:=kf) (i:=1) xy xA tR xB)
  Wn:=jA.binds (ps:=["self","top","bottom"]) (A3 (st:=kf) (i:=1) xy xA tR xB) fun s dT kV doc pm an bf ct tk o n us ho hd hl=>match us,hl with | [_,_,_],_=>.of_defaults rfl ho hd rfl rfl
  CQ:=jA.Sl (ps:=["self","top","bottom"]) (A3 (st:=kf) (i:=1) xy xA tR xB) fun s dT kV doc pm an bf ct tk o n us ho hd hl=>match us,hl with | [_,_],_=>.of_defaults rfl ho hd rfl rfl
  Wo:=jA.Sm (ps:=["self","top","bottom"]) (y:="bottom") (A3 (st:=kf) (i:=1) xy xA tR xB) fun s dT kV doc pm an bf ct tk o n us ws ho hd hw hl=>match ws,us,hw,hl with | [_],[_,_],_,_=>.of_defaults rfl ho hd rfl rfl
  y3:=⟨HP,HQ,tR⟩
  CS:=CS
  Wq:=CS.bC
  Gk:=Gk
  y4:=y4
  CT:=y4.bC
  xh:=xh
  y6:=y6
  CU:=y6.bC
  xi:=xi
  y7:=y7
  Gm:=y7.bC
  y8:=y8
  d_:=⟨HR,HS,HU,HV⟩
  Ni:=bw X G HJ
  jL:=HW
  Nj:=bw X G HK
  CV:=bw X G HL
  CW:=bw X G HM
  Nk:=bw X G HN
  Wr:=gi X G HX
  CY:=gi X G HY
  Nl:=gi X G HZ
  Nm:=gi X G H_
  Gn:=gi X G Ia
  Gp:=gi X G Ib
  xj:=gi X G Ic
  kW:=gi X G Ie
  dH:=gi X G Ig
  i8:=gi X G Ih
  Nn:=gi X G Ii
  Np:=gi X G Ij
  eA:=gi X G Ik
  Nq:=gi X G Il
  CZ:=gi X G Im
  Gq:=gi X G Io
  xk:=gi X G Ip
  Ws:=gi X G Iq
  Nr:=⟨_,bw X G Ir,_,rfl⟩
  Nt:=⟨_,bw X G Iu,_,rfl⟩
  Nu:=Iv
  C0:=Iw
  C1:=Iz
  Nv:=IA
 }
end My
namespace PySem.W.Fast
def tw5911329351197060018:Unit:=()
def tw6676729695034921142:Unit:=()
def tw738274530213900700:Unit:=()
def tw2383978987200572962:Unit:=()
def tw2636508481172088150:Unit:=()
def tw17149158213183762636:Unit:=()
def tw15481361863733763277:Unit:=()
def tw1332658676804253574:Unit:=()
def tw15836402609506071890:Unit:=()
def tw7375376316362189101:Unit:=()
def tw13026669720022266249:Unit:=()
def tw15952855033261080144:Unit:=()
def tw16796222661888517672:Unit:=()
def tw3434066166041076358:Unit:=()
def tw4134792136549547098:Unit:=()
def tw8217736484108178815:Unit:=()
def tw4812756641645797530:Unit:=()
def tw7281348808490195942:Unit:=()
def tw6047300657462852464:Unit:=()
def tw1843783778771290351:Unit:=()
def tw10102219180815932905:Unit:=()
def tw17714298706958316717:Unit:=()
def tw6090869648156876973:Unit:=()
def tw3342254610610662884:Unit:=()
def tw7202774806276181855:Unit:=()
def tw878963334433980942:Unit:=()
def tw9375986864646818228:Unit:=()
def tw8463741271467319741:Unit:=()
def tw10523915604106680619:Unit:=()
def tw17709481911840088124:Unit:=()
def tw1696725223935289108:Unit:=()
def tw10673170556709749790:Unit:=()
def tw4319109360681986831:Unit:=()
def tw6663055668927034819:Unit:=()
def tw1515043543683509043:Unit:=()
def tw3056835471384554210:Unit:=()
def tw14636300949048239297:Unit:=()
def tw12969837805139690065:Unit:=()
def tw14258669659309607272:Unit:=()
def tw13827855067730289469:Unit:=()
def tw9953735954679597871:Unit:=()
def tw3675965860194251170:Unit:=()
def tw6123880445419215196:Unit:=()
def tw11670594589355703451:Unit:=()
def tw662854995288943904:Unit:=()
def tw10278015697510535509:Unit:=()
def tw12308123020239521411:Unit:=()
def tw3649851835311393410:Unit:=()
def tw4692785718021190718:Unit:=()
def tw14128796946295494306:Unit:=()
def tw11746638776369785090:Unit:=()
def tw9522061975514310743:Unit:=()
def tw17677047271524122332:Unit:=()
def tw13186310261596061611:Unit:=()
def tw7049286553264298886:Unit:=()
def tw8942362693547583043:Unit:=()
def tw6237127823628148462:Unit:=()
def tw11920463345465603446:Unit:=()
def tw9578975661171407891:Unit:=()
def tw2455472064466564723:Unit:=()
def tw12490730724683905309:Unit:=()
def tw12903648736929532425:Unit:=()
def tw17474008048291724743:Unit:=()
def tw9803007362522866983:Unit:=()
def tw7240266531399759897:Unit:=()
def tw14814208222352733597:Unit:=()
def tw14982028010370710620:Unit:=()
def tw4860247590977802219:Unit:=()
def tw9924930170080221314:Unit:=()
def tw17096142811507311805:Unit:=()
def tw2424720692625904547:Unit:=()
def tw4173228423928524255:Unit:=()
def tw3809692944651315255:Unit:=()
def tw10394979195476575594:Unit:=()
def tw7978505891269141500:Unit:=()
def tw1689821051225991365:Unit:=()
def tw16845952766469554638:Unit:=()
def tw8909874564496903844:Unit:=()
def tw14201585489904638722:Unit:=()
def tw4799138108768062152:Unit:=()
def tw11070472787130547518:Unit:=()
def tw4927485601350136898:Unit:=()
def tw12813262308913747721:Unit:=()
def tw14228747507377913052:Unit:=()
def tw15079244115486948676:Unit:=()
def tw7128040261580838837:Unit:=()
def tw15682499012978773552:Unit:=()
def tw2487452357435273041:Unit:=()
def tw9989463868648871775:Unit:=()
def tw6252551758682816937:Unit:=()
def tw6874353210371175480:Unit:=()
def tw2486127702468379520:Unit:=()
def tw4989904350931390574:Unit:=()
def tw3544296730805231835:Unit:=()
def tw7805482077433558389:Unit:=()
def tw4675876430743376532:Unit:=()
def tw5647072712934297096:Unit:=()
def tw15385629570546957969:Unit:=()
def tw14855921046193244011:Unit:=()
def tw4937472946207463608:Unit:=()
def tw13546263712358745006:Unit:=()
def tw12782321629843567191:Unit:=()
def tw7036996064181231015:Unit:=()
def tw22471352599249779:Unit:=()
def tw9790889493365882712:Unit:=()
def tw12426856537890330657:Unit:=()
def tw10562117684511101261:Unit:=()
def tw6478505655393870091:Unit:=()
def tw10132552456988182486:Unit:=()
def tw10749390555831229212:Unit:=()
def tw2180348273410999133:Unit:=()
def tw1048982726492906987:Unit:=()
def tw11339156254240104122:Unit:=()
def tw18414559678439419595:Unit:=()
def tw17233924990925629209:Unit:=()
def tw6696596531316186021:Unit:=()
def tw18301349439958265075:Unit:=()
def tw5234567234325773636:Unit:=()
def tw10157990640864657397:Unit:=()
def tw4663526457335608681:Unit:=()
def tw7133711437237323588:Unit:=()
def tw1469071439367407049:Unit:=()
def tw9303982441734516808:Unit:=()
def tw16059929428759867694:Unit:=()
def tw17707288713266352452:Unit:=()
def tw8480279407915479735:Unit:=()
def tw11703646516650485349:Unit:=()
def tw6065269331913343331:Unit:=()
def tw4457551671304632208:Unit:=()
def tw10119177742821036621:Unit:=()
def tw14029592976715964542:Unit:=()
def tw11480012495561828201:Unit:=()
def tw2068145664751439162:Unit:=()
def tw18382162969603593108:Unit:=()
def tw16651070970456131291:Unit:=()
def tw14180799200947493830:Unit:=()
def tw10899539339992313002:Unit:=()
def tw7506666649077358723:Unit:=()
def tw999765509909803681:Unit:=()
def tw256745594128657433:Unit:=()
def tw1950863035761716001:Unit:=()
def tw16218367883564577729:Unit:=()
def tw5408558853416482516:Unit:=()
def tw14329468059026424095:Unit:=()
def tw5250450913741985367:Unit:=()
def tw4370421239108589938:Unit:=()
def tw15008331106371396530:Unit:=()
def tw5019798983150117125:Unit:=()
def tw6165859445668337028:Unit:=()
def tw17166164198476750822:Unit:=()
def tw4494098216518846310:Unit:=()
def tw12707420585478089625:Unit:=()
def tw17344477157820345776:Unit:=()
def tw8106433695339047998:Unit:=()
def tw5921216888384545560:Unit:=()
def tw6637014941769173021:Unit:=()
def tw13096980852792395002:Unit:=()
def tw12939301649879402281:Unit:=()
def tw4390596472464293388:Unit:=()
def tw1533724942395735891:Unit:=()
def tw12547110861343845041:Unit:=()
def tw15159381999901126057:Unit:=()
def tw59561272430302051:Unit:=()
def tw5765137906368997459:Unit:=()
def tw2777686113999857203:Unit:=()
def tw9691409910050877845:Unit:=()
def tw11675640910257479697:Unit:=()
def tw6003140607930348526:Unit:=()
def tw4239598391875965914:Unit:=()
def tw18222423567794954626:Unit:=()
def tw18102874484251684462:Unit:=()
def tw5982921474788178025:Unit:=()
def tw15905090539879988689:Unit:=()
def tw13306441075439701686:Unit:=()
def tw3432525103335130573:Unit:=()
def tw15368451128951338652:Unit:=()
def tw10390786107785453608:Unit:=()
def tw400183392620653692:Unit:=()
def tw14410655645414870418:Unit:=()
def tw7896536448223812298:Unit:=()
def tw4786838918062731851:Unit:=()
def tw2960918165556939466:Unit:=()
def tw15567203322011375107:Unit:=()
def tw15269847979412993258:Unit:=()
def tw12047565411371151231:Unit:=()
def tw13251986596068113565:Unit:=()
def tw12400926038735737195:Unit:=()
def tw4092246391944634674:Unit:=()
def tw2144853256450645966:Unit:=()
def tw12404309524696632190:Unit:=()
def tw9390578062896447210:Unit:=()
def tw14100999875753480643:Unit:=()
def tw13262293476554229021:Unit:=()
def tw4818213276830515184:Unit:=()
def tw8564485610496982630:Unit:=()
def tw12102452826361704278:Unit:=()
def tw2604563546970507671:Unit:=()
def tw2377185359826550639:Unit:=()
def tw4996179703700952795:Unit:=()
def tw13890475292432351304:Unit:=()
def tw11627343283752542807:Unit:=()
def tw10722168630347950128:Unit:=()
def tw4520076659118002852:Unit:=()
def tw3483174418104735799:Unit:=()
def tw15128787357090162075:Unit:=()
def tw1048309018870117091:Unit:=()
def tw4991738150592921603:Unit:=()
def tw14180699792274881209:Unit:=()
def tw17322868373997171351:Unit:=()
def tw5972432893053341568:Unit:=()
def tw16124783521725944215:Unit:=()
def tw15337869117836446295:Unit:=()
def tw6891141438484414969:Unit:=()
def tw15626959004517764049:Unit:=()
def tw8328577925358972747:Unit:=()
def tw15952491966376309086:Unit:=()
def tw7186333851892125450:Unit:=()
def tw17182891045843302885:Unit:=()
def tw8890779665504923383:Unit:=()
def tw15326111078209481199:Unit:=()
def tw1689163209761609284:Unit:=()
def tw7523919369192783599:Unit:=()
def tw11594627755339352043:Unit:=()
def tw446063039696700587:Unit:=()
def tw9106063083119042266:Unit:=()
def tw7555408345161860562:Unit:=()
def tw2510487307068225770:Unit:=()
def tw1454528171953747211:Unit:=()
def tw14462797903210386198:Unit:=()
def tw17627090409953781739:Unit:=()
def tw11335846566491787851:Unit:=()
def tw11720210742506717229:Unit:=()
def tw8210292720552941803:Unit:=()
def tw6221869640136567153:Unit:=()
def tw2609297771667804976:Unit:=()
def tw958952448851747247:Unit:=()
def tw13508097312886488207:Unit:=()
def tw781024627396998113:Unit:=()
def tw1865116551334658252:Unit:=()
def tw5790135144325860459:Unit:=()
def tw11628705105971036831:Unit:=()
def tw11849775088195660360:Unit:=()
def tw16486503848148856587:Unit:=()
def tw11620221511465556880:Unit:=()
def tw6059085273260073778:Unit:=()
def tw4410493228039632455:Unit:=()
def tw17080107663171110170:Unit:=()
def tw16758240709677249517:Unit:=()
def tw10537233881543976183:Unit:=()
def tw9850526399158057477:Unit:=()
def tw14529302729617418080:Unit:=()
def tw3169099960145015653:Unit:=()
def tw5763562437042014173:Unit:=()
def tw3530702534175677398:Unit:=()
def tw9964602787614525527:Unit:=()
def tw10824318524748949462:Unit:=()
def tw3628473551474151267:Unit:=()
def tw8684230477688483227:Unit:=()
def tw10776891699173156796:Unit:=()
def tw2008810712853359886:Unit:=()
def tw4994698979548022515:Unit:=()
def tw14178982028872409850:Unit:=()
def tw3353837626938619080:Unit:=()
def tw6602957035276214681:Unit:=()
def tw9154361674465657688:Unit:=()
def tw12042128750733056553:Unit:=()
def tw7833368960733325190:Unit:=()
def tw7584478258426134944:Unit:=()
def tw6242159600950124355:Unit:=()
def tw18014045694506024531:Unit:=()
def tw6809522867360923544:Unit:=()
def tw10946908259930754062:Unit:=()
def tw11047000399996011162:Unit:=()
def tw14192004769460131071:Unit:=()
def tw3881870306515594392:Unit:=()
def tw4691016810484386036:Unit:=()
def tw18335422987148486380:Unit:=()
def tw16582011166190339700:Unit:=()
def tw7390325289557104873:Unit:=()
def tw15354044163802914993:Unit:=()
def tw17476344230602706972:Unit:=()
def tw6047798192815312630:Unit:=()
def tw14008278522296679022:Unit:=()
def tw7072088411781980455:Unit:=()
def tw16661788825707616654:Unit:=()
def tw274847128753699742:Unit:=()
def tw11940966539295787670:Unit:=()
def tw5020917653890640472:Unit:=()
def tw10955753245128583922:Unit:=()
def tw2348137573482523826:Unit:=()
def tw4023684984409504236:Unit:=()
def tw6337345303698942841:Unit:=()
def tw16494361600110538393:Unit:=()
def tw3709969537075990082:Unit:=()
def tw8056985139804245783:Unit:=()
def tw1282084960683857907:Unit:=()
def tw6990454351412599774:Unit:=()
def tw12393845183873926957:Unit:=()
def tw8325768389666332643:Unit:=()
def tw9358731312245213600:Unit:=()
def tw13452000529054467912:Unit:=()
def tw9176631527538270523:Unit:=()
def tw7692321624282848008:Unit:=()
def tw5315378758802521974:Unit:=()
def tw11307976227832828339:Unit:=()
def tw13306159005295929779:Unit:=()
def tw12232699745578556301:Unit:=()
def tw5399541641564437889:Unit:=()
def tw14153799155922008952:Unit:=()
def tw7509741658905584102:Unit:=()
def tw16075789427858131576:Unit:=()
def tw3149390664395704979:Unit:=()
def tw7270762860750525661:Unit:=()
def tw16170286489981487319:Unit:=()
def tw10512657596450879995:Unit:=()
def tw6433642551289122397:Unit:=()
def tw7592987285477637108:Unit:=()
def tw15917291102065929363:Unit:=()
def tw3590647103777365517:Unit:=()
def tw7744846387594651673:Unit:=()
def tw14099300355578760841:Unit:=()
def tw5688193150024414773:Unit:=()
def tw822264937664913687:Unit:=()
def tw12028891373714239233:Unit:=()
def tw5116203007334141163:Unit:=()
def tw2774913088771078390:Unit:=()
def tw1282688289996861420:Unit:=()
def tw2714019731828665373:Unit:=()
def tw14798322131809134247:Unit:=()
def tw11030073100787618625:Unit:=()
def tw185999137632095433:Unit:=()
def tw14082454805142738330:Unit:=()
def tw13336337337194961365:Unit:=()
def tw501857603855092757:Unit:=()
def tw16033109620303545311:Unit:=()
def tw3134632813793467648:Unit:=()
def tw6842701838730596510:Unit:=()
def tw13553789940857535994:Unit:=()
def tw18072179953697992589:Unit:=()
def tw6717698645797964300:Unit:=()
def tw11520115521133592059:Unit:=()
def tw14610913023498093608:Unit:=()
def tw2235073664643770688:Unit:=()
def tw2323262226511882098:Unit:=()
def tw10538908196721666462:Unit:=()
def tw2907560711205844380:Unit:=()
def tw6085449482866533274:Unit:=()
def tw9765883885169960290:Unit:=()
def tw4721189211067684150:Unit:=()
def tw17406665424901549405:Unit:=()
def tw8550805043513159590:Unit:=()
def tw9398104668627342854:Unit:=()
def tw12016839642574361418:Unit:=()
def tw12180913801338831764:Unit:=()
def tw9205492253066888630:Unit:=()
def tw16139219913105047755:Unit:=()
def tw4873697804552635587:Unit:=()
def tw8493173235137012111:Unit:=()
def tw11735768143355757109:Unit:=()
def tw9909553400292255391:Unit:=()
end PySem.W.Fast
open PySem PySem.W PyProof.Rows
set_option maxRecDepth 100000 in
set_option maxHeartbeats 0 in
theorem PySem.Challenge.cw_bandwright_k35_along_one_or_stops_holds : PySem.Challenge.rw_bandwright_k35_along_one_or_stops.Holds := by
 w_on;o_law;k_head;(case hw=>w_witness2)
 k_fill
 refine My.walk (l:=PySem.Challenge.rw_bandwright_k35_along_one_or_stops) rfl rfl (fun w h Y=>PySem.W.kIn_of Y) ?F
 case F=>
  intro w mg fa h KX G yd
  have T:∃t,My.Txt (L2.JU KX) mg t:=by
   dsimp only [L2.JU]
   refine' My.Z9 KX G ?HJ ?HK ?HL ?HM ?HN (bw KX G ?abg) (L2.bD (st:=My.BE) ?abh ?abi ?abj) (bw KX G ?abk) (L2.bD (st:=My.BF) ?abl ?abm ?abn) (bw KX G ?abo) (L2.bD (st:=My.BG) ?abp ?abq ?abr) (bw KX G ?abt) (L2.bD (st:=My.BH) ?abu ?abv ?abw) (bw KX G ?abx) (L2.bD (st:=My.FP) ?aby ?abz ?abA) (bw KX G ?abB) (L2.bD (st:=My.BI) ?abC ?abD ?abE) (bw KX G ?abF) (L2.bD (st:=My.BJ) ?abG ?abH ?abI) (bw KX G ?abJ) (L2.bD (st:=My.BK) ?abK ?abL ?abM) (bw KX G ?abN) (L2.bD (st:=My.BL) ?abO ?abP ?abQ) (bw KX G ?abR) (L2.bD (st:=My.BM) ?abS ?abT ?abU) (bw KX G ?abV) (L2.bD (st:=My.BN) ?abW ?abX ?abY) (bw KX G ?abZ) (L2.bD (st:=My.BO) ?ab0 ?ab1 ?ab2) (bw KX G ?ab3) (L2.bD (st:=My.BP) ?ab4 ?ab5 ?ab6) (bw KX G ?ab7) (L2.bD (st:=My.BQ) ?ab8 ?ab9 ?ab_) (bw KX G ?acd) (L2.bD (st:=My.BR) ?ace ?acf ?acg) (bw KX G ?ach) (L2.bD (st:=My.BS) ?aci ?acj ?ack) (bw KX G ?acm) (L2.bD (st:=My.BU) ?acn ?aco ?acp) (bw KX G ?acq) (L2.bD (st:=My.BV) ?acr ?acs ?acu) (bw KX G ?acv) (L2.bD (st:=My.BW) ?acw ?acy ?acz) (bw KX G ?acA) (L2.bD (st:=My.BX) ?acB ?acC ?acD) (bw KX G ?acE) (L2.bD (st:=My.BY) ?acF ?acG ?acH) (bw KX G ?acI) (L2.bD (st:=My.BZ) ?acJ ?acK ?acL) (bw KX G ?acM) (L2.bD (st:=My.B0) ?acN ?acO ?acP) (bw KX G ?acQ) (L2.bD (st:=My.B1) ?acR ?acS ?acT) (bw KX G ?acU) (L2.bD (st:=My.B2) ?acV ?acW ?acX) (bw KX G ?acY) (L2.bD (st:=My.B3) ?acZ ?ac0 ?ac1) (bw KX G ?ac2) (L2.bD (st:=My.B4) ?ac3 ?ac4 ?ac5) (bw KX G ?ac6) (L2.bD (st:=My.B5) ?ac7 ?ac8 ?ac9) (bw KX G ?ac_) (L2.bD (st:=My.B6) ?ada ?adb ?ade) (bw KX G ?adf) (L2.bD (st:=My.B7) ?adg ?adh ?adi) (bw KX G ?adk) (L2.bD (st:=My.B8) ?adl ?adm ?adn) (bw KX G ?ado) (L2.bD (st:=My.B9) ?adp ?adq ?ads) (bw KX G ?adt) (L2.bD (st:=My.B_) ?adu ?adv ?adw) (bw KX G ?adx) (L2.bD (st:=My.Ca) ?ady ?adz ?adA) (bw KX G ?adB) (L2.bD (st:=My.Cb) ?adC ?adD ?adE) (bw KX G ?adF) (L2.bD (st:=My.Cc) ?adG ?adH ?adI) (bw KX G ?adJ) (L2.bD (st:=My.Cd) ?adK ?adL ?adM) (bw KX G ?adN) (L2.bD (st:=My.Ce) ?adO ?adP ?adQ) (bw KX G ?adR) (L2.bD (st:=My.Cf) ?adS ?adT ?adU) (bw KX G ?adV) (L2.bD (st:=My.Ci) ?adW ?adX ?adY) (bw KX G ?adZ) (L2.bD (st:=My.Cj) ?ad0 ?ad1 ?ad2) (bw KX G ?ad3) (L2.bD (st:=My.Ck) ?ad4 ?ad5 ?ad6) (bw KX G ?ad7) (L2.bD (st:=My.Cm) ?ad8 ?ad9 ?ad_) (bw KX G ?aea) (L2.bD (st:=My.Cn) ?aeb ?aec ?aed) (bw KX G ?aee) (L2.bD (st:=My.Co) ?aef ?aeg ?aeh) (bw KX G ?aei) (L2.bD (st:=My.Cp) ?aej ?aek ?ael) (bw KX G ?aem) (L2.bD (st:=My.Cq) ?aen ?aeo ?aep) (bw KX G ?aeq) (L2.bD (st:=My.Cr) ?aer ?aes ?aet) (bw KX G ?aeu) (L2.bD (st:=My.Cs) ?aev ?aew ?aex) (bw KX G ?aey) (L2.bD (st:=My.Ct) ?aez ?aeA ?aeB) (bw KX G ?aeC) (L2.bD (st:=My.Cu) ?aeD ?aeE ?aeF) (bw KX G ?aeG) (L2.bD (st:=My.Cv) ?aeH ?aeI ?aeJ) (bw KX G ?aeK) (L2.bD (st:=My.Cw) ?aeL ?aeM ?aeN) (bw KX G ?aeO) (L2.bD (st:=My.Cy) ?aeP ?aeQ ?aeR) (bw KX G ?aeS) (L2.bD (st:=My.Cz) ?aeT ?aeU ?aeV) (bw KX G ?aeW) (L2.bD (st:=My.CA) ?aeX ?aeY ?aeZ) (bw KX G ?ae0) (L2.bD (st:=My.CB) ?ae1 ?ae2 ?ae3) (bw KX G ?ae4) (L2.bD (st:=My.CD) ?ae5 ?ae6 ?ae7) (bw KX G ?ae8) (L2.bD (st:=My.CF) ?ae9 ?ae_ ?afa) (bw KX G ?afb) (L2.bD (st:=My.CG) ?afc ?afd ?afe) ⟨?afg,?afh,?afi,?afj⟩ (L2.bD (st:=My.CH) ?afk ?afl ?afm) ?HP ?HQ ?xy ?xA ?tR ?xB ⟨?afn,?afo,?afp⟩ (L2.bD (st:=My.FQ) ?afq ?afr ?afs) ⟨?aft,?afu,?afv⟩ (L2.bD (st:=My.CI) ?afw ?afx ?afy) ⟨?afz,?afA,?afB⟩ (L2.bD (st:=My.CJ) ?afC ?afD ?afE) ⟨?afF,?afG,?afH⟩ (L2.bD (st:=My.CK) ?afI ?afJ ?afK) ?HR ?HS ?HU ?HV ?HW ?HX ?HY ?HZ ?H_ ?Ia ?Ib ?Ic ?Ie ?Ig ?Ih ?Ii ?Ij ?Ik ?Il ?Im ?Io ?Ip ?Iq ?Ir ?Iu ?Iv ?Iw ?Iz ?IA
   (case HJ|HK|HL|HM|HN|abg|abh|abi|abj|abk|abl|abm|abn|abo|abp|abq|abr|abt|abu|abv|abw|abx|aby|abz|abA|abB|abC|abD|abE|abF|abG|abH|abI|abJ|abK|abL|abM|abN|abO|abP|abQ|abR|abS|abT|abU|abV|abW|abX|abY|abZ|ab0|ab1|ab2|ab3|ab4|ab5|ab6|ab7|ab8|ab9|ab_|acd|ace|acf|acg|ach|aci|acj|ack|acm|acn|aco|acp|acq|acr|acs|acu|acv|acw|acy|acz|acA|acB|acC|acD|acE|acF|acG|acH|acI|acJ|acK|acL|acM|acN|acO|acP|acQ|acR|acS|acT|acU|acV|acW|acX|acY|acZ|ac0|ac1|ac2|ac3|ac4|ac5|ac6|ac7|ac8|ac9|ac_|ada|adb|ade|adf|adg|adh|adi|adk|adl|adm|adn|ado|adp|adq|ads|adt|adu|adv|adw|adx|ady|adz|adA|adB|adC|adD|adE|adF|adG|adH|adI|adJ|adK|adL|adM|adN|adO|adP|adQ|adR|adS|adT|adU|adV|adW|adX|adY|adZ|ad0|ad1|ad2|ad3|ad4|ad5|ad6|ad7|ad8|ad9|ad_|aea|aeb|aec|aed|aee|aef|aeg|aeh|aei|aej|aek|ael|aem|aen|aeo|aep|aeq|aer|aes|aet|aeu|aev|aew|aex|aey|aez|aeA|aeB|aeC|aeD|aeE|aeF|aeG|aeH|aeI|aeJ|aeK|aeL|aeM|aeN|aeO|aeP|aeQ|aeR|aeS|aeT|aeU|aeV|aeW|aeX|aeY|aeZ|ae0|ae1|ae2|ae3|ae4|ae5|ae6|ae7|ae8|ae9|ae_|afa|afb|afc|afd|afe|afg|afh|afi|afj|afk|afl|afm|HP|HQ|xy|xA|tR|xB|afn|afo|afp|afq|afr|afs|aft|afu|afv|afw|afx|afy|afz|afA|afB|afC|afD|afE|afF|afG|afH|afI|afJ|afK|HR|HS|HU|HV|HW|HX|HY|HZ|H_|Ia|Ib|Ic|Ie|Ig|Ih|Ii|Ij|Ik|Il|Im|Io|Ip|Iq|Ir|Iu=>k_is)
   (case Iv|Iw|Iz|IA=>k_exc)
  obtain ⟨t,T⟩:=T
  have e0:=yd.symm.trans T.Nf
  cases e0
  exact My.Z8 T
#print axioms PySem.Challenge.cw_bandwright_k35_along_one_or_stops_holds
