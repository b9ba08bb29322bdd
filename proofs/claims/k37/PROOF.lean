import PyProof.Rows.All
import Wide.All
import OpenK.AllK
import Wide.FinOn
import Lean
import PyProof.EqAt
import PyProof.EqKinds
import PyProof.TupleCall
import PySem.Challenge.RW_bandwright_k37_factors_of_a_table
set_option Elab.async false
set_option linter.all false
set_option maxRecDepth 100000
abbrev dc:=@decide_eq_false
abbrev mH:=@beq_eq_false_iff_ne
abbrev DK:=@List.getElem?_eq_none_iff
abbrev ar:=@if_pos
abbrev au:=@if_neg
abbrev bU:=@PySem.Heap.lt_size
abbrev dZ:=@Nat.lt_of_lt_of_le
abbrev gJ:=@Nat.lt_irrefl
abbrev d5:=@Nat.ne_of_lt
abbrev z8:=@PySem.W.hideAll_get
abbrev pS:=@List.mem_filter
abbrev e8:=@List.mem_range
abbrev aQ:=@Nat.le_trans
abbrev z9:=@List.filterMap_cons
abbrev hJ:=@List.mem_cons_self
abbrev e9:=@List.mem_cons_of_mem
abbrev dy:=@List.mem_cons
abbrev fG:=@List.mem_append
abbrev mI:=@List.mem_append_left
abbrev bZ:=@List.getElem?_eq_some_iff
abbrev bW:=@PySem.wpAny_mono
abbrev oq:=@PySem.wpAny_truthy_bool
abbrev hV:=@congrArg
abbrev z_:=@PySem.wpAny_execs_nil
abbrev Aa:=@PySem.wpAny_assign_Name
abbrev b7:=@PySem.wpAny_bind
abbrev tU:=@PySem.wpAny_standAt
abbrev dM:=@PySem.wpAny_pure
abbrev tV:=@PySem.wpAny_newObj_type
abbrev cz:=@PySem.Heap.get?_push_of_some
abbrev pU:=@PySem.wpAny_passesOwn
abbrev de:=@Bool.false_ne_true
abbrev gu:=@Int.mul_one
abbrev fH:=@PySem.Heap.get?_push_size
abbrev aN:=@Nat.le_refl
abbrev xT:=@PyProof.Rows.callWith_type1
abbrev cT:=@List.mem_append_right
abbrev cn:=@Nat.zero_le
abbrev ou:=@Bool.eq_iff_iff
abbrev kA:=@beq_iff_eq
abbrev e_:=@List.length_cons
abbrev Ab:=@PySem.W.looks_findIn
abbrev cX:=@List.map_cons
abbrev aX:=@List.length_map
abbrev i5:=@PySem.W.kia_one
abbrev tW:=@List.append_nil
abbrev Ac:=@PySem.wpAny_Call_Name_kw
abbrev mJ:=@Nat.le_succ
abbrev lG:=@List.nodup_cons
abbrev DL:=@Option.isSome_iff_exists
abbrev tX:=@List.length_take
abbrev jP:=@PySem.mem_of_lookup
abbrev ox:=@List.getElem?_append_right
abbrev oy:=@List.getElem?_append_left
abbrev cC:=@List.getElem?_map
abbrev xU:=@List.take_sublist
abbrev pV:=@List.mem_of_getElem?
abbrev fe:=@List.length_append
abbrev df:=@Int.toNat_natCast
abbrev xV:=@List.length_drop
abbrev cU:=@List.size_toArray
abbrev tY:=@List.all_cons
abbrev xW:=@Bool.and_eq_true
abbrev pW:=@List.any_cons
abbrev tZ:=@List.replicate_succ
abbrev xX:=@List.flatten_cons
abbrev xY:=@List.append_assoc
abbrev oz:=@PySem.call_meets
abbrev oA:=@List.length_singleton
abbrev cj:=@decide_eq_true
abbrev bg:=@PySem.W.mg_of
abbrev jQ:=@Nat.lt_of_le_of_lt
abbrev DM:=@PySem.F.typeOf_object_class
abbrev xZ:=@PySem.wpAny_loadPart_at
abbrev mK:=@Nat.not_lt_zero
abbrev DN:=@List.range_succ_eq_map
abbrev pX:=@List.all_eq_true
abbrev x4:=@Bool.false_or
abbrev Ad:=@List.forall_mem_nil
abbrev t6:=@List.forall_mem_cons
abbrev x5:=@PySem.wpAny_comprehension_free
abbrev Ae:=@PySem.wpAny_newFunctionEnv
abbrev DO:=@PySem.codeAny_compLoop_tests
abbrev jR:=@PySem.lookup_relabel_local
abbrev x8:=@PySem.wpAny_tests_nil
abbrev x9:=@PySem.wpAny_tests_one
abbrev x_:=@PySem.codeAny_compStart_list
abbrev ya:=@Int.ne_of_gt
abbrev i6:=@List.getD_eq_getElem?_getD
abbrev dA:=@List.mem_singleton
abbrev cN:=@List.length_range
abbrev i7:=@List.getElem?_range
abbrev Af:=@beq_self_eq_true
abbrev pY:=@Nat.gcd_pos_of_pos_right
abbrev lH:=@Int.natAbs_pos
abbrev yb:=@Int.natAbs_natCast
abbrev t8:=@Int.mul_le_mul_of_nonneg_left
abbrev h_:=@Int.mul_zero
abbrev kB:=@Int.gcd_dvd_left
abbrev jS:=@Int.gcd_dvd_right
abbrev dC:=@Int.natAbs_mul
abbrev kD:=@Int.dvd_trans
abbrev gW:=@Int.mul_ediv_cancel_left
abbrev dD:=@Int.mul_comm
abbrev oB:=@Int.mul_pos
abbrev kG:=@Int.mul_assoc
abbrev Ag:=@Int.mul_left_comm
abbrev Ah:=@Int.dvd_mul_left
abbrev DP:=@Int.natAbs_ediv_le_natAbs
abbrev yc:=@Int.natAbs_neg
abbrev i8:=@Int.dvd_refl
abbrev DQ:=@Int.emod_add_mul_ediv
abbrev fI:=@Int.emod_lt_of_pos
abbrev fg:=@Int.emod_nonneg
abbrev t9:=@Int.dvd_add
abbrev t_:=@Int.neg_mul
abbrev yd:=@Int.mul_emod
abbrev pZ:=@Int.emod_eq_of_lt
abbrev ua:=@Int.zero_sub
abbrev Ai:=@Int.fdiv_eq_ediv_of_dvd
abbrev lI:=@Int.mul_neg
abbrev DR:=@Int.eq_of_mul_eq_mul_right
abbrev DS:=@PySem.exec_Assign_Name_used
abbrev Aj:=@PySem.Around.in1_units
abbrev Ak:=@List.lookup_cons
abbrev eS:=@Int.zero_dvd
abbrev mL:=@Int.mul_eq_zero
abbrev DU:=@Int.dvd_of_emod_eq_zero
abbrev ub:=@List.not_mem_nil
abbrev ye:=@Nat.le_add_right
abbrev yf:=@Int.mul_ediv_add_emod
abbrev oC:=@Int.one_mul
abbrev gv:=@Int.zero_mul
abbrev eU:=@Int.zero_add
abbrev fJ:=@Nat.mul_le_mul
abbrev lJ:=@Int.sub_zero
abbrev p4:=@Classical.byContradiction
abbrev fK:=@List.ext_getElem
abbrev lK:=@List.range_succ
abbrev i9:=@List.map_append
abbrev iG:=@List.map_congr_left
abbrev DV:=@List.length_filter_le
abbrev i_:=@List.mem_map
abbrev Al:=@List.find?_cons
abbrev oE:=@decide_eq_true_iff
abbrev dN:=@of_decide_eq_true
abbrev ic:=@List.map_map
abbrev uc:=@List.nodup_append
abbrev Am:=@List.nodup_range
abbrev fh:=@List.getElem_map
abbrev gw:=@List.getElem_range
abbrev oF:=@List.take_length
abbrev p5:=@List.take_of_length_le
abbrev fj:=@List.getElem_mem
abbrev cY:=@List.getElem?_eq_getElem
abbrev ja:=@Int.dvd_zero
abbrev p6:=@Int.sub_self
abbrev dE:=@List.sum_cons
abbrev An:=@Int.dvd_mul_of_dvd_left
abbrev yg:=@List.getElem_of_mem
abbrev fL:=@dif_pos
abbrev jT:=@Nat.le_mul_of_pos_left
abbrev DW:=@Int.dvd_mul_of_dvd_right
abbrev Ao:=@Int.ediv_nonneg
abbrev Ap:=@List.map_singleton
abbrev cb:=@PySem.PassesOwn.never
abbrev d8:=@PySem.boot_len
abbrev p7:=@PySem.F.excBase_ValueError
abbrev ie:=@PySem.F.plainAttrs_list
abbrev p8:=@Int.eq_ofNat_of_zero_le
abbrev DX:=@PyProof.Rows.boot_sorted
abbrev mM:=@PySem.F.slot_list_append
abbrev mO:=@PySem.F.type_list_append
abbrev Aq:=@Nat.le_add_left
abbrev gz:=@PySem.W.mg_none_of
abbrev dF:=List (List (Int×Int))
abbrev cE:=List (Int×Int)
abbrev aF:=Nat→Nat→Int
abbrev dh:=PySem.Str→Option PySem.Value
abbrev aR:=PySem.Value→PySem.Shared→Prop
abbrev aC:=PySem.W.Frag
abbrev aU:=List (PySem.Addr×PySem.Obj)
namespace L2
open PySem PySem.Spec PyProof.Rows
abbrev Key:=Sum Int Str
def p9:Key→Value→Bool
 | .inl k,v=>Value.isInt k v
 | .inr x,v=>Value.isStrOf x v
def Pf(w:World):Key→Int
 | .inl k=>hashInt k
 | .inr x=>hashStr w x
theorem lL:∀{k:Key} {v:Value},p9 k v=true→(∃i t,k=Sum.inl i∧v=Value.int i t)∨(∃x t,k=Sum.inr x∧v=Value.str x t)
 | .inl i,v,h=>by obtain ⟨t,e⟩:=Value.isInt_shape (k:=i) (v:=v) h;exact .inl ⟨i,t,rfl,e⟩
 | .inr x,v,h=>by obtain ⟨t,e⟩:=Value.isStrOf_shape (x:=x) (v:=v) h;exact .inr ⟨x,t,rfl,e⟩
theorem Pg(i:Int)(t:Tok):p9 (.inl i) (.int i t)=true:=by simp [p9,Value.isInt]
theorem Ph(x:Str)(t:Tok):p9 (.inr x) (.str x t)=true:=by simp [p9,Value.isStrOf]
theorem Pj(a b:Int):decide ((Sum.inl a:Key)=Sum.inl b)=(a == b):=by
 by_cases e:a=b;·subst e;simp
 ·have h:¬(Sum.inl a:Key)=Sum.inl b:=fun q=>e (Sum.inl.inj q)
  rw [dc h];exact (mH.mpr e).symm
theorem Pk(a b:Str):decide ((Sum.inr a:Key)=Sum.inr b)=decide (a=b):=by
 by_cases e:a=b;·subst e;simp
 ·have h:¬(Sum.inr a:Key)=Sum.inr b:=fun q=>e (Sum.inr.inj q)
  rw [dc h,dc e]
theorem Pl(a:Int)(b:Str):decide ((Sum.inl a:Key)=Sum.inr b)=false:=dc (fun q=>nomatch q)
theorem Pm(a:Str)(b:Int):decide ((Sum.inr a:Key)=Sum.inl b)=false:=dc (fun q=>nomatch q)
def iH(prog:Program)(w:World):PySem.KeyKind prog w Key where
 is:=p9
 hash:=Pf w
 inj:=fun v a b ha hb=>by
  rcases lL ha with ⟨i,t,rfl,rfl⟩ | ⟨x,t,rfl,rfl⟩
  ·rcases lL hb with ⟨j,u,rfl,e⟩ | ⟨y,u,rfl,e⟩
   ·injection e with e1 _;rw [e1]
   ·exact nomatch e
  ·rcases lL hb with ⟨j,u,rfl,e⟩ | ⟨y,u,rfl,e⟩
   ·exact nomatch e
   ·injection e with e1 _;rw [e1]
 byValue:=fun k v h=>by
  rcases lL h with ⟨i,t,rfl,rfl⟩ | ⟨x,t,rfl,rfl⟩ <;> rfl
 pyHash:=fun hv h=>by
  rcases lL hv with ⟨i,t,rfl,rfl⟩ | ⟨x,t,rfl,rfl⟩
  ·exact wpAny_pyHash_int h
  ·exact wpAny_pyHash_str h
 eqBool:=fun hu hv h=>by
  rcases lL hu with ⟨i,t,rfl,rfl⟩ | ⟨x,t,rfl,rfl⟩
  ·rcases lL hv with ⟨j,u,rfl,rfl⟩ | ⟨y,u,rfl,rfl⟩
   ·rw [Pj] at h;exact wpAny_eqBool_int h
   ·rw [Pl] at h;exact SeqAt.EqAt.int_str i t y u _ _ _ _ h
  ·rcases lL hv with ⟨j,u,rfl,rfl⟩ | ⟨y,u,rfl,rfl⟩
   ·rw [Pm] at h;exact SeqAt.EqAt.str_int x t j u _ _ _ _ h
   ·rw [Pk] at h;exact wpAny_eqBool_str h
 «strs»:=fun k x t v h=>by
  rcases lL h with ⟨i,u,rfl,e⟩ | ⟨y,u,rfl,e⟩
  ·exact nomatch e
  ·injection e with e1 _
   subst e1
   cases v <;> rfl
theorem Pn(prog:Program)(w:World)(i:Int)(t:Tok):(iH prog w).is (.inl i) (.int i t)=true:=Pg i t
theorem Po(prog:Program)(w:World)(x:Str)(t:Tok):(iH prog w).is (.inr x) (.str x t)=true:=Ph x t
inductive V where
 | aI | bl (b:Bool) | int (i:Int) | str (x:Str) | jU (b:Array UInt8) | p_ (b:UInt64) | ref (a:Addr) | ty (n:String)
 deriving DecidableEq
def RelV:V→Value→Prop
 | .aI,u=>u=Value.none
 | .bl b,u=>u=Value.bool b
 | .int i,u=>∃t,u=Value.int i t
 | .str x,u=>∃t,u=Value.str x t
 | .jU b,u=>∃t,u=Value.bytes b t
 | .p_ b,u=>∃t,u=Value.float b t
 | .ref a,u=>u=Value.ref a
 | .ty n,u=>u=Value.type n
abbrev Vals:List V→List Value→Prop:=Paired RelV
variable {xs:List V} {us:List Value}
theorem Vals.length(r:Vals xs us):xs.length=us.length:=Paired.length r
theorem Vals.get:∀{xs:List V} {us:List Value} {i:Nat} {x:V},Vals xs us→xs[i]?=some x→∃u,us[i]?=some u∧RelV x u
 | _,_,_,_,.nil,e=>by simp at e
 | _,_,0,_,.cons r _,e=>by simp at e;subst e;exact ⟨_,rfl,r⟩
 | _,_,i+1,x,.cons _ t,e=>by
  obtain ⟨u,h1,h2⟩:=Vals.get (i:=i) (x:=x) t (by simpa using e)
  exact ⟨u,by simpa using h1,h2⟩
theorem Vals.set{x:V}{u:Value}(r:RelV x u):∀{xs:List V} {us:List Value} (i:Nat),Vals xs us→Vals (xs.set i x) (us.set i u)
 | _,_,_,.nil=>.nil
 | _,_,0,.cons _ t=>.cons r t
 | _,_,i+1,.cons q t=>.cons q (Vals.set r i t)
theorem Vals.append:∀{xs ys:List V} {us ws:List Value},Vals xs us→Vals ys ws→Vals (xs++ys) (us++ws)
 | _,_,_,_,.nil,s=>s
 | _,_,_,_,.cons r t,s=>.cons r (Vals.append t s)
theorem Vals.take:∀{xs:List V} {us:List Value} (n:Nat),Vals xs us→Vals (xs.take n) (us.take n)
 | _,_,0,_=>.nil
 | _,_,_+1,.nil=>.nil
 | _,_,n+1,.cons r t=>.cons r (Vals.take n t)
theorem Vals.drop:∀{xs:List V} {us:List Value} (n:Nat),Vals xs us→Vals (xs.drop n) (us.drop n)
 | _,_,0,r=>r
 | _,_,_+1,.nil=>.nil
 | _,_,n+1,.cons _ t=>Vals.drop n t
theorem Vals.none_of:∀{xs:List V} {us:List Value} {i:Nat},Vals xs us→xs[i]?=none→us[i]?=none:=fun{xs us i} r e=>by have h1:=r.length;have h2:xs.length≤i:=DK.mp e;exact DK.mpr (by lia)
def jb:Option V→Option Value→Prop
 | some v,some u=>RelV v u
 | none,none=>True
 | _,_=>False
def KV{κ:Type}:List (κ×V)→List (κ×Value)→Prop:=Paired fun(p:κ×V) (q:κ×Value)=>p.1=q.1∧RelV p.2 q.2
def kV:Key→V
 | .inl i=>.int i
 | .inr x=>.str x
inductive HO where
 | lst (xs:List V)
 | tup (xs:List V)
 | dK (aq:List (Key×V)) | dT (aq:List (List Key×V))
 | set (S:Int→Bool) (n:Nat)
 | ins (C dx:Addr) (fs:List (Str×V))
 | own (x:Addr)
 | xd (fs:List (Str×V))
 | met (f x:Addr)
 | qa (lo hi:Int)
 | cH (o:Obj) (u:HO)
 | mP (ps:Array Value)
 | ext (φ:Heap→Prop)
abbrev Hp:=Addr→Option HO
def upd(H:Hp)(a:Addr)(o:HO):Hp:=fun b=>if b=a then some o else H b
variable {H:Hp} {a:Addr} {o:HO}
theorem ay:upd H a o a=some o:=by unfold upd;rw [ar rfl]
variable {b:Addr}
theorem aJ(h:b≠a):upd H a o b=H b:=by unfold upd;rw [au h]
theorem Pp{u:HO}:upd (upd H a o) a u=upd H a u:=by funext b;unfold upd;split <;> rfl
theorem Pq{u:HO}(h:H a=some o)(h':H b=some u)(d:o≠u):a≠b:=by intro e;subst e;rw [h] at h';exact d (Option.some.inj h')
theorem iJ(h:H a=some o)(h':H b=none):a≠b:=by intro e;subst e;rw [h] at h';cases h'
section
variable (P:Program) (w:World)
def cP(H:Hp)(h:Heap)(a:Addr):HO→Prop
 | .lst xs=>xs.length≤sizeLine∧∃(ai:List Value) (n:Nat),Vals xs ai∧h.get? a=some {cls:=.type "list",data:=.seq ai.toArray n}
 | .tup xs=>xs.length≤sizeLine∧∃ai:List Value,Vals xs ai∧IsTup h a ai.toArray
 | .dK aq=>aq.length≤sizeLine∧(a == sysModules)=false∧∃vs,KV aq vs∧h.DictOf (iH P w) a vs
 | .dT aq=>aq.length≤sizeLine∧(a == sysModules)=false∧∃xs:List (List Key×Addr×Value),
   Paired (fun(p:List Key×V) (q:List Key×Addr×Value)=>p.1=q.1∧H q.2.1=some (.tup (p.1.map kV))∧RelV p.2 q.2.2) aq xs ∧
   ∃o es ep,h.get? a=some o∧o.ExactDict∧o.data=.dict es ep∧es.toList=xs.map (entryOfKey (tupleKind (iH P w)))∧(xs.map (·.1)).Nodup
 | .set S n=>h.SetOf (intKind P w) a S n
 | .ins C dx fs=>H dx=some (.own a)∧fs.length≤1000∧dx≠a∧h.get? a=some (PySem.W.instObj C dx) ∧
   ∃mA,h.Ns1 dx mA∧(∀f,jb (fs.lookup f) (mA f))∧PySem.Within mA (fs.map (·.1))
 | .own _=>∃o,h.get? a=some o
 | .xd fs=>∃mA,h.Ns1 a mA∧∀f,jb (fs.lookup f) (mA f)
 | .qa lo hi=>∃t u v,h.get? a=some {cls:=.type "range",data:=.fields #[.int lo t,.int hi u,.int 1 v]}
 | .cH o u=>h.get? a=some o∧cP H h a u
 | .mP ps=>h.get? a=some {cls:=.none,data:=.fields ps}
 | .met f x=>h.get? a=some (PySem.W.methodObj (.ref f) (.ref x))
 | .ext φ=>φ h∧(∃o,h.get? a=some o)∧∀h1 h2:Heap,φ h1→(∀o,h1.get? a=some o→h2.get? a=some o)→φ h2
def cA(H:Hp)(h:Heap):Prop:=∀a o,H a=some o→cP P w H h a o
end
section
variable {P:Program} {w:World} {H H':Hp} {h h':Heap} {a:Addr} {o:HO}
theorem cP.lt(x:cP P w H h a o):a<h.objs.size:=by
 cases o with
 | lst xs=>obtain ⟨_,_,_,_,e⟩:=x;exact bU e
 | tup xs=>obtain ⟨_,_,_,p⟩:=x;exact p.lt
 | dK aq=>obtain ⟨_,_,_,_,o,_,_,e,_⟩:=x;exact bU e
 | dT aq=>obtain ⟨_,_,_,_,o,_,_,e,_⟩:=x;exact bU e
 | set S n=>obtain ⟨o,_,_,_,e,_⟩:=x;exact bU e
 | ins C dx fs=>obtain ⟨_,_,_,e,_⟩:=x;exact bU e
 | own y=>obtain ⟨_,e⟩:=x;exact bU e
 | xd fs=>obtain ⟨_,⟨_,_,_,e,_⟩,_⟩:=x;exact bU e
 | qa lo hi=>obtain ⟨_,_,_,e⟩:=x;exact bU e
 | cH ob u=>obtain ⟨e,_⟩:=x;exact bU e
 | mP ps=>exact bU (show h.get? a=some _ from x)
 | met f y=>exact bU (show h.get? a=some _ from x)
 | ext φ=>obtain ⟨_,⟨_,e⟩,_⟩:=x;exact bU e
theorem Paired.DY{α β:Type}{F G:α→β→Prop}:∀{l₁:List α} {l₂:List β},Paired F l₁ l₂→(∀a b,F a b→G a b)→Paired G l₁ l₂
 | _,_,.nil,_=>.nil
 | _,_,.cons r t,f=>.cons (f _ _ r) (Paired.DY t f)
theorem cP.jc(x:cP P w H h a o)(k:∀b u,(b=a∨H b=some (.own a))→h.get? b=some u→h'.get? b=some u)
  (ho:∀b,H b=some (.own a)→H' b=some (.own a)) (ht:∀b xs,H b=some (.tup xs)→H' b=some (.tup xs)):cP P w H' h' a o:=by
 induction o with
 | lst xs=>obtain ⟨z,ai,n,r,e⟩:=x;exact ⟨z,ai,n,r,k _ _ (.inl rfl) e⟩
 | tup xs=>obtain ⟨z,ai,r,ob,e,c⟩:=x;exact ⟨z,ai,r,ob,k _ _ (.inl rfl) e,c⟩
 | dK aq=>obtain ⟨z,y,vs,r,ob,es,ep,e,c⟩:=x;exact ⟨z,y,vs,r,ob,es,ep,k _ _ (.inl rfl) e,c⟩
 | dT aq=>obtain ⟨z,y,xs,r,ob,es,ep,e,c⟩:=x;exact ⟨z,y,xs,Paired.DY r fun p q z=>⟨z.1,ht _ _ z.2.1,z.2.2⟩,ob,es,ep,k _ _ (.inl rfl) e,c⟩
 | set S n=>obtain ⟨ob,es,ep,t,e,c⟩:=x;exact ⟨ob,es,ep,t,k _ _ (.inl rfl) e,c⟩
 | ins C dx fs=>obtain ⟨d,z,ne,e,mA,⟨od,es,ep,e2,c⟩,r⟩:=x;exact ⟨ho _ d,z,ne,k _ _ (.inl rfl) e,mA,⟨od,es,ep,k _ _ (.inr d) e2,c⟩,r⟩
 | own y=>obtain ⟨ob,e⟩:=x;exact ⟨ob,k _ _ (.inl rfl) e⟩
 | xd fs=>obtain ⟨mA,⟨od,es,ep,e,c⟩,r⟩:=x;exact ⟨mA,⟨od,es,ep,k _ _ (.inl rfl) e,c⟩,r⟩
 | qa lo hi=>obtain ⟨t,u,v,e⟩:=x;exact ⟨t,u,v,k _ _ (.inl rfl) e⟩
 | cH ob u ih=>obtain ⟨e,q⟩:=x;exact ⟨k _ _ (.inl rfl) e,ih q⟩
 | mP ps=>have e:h.get? a=some {cls:=.none,data:=.fields ps}:=x;show h'.get? a=some {cls:=.none,data:=.fields ps};exact k a _ (.inl rfl) e
 | met f y=>have e:h.get? a=some (PySem.W.methodObj (.ref f) (.ref y)):=x;show h'.get? a=some (PySem.W.methodObj (.ref f) (.ref y));exact k a _ (.inl rfl) e
 | ext φ=>obtain ⟨p,⟨o,e⟩,st⟩:=x;exact ⟨st _ _ p fun o q=>k _ _ (.inl rfl) q,⟨o,k _ _ (.inl rfl) e⟩,st⟩
theorem cA.lt(x:cA P w H h)(e:H a=some o):a<h.objs.size:=(x a o e).lt
theorem cA.fresh(x:cA P w H h)(e:h.objs.size≤a):H a=none:=by
 cases q:H a with
 | none=>rfl
 | some u=>exact absurd (dZ (x.lt q) e) (gJ _)
theorem cA.kept(x:cA P w H h)(k:∀b u,h.get? b=some u→h'.get? b=some u):cA P w H h':=fun a o e=>(x a o e).jc (fun b u _ q=>k b u q) (fun _ q=>q) fun _ _ q=>q
theorem cA.laid(x:cA P w H h)(k:∀b u,h.get? b=some u→h'.get? b=some u)(hp:h.objs.size≤a)(new:cP P w (upd H a o) h' a o):cA P w (upd H a o) h':=fun b u e=>by
 have hn:=x.fresh hp;by_cases hb:b=a;·subst hb;rw [ay] at e;cases e;exact new
 ·rw [aJ hb] at e
  exact (x b u e).jc (fun c v _ q=>k c v q) (fun c q=>by rw [aJ (iJ q hn)];exact q) fun c xs q=>by rw [aJ (iJ q hn)];exact q
end
def Rd(H:Hp)(a:Addr)(u:HO):Prop:=H a=some u∨∃o,H a=some (.cH o u)
variable {P:Program} {w:World} {h:Heap}
theorem Rd.ok{u:HO}(r:Rd H a u)(x:cA P w H h):cP P w H h a u:=by
 rcases r with r | ⟨o,r⟩;·exact x a u r
 ·obtain ⟨_,q⟩:=x a _ r
  exact q
def yh:Option HO→Prop
 | some (.lst _)=>True
 | some (.dK _)=>True
 | some (.dT _)=>True
 | some (.set _ _)=>True
 | some (.ins _ _ _)=>True
 | some (.ext _)=>True
 | _=>False
section
variable {P:Program} {w:World} {H:Hp} {h h':Heap} {x e:Addr} {o':HO}
theorem cA.write(ok:cA P w H h)(mu:yh (H x))(he:e=x∨H e=some (.own x))(k:∀b u,b≠e→h.get? b=some u→h'.get? b=some u)(ud:∃u,h'.get? e=some u)
  (new:cP P w (upd H x o') h' x o'):cA P w (upd H x o') h':=fun b u q=>by
 have HI:∀c y,H c=some (.own y)→c≠x:=fun c y r z=>by subst z;rw [r] at mu;exact mu
 have Pt:∀c xs,H c=some (.tup xs)→c≠x:=fun c xs r z=>by subst z;rw [r] at mu;exact mu
 by_cases hb:b=x;·subst hb;rw [ay] at q;cases q;exact new
 ·rw [aJ hb] at q
  by_cases qb:b=e
  ·have q':H b=some (.own x):=by
    rcases he with z | z;·exact absurd (qb.trans z) hb
    ·rw [qb];exact z
   rw [q] at q';cases q';obtain ⟨v,hv⟩:=ud;exact ⟨v,by rw [qb];exact hv⟩
  ·refine (ok b u q).jc (fun c v hc r=>k c v ?_ r) (fun c r=>by rw [aJ (HI c b r)];exact r) fun c xs r=>by rw [aJ (Pt c xs r)];exact r
   rcases hc with rfl | hc;·exact qb
   ·rintro rfl
    rcases he with z | z;·exact HI c b hc z
    ·rw [hc] at z;cases z;exact hb rfl
end
structure Un (fs ex:List Addr) (H H':Hp) (h h':Heap):Prop where
 keep:∀b o,h.get? b=some o→H b=none→b∉fs→b∉ex→h'.get? b=some o
 slot:∀b o,h.get? b=some o→H b=none→b∈fs→b∉ex→∃sl,h'.get? b=some {o with slots:=sl}
 free:∀b o,h.get? b=some o→H b=none→b∉ex→H' b=none
 there:∀b o,h.get? b=some o→b∉ex→∃o',h'.get? b=some o'
 gK:∀b xs,H b=some (.tup xs)→H' b=some (.tup xs)
 gA:∀b o u,H b=some (.cH o u)→H' b=some (.cH o u)
 gL:∀b ps,H b=some (.mP ps)→∃more,H' b=some (.mP (ps++more))
section
variable {fs DZ ex kH:List Addr} {H H1 H2:Hp} {h h1 h2 h':Heap} {a x e:Addr} {o:HO}
theorem Un.any(u:Un fs ex H H1 h h1){ob:Obj}(q:h.get? b=some ob)(n:H b=none)(hx:b∉ex):∃sl,h1.get? b=some {ob with slots:=sl}:=by
 by_cases hb:b∈fs;·exact u.slot b ob q n hb hx
 ·exact ⟨ob.slots,u.keep b ob q n hb hx⟩
theorem Un.kept(k:∀b u,h.get? b=some u→h'.get? b=some u):Un fs ex H H h h':=
 ⟨fun b ob q _ _ _=>k b ob q,fun b ob q _ _ _=>⟨ob.slots,k b ob q⟩,fun _ _ _ n _=>n,fun b ob q _=>⟨ob,k b ob q⟩,fun _ _ q=>q,fun _ _ _ q=>q,fun _ ps q=>⟨#[],by rw [q];simp⟩⟩
theorem Un.refl:Un fs ex H H h h:=Un.kept fun _ _ q=>q
theorem Un.laid(k:∀b u,h.get? b=some u→h'.get? b=some u)(hp:h.objs.size≤a)(hn:H a=none):Un fs ex H (upd H a o) h h' where
 keep:=fun b u q _ _ _=>k b u q
 slot:=fun b u q _ _ _=>⟨u.slots,k b u q⟩
 free:=fun b u q n _=>by rw [aJ (d5 (dZ (bU q) hp))];exact n
 there:=fun b u q _=>⟨u,k b u q⟩
 gK:=fun b xs q=>by rw [aJ (iJ q hn)];exact q
 gA:=fun b u xs q=>by rw [aJ (iJ q hn)];exact q
 gL:=fun b ps q=>⟨#[],by rw [aJ (iJ q hn),q];simp⟩
theorem Un.write(mu:yh (H x))(he:e=x∨H e=some (.own x))(k:∀b u,b≠e→h.get? b=some u→h'.get? b=some u)(ud:∃u,h'.get? e=some u):Un fs ex H (upd H x o) h h':=by
 have hx:∀b,H b=none→b≠x:=fun b n z=>by subst z;rw [n] at mu;exact mu
 have hb:∀b,H b=none→b≠e:=fun b n z=>by
  subst z;rcases he with r | r;·exact hx b n r
  ·rw [n] at r;cases r
 have hm:∀b u,H b=some u→¬yh (some u)→b≠x:=fun b u q nm z=>by subst z;rw [q] at mu;exact nm mu
 refine ⟨fun b u q n _ _=>k b u (hb b n) q,fun b u q n _ _=>⟨u.slots,k b u (hb b n) q⟩,fun b u q n _=>by rw [aJ (hx b n)];exact n,fun b u q _=>?_,
  fun b xs q=>by rw [aJ (hm b _ q fun z=>z)];exact q,fun b u xs q=>by rw [aJ (hm b _ q fun z=>z)];exact q,fun b ps q=>⟨#[],by rw [aJ (hm b _ q fun z=>z),q];simp⟩⟩
 by_cases qb:b=e;·subst qb;exact ud
 ·exact ⟨u,k b u qb q⟩
end
def Ar(h:Heap)(H:Hp):List Addr:=(List.range h.objs.size).filter fun a=>(H a).isSome
def mQ(h:Heap)(H:Hp):Heap:=PySem.W.hideAll h (Ar h H)
theorem Pu(h:Heap)(H:Hp):(mQ h H).objs.size=h.objs.size:=PySem.W.hideAll_size _ _
theorem Pw{o:Obj}(e:h.get? b=some o)(n:H b=none):(mQ h H).get? b=some o:=
 z8 _ e fun hm=>by have q:(H b).isSome=true:=(pS.mp hm).2;rw [n] at q;simp at q
theorem Px{o:Obj}(e:(mQ h H).get? b=some o):h.get? b=some o∧H b=none:=by
 have e':h.get? b=some o:=PySem.W.of_hideAll (Ar h H) e;refine ⟨e',?_⟩;cases q:H b with
 | none=>rfl
 | some x=>
  have hm:b∈Ar h H:=pS.mpr ⟨e8.mpr (bU e'),by simp [q]⟩
  have z:(mQ h H).get? b=none:=PySem.W.hideAll_none (Ar h H) hm;rw [z] at e;cases e
structure Mod (K:aC) (mg:dh) (base:Heap):Prop where
 cZ:K.In base
 glob:base.Ns mainGlobals mg
 blt:∃mb,base.Ns builtinsNs mb∧∀x:Str,x ≠ "__name__"→mb x=bootBuiltins x
 nolimit:base.NoLimit
structure Cx where
 prog:Program
 w:World
 K:PySem.W.Frag
 mg:Str→Option Value
 base:Heap
 A:Around
 N:List Str
 s₀:Shared
 H₀:Hp
 env:Env
 outer:List Env
 stack:List Env
 ex:List Addr
 fn:Str→Bool
 calm:Bool
 pn:List (Addr×Obj)
 xe:Value→Shared→Prop
def cG(l:List Env):List Addr:=l.filterMap (·.frame)
abbrev Cx.fs (X:Cx):List Addr:=cG X.outer
def mS(sc:Scope)(x:Str):Prop:=sc.names.lookup x=some .local∨sc.names.lookup x=some .cell∨sc.names.lookup x=some .free
def Loc(sc:Scope)(x:Str):Prop:=sc.names.lookup x=some .local∨sc.names.lookup x=some .cell
def Look(env:Env)(h:Heap)(m:dh)(x:Str)(u:Value):Prop:=
 (env.kindOf x=some .local∧m x=some u)∨((env.kindOf x=some .cell∨env.kindOf x=some .free)∧∃c,env.cells.lookup x=some c∧h.IsCell c (some u))
structure Cx.Ok (X:Cx):Prop where
 mod:Mod X.K X.mg X.base
 kind:X.env.scope.kind=.function
 glob:X.env.globals=mainGlobals
 blt:X.env.builtins=builtinsNs
 above:X.s₀.heap.objs.size≤X.env.locals
 inj:∀x y c,X.env.cells.lookup x=some c→X.env.cells.lookup y=some c→x=y
 has:∀x,(X.env.kindOf x=some .cell∨X.env.kindOf x=some .free)→∃c,X.env.cells.lookup x=some c
 qc:∀x c,X.fn x=true→X.env.cells.lookup x=some c→X.s₀.heap.objs.size≤c
 hd:X.calm=true→X.A.handled=none
 frames:X.A.frames=some X.stack
 jd:X.stack=X.outer∨(X.stack=X.env::X.outer∧X.env.frame=some X.env.locals)
 Iy:∀b∈X.ex,b≠X.env.locals∧∀x c,X.env.cells.lookup x=some c→c≠b
 bs:∀b o,X.base.get? b=some o→X.s₀.heap.get? b=some o∧X.H₀ b=none
 gM:X.base.objs.size≤X.s₀.heap.objs.size
 mT:∀b o,X.base.get? b=some o→b∉X.ex
 mU:∀b∈X.ex,b∉X.fs
 jV:X.s₀.heap.FunFrames X.base X.outer
 mV:∀b∈X.fs,X.H₀ b=none
structure Inv (X:Cx) (pins:aU) (σ:List (Option V)) (H:Hp) (s:Shared):Prop where
 ok:X.Ok
 os:s.os=X.s₀.os
 bare:AllBare s.gens
 base:Un X.fs X.ex X.H₀ H X.s₀.heap s.heap
 loc:∃m,s.heap.Ns X.env.locals m∧∀(i:Nat) (x:Str) (v:V),X.N[i]?=some x→σ[i]?=some (some v)→mS X.env.scope x→∃u,RelV v u∧Look X.env s.heap m x u
 cell:∀x c,X.env.cells.lookup x=some c→∃v,s.heap.IsCell c v
 free:H X.env.locals=none
 iK:∀x c,X.env.cells.lookup x=some c→H c=none
 pin:∀p∈X.pn++pins,s.heap.get? p.1=some p.2∧H p.1=none∧p.1≠X.env.locals∧p.1∉X.fs∧∀v,p.2.data≠.cell v
 az:cA X.prog X.w H s.heap
 len:σ.length=X.N.length
section
variable {X:Cx} {pins:aU} {σ:List (Option V)} {H H':Hp} {s:Shared} {h':Heap}
theorem Cx.Ok.Py(ok:X.Ok){o:Obj}(e:X.base.get? b=some o):b∉X.fs:=fun hb=>by have:=(ok.jV.mem hb).1;rw [e] at this;cases this
theorem Inv.bs(I:Inv X pins σ H s):∀b o,X.base.get? b=some o→s.heap.get? b=some o∧H b=none:=fun b o e=>⟨I.base.keep b o (I.ok.bs b o e).1 (I.ok.bs b o e).2 (I.ok.Py e) (I.ok.mT b o e),I.base.free b o (I.ok.bs b o e).1 (I.ok.bs b o e).2 (I.ok.mT b o e)⟩
theorem Inv.bk(I:Inv X pins σ H s):∀b o,X.base.get? b=some o→s.heap.get? b=some o:=fun b o e=>(I.bs b o e).1
theorem Inv.mod(I:Inv X pins σ H s):Mod X.K X.mg X.base:=I.ok.mod
theorem Inv.dG(I:Inv X pins σ H s):X.K.In s.heap:=I.ok.mod.cZ.keeps I.bk
theorem Inv.lt(I:Inv X pins σ H s):X.env.locals<s.heap.objs.size:=let ⟨_,hn,_⟩:=I.loc;hn.lt
theorem Inv.sz(I:Inv X pins σ H s):X.s₀.heap.objs.size≤s.heap.objs.size:=aQ I.ok.above (Nat.le_of_lt I.lt)
theorem Inv.Pz(I:Inv X pins σ H s)(h:s.heap.objs.size≤a):a∉X.fs:=fun hb=>by obtain ⟨_,o,ho,_⟩:=I.ok.jV.mem hb;exact absurd (dZ (bU ho) (aQ I.sz h)) (gJ _)
theorem Inv.qd(I:Inv X pins σ H s):∀x c,X.env.cells.lookup x=some c→c≠X.env.locals:=fun x c e z=>by obtain ⟨v,o,ho,hd⟩:=I.cell x c e;obtain ⟨m,⟨o',es,ep,lM,D3,_⟩,_⟩:=I.loc;rw [z,lM] at ho;cases ho;rw [D3] at hd;cases hd
theorem Inv.jV(I:Inv X pins σ H s):s.heap.FunFrames X.base X.outer:=by
 have all:∀(l:List Env),(∀b∈cG l,b∈X.fs)→X.s₀.heap.FunFrames X.base l→s.heap.FunFrames X.base l:=by
  intro l
  induction l with
  | nil=>intro _ _;trivial
  | cons env r ih=>
   intro hs hl;obtain ⟨hk,⟨L,o,hf,hn,ho,hd⟩,hr⟩:=hl;have hL:L∈X.fs:=hs L (by unfold cG;rw [z9,hf];exact hJ)
   obtain ⟨sl,e⟩:=I.base.slot L o ho (I.ok.mV L hL) hL fun z=>I.ok.mU L z hL;exact ⟨hk,⟨L,_,hf,hn,e,hd⟩,ih (fun b hb=>hs b (by unfold cG;rw [z9,hf];exact e9 _ hb)) hr⟩
 exact all X.outer (fun _ hb=>hb) I.ok.jV
theorem Inv.stack(I:Inv X pins σ H s):s.heap.FunFrames X.base X.stack:=by
 rcases I.ok.jd with e | ⟨e,hf⟩;·rw [e];exact I.jV
 ·rw [e]
  obtain ⟨m,hn,_⟩:=I.loc;refine .cons (by rw [I.ok.kind];decide) hf hn ?_ I.jV
  exact Heap.get?_none_of_le (aQ I.ok.gM I.ok.above)
theorem Inv.qe(I:Inv X pins σ H s):∀b∈cG X.stack,b∈X.env.locals::X.fs:=fun b hb=>by
 rcases I.ok.jd with e | ⟨e,hf⟩;·rw [e] at hb;exact e9 _ hb
 ·rw [e] at hb
  unfold cG at hb;rw [z9,hf] at hb;exact hb
theorem Inv.qf(I:Inv X pins σ H s):∀b∈cG X.stack,H b=none:=fun b hb=>by
 rcases dy.mp (I.qe b hb) with e | hb;·rw [e];exact I.free
 ·obtain ⟨_,o,ho,_⟩:=I.ok.jV.mem hb
  exact I.base.free b o ho (I.ok.mV b hb) fun z=>I.ok.mU b z hb
variable {g':Array GenState} {t':Nat} {d':Drawn} {ch:List Addr}
theorem Inv.step(I:Inv X pins σ H s)
  (lN:∀b∈ch,(b∈X.ex∨X.s₀.heap.objs.size≤b)∧b≠X.env.locals∧(∀x c,X.env.cells.lookup x=some c→c≠b)∧∀p∈X.pn++pins,p.1≠b)
  (keep:∀b o,b≠X.env.locals→b∉X.fs→b∉ch→s.heap.get? b=some o→H b=none→h'.get? b=some o)
  (slot:∀b o,b≠X.env.locals→b∈X.fs→b∉ch→s.heap.get? b=some o→H b=none→∃sl,h'.get? b=some {o with slots:=sl}) (free:∀b o,b∉ch→s.heap.get? b=some o→H b=none→H' b=none)
  (there:∀b o,b∉ch→s.heap.get? b=some o→∃o',h'.get? b=some o')
  (gK:∀b xs,H b=some (.tup xs)→H' b=some (.tup xs)) (gA:∀b o u,H b=some (.cH o u)→H' b=some (.cH o u)) (gL:∀b ps,H b=some (.mP ps)→∃more,H' b=some (.mP (ps++more)))
  (ns:∀m,s.heap.Ns X.env.locals m→h'.Ns X.env.locals m) (az:cA X.prog X.w H' h') (hg:AllBare g') :
  Inv X pins σ H' {s with heap:=h',gens:=g',drawn:=d',toks:=t'}:=by
 have IC:∀b o,X.s₀.heap.get? b=some o→b≠X.env.locals:=fun b o e=>d5 (dZ (bU e) I.ok.above);have As:∀b o,X.s₀.heap.get? b=some o→b∉X.ex→b∉ch:=fun b o e hx hb=>by
  rcases (lN b hb).1 with z | z;·exact hx z
  ·exact absurd (dZ (bU e) z) (gJ _)
 have cellK:∀x c,X.env.cells.lookup x=some c→∀v,s.heap.IsCell c v→h'.IsCell c v:=fun x c e v ⟨o,ho,hd⟩=>by
  have yi:c∉ch:=fun z=>(lN c z).2.2.1 x c e rfl;by_cases hc:c∈X.fs
  ·obtain ⟨sl,q⟩:=slot c o (I.qd x c e) hc yi ho (I.iK x c e)
   exact ⟨_,q,hd⟩
  ·exact ⟨o,keep c o (I.qd x c e) hc yi ho (I.iK x c e),hd⟩
 refine ⟨I.ok,I.os,hg,⟨fun b o e n hb hx=>?_,fun b o e n hb hx=>?_,fun b o e n hx=>?_,fun b o e hx=>?_,fun b xs e=>gK b xs (I.base.gK b xs e),fun b o xs e=>gA b o xs (I.base.gA b o xs e),fun b ps e=>?_⟩,?_,fun x c e=>?_,?_,fun x c e=>?_,fun p hp=>?_,az,I.len⟩;·exact keep b o (IC b o e) hb (As b o e hx) (I.base.keep b o e n hb hx) (I.base.free b o e n hx)
 ·obtain ⟨sl,e1⟩:=I.base.slot b o e n hb hx
  obtain ⟨PB,e2⟩:=slot b _ (IC b o e) hb (As b o e hx) e1 (I.base.free b o e n hx);exact ⟨PB,e2⟩
 ·obtain ⟨o',e1⟩:=I.base.there b o e hx
  exact free b o' (As b o e hx) e1 (I.base.free b o e n hx)
 ·obtain ⟨o',e1⟩:=I.base.there b o e hx
  exact there b o' (As b o e hx) e1
 ·obtain ⟨m1,e1⟩:=I.base.gL b ps e
  obtain ⟨m2,e2⟩:=gL b _ e1;exact ⟨m1++m2,by rw [e2,Array.append_assoc]⟩
 ·obtain ⟨m,hn,hl⟩:=I.loc
  refine ⟨m,ns m hn,fun i x v e1 e2 e3=>?_⟩;obtain ⟨u,r,l⟩:=hl i x v e1 e2 e3;refine ⟨u,r,?_⟩;rcases l with l | ⟨k,c,e,z⟩;·exact .inl l
  ·exact .inr ⟨k,c,e,cellK x c e _ z⟩
 ·obtain ⟨v,z⟩:=I.cell x c e
  exact ⟨v,cellK x c e v z⟩
 ·obtain ⟨m,⟨o,_,_,ho,_⟩,_⟩:=I.loc
  exact free _ o (fun z=>(lN _ z).2.1 rfl) ho I.free
 ·obtain ⟨v,o,ho,hd⟩:=I.cell x c e
  exact free c o (fun z=>(lN c z).2.2.1 x c e rfl) ho (I.iK x c e)
 ·obtain ⟨e,n,ne,nf,d⟩:=I.pin p hp
  have yi:p.1∉ch:=fun z=>(lN p.1 z).2.2.2 p hp rfl;exact ⟨keep p.1 p.2 ne nf yi e n,free p.1 p.2 yi e n,ne,nf,d⟩
theorem Inv.un(I:Inv X pins σ H s)(u:Un X.fs [] H H' s.heap h')(az:cA X.prog X.w H' h'):Inv X pins σ H' {s with heap:=h',toks:=t'}:=by
 obtain ⟨m,⟨o,es,ep,ho,r⟩,_⟩:=id I.loc;obtain ⟨sl,hL⟩:=u.any ho I.free (by simp)
 exact I.step (g':=s.gens) (d':=s.drawn) (ch:=[]) (fun _ z=>nomatch z) (fun b o _ hb _ e n=>u.keep b o e n hb (by simp)) (fun b o _ hb _ e n=>u.slot b o e n hb (by simp)) (fun b o _ e n=>u.free b o e n (by simp)) (fun b o _ e=>u.there b o e (by simp)) u.gK u.gA u.gL (fun m' hm=>by obtain ⟨o',D4,D6,lM,r'⟩:=hm;rw [ho] at lM;cases lM;exact ⟨_,D4,D6,hL,r'⟩) az I.bare
theorem Inv.call(I:Inv X pins σ H s)(u:Un (cG X.stack) ch H H' s.heap h')(az:cA X.prog X.w H' h')(hg:AllBare g')
  (lN:∀b∈ch,(b∈X.ex∨X.s₀.heap.objs.size≤b)∧b≠X.env.locals∧(∀x c,X.env.cells.lookup x=some c→c≠b)∧∀p∈X.pn++pins,p.1≠b) :
  Inv X pins σ H' {s with heap:=h',gens:=g',drawn:=d',toks:=t'}:=by
 obtain ⟨m,⟨o,es,ep,ho,r⟩,_⟩:=id I.loc;obtain ⟨sl,hL⟩:=u.any ho I.free fun z=>(lN _ z).2.1 rfl;exact I.step (ch:=ch) lN (fun b o hL hb hc e n=>u.keep b o e n (fun z=>(dy.mp (I.qe b z)).elim hL hb) hc) (fun b o _ _ hc e n=>u.any e n hc) (fun b o hc e n=>u.free b o e n hc) (fun b o hc e=>u.there b o e hc) u.gK u.gA u.gL (fun m' hm=>by obtain ⟨o',D4,D6,lM,r'⟩:=hm;rw [ho] at lM;cases lM;exact ⟨_,D4,D6,hL,r'⟩) az hg
theorem Inv.turned{it:Addr}(I:Inv X pins σ H s)(k:∀b o,b≠it→s.heap.get? b=some o→h'.get? b=some o)(hn:H it=none)(hL:it≠X.env.locals)
  (h1:it∈X.ex∨X.s₀.heap.objs.size≤it) (h2:∀x c,X.env.cells.lookup x=some c→c≠it) (h3:∀p∈X.pn++pins,p.1≠it):Inv X pins σ H {s with heap:=h',toks:=t'}:=by
 have ID:∀b u,H b=some u→b≠it:=fun b u e z=>by rw [z,hn] at e;cases e
 refine I.step (g':=s.gens) (d':=s.drawn) (ch:=[it]) (fun b hb=>?_) (fun b o _ _ hc e _=>k b o (fun z=>hc (by simp [z])) e) (fun b o _ _ hc e _=>⟨o.slots,k b o (fun z=>hc (by simp [z])) e⟩) (fun _ _ _ _ n=>n)
  (fun b o hc e=>⟨o,k b o (fun z=>hc (by simp [z])) e⟩) (fun _ _ e=>e) (fun _ _ _ e=>e) (fun b ps e=>⟨#[],by rw [e];simp⟩) (fun m hm=>?_) (fun b u e=>?_) I.bare
 ·have e:b=it:=by simpa using hb
  subst e;exact ⟨h1,hL,h2,h3⟩
 ·obtain ⟨o,es,ep,ho,r⟩:=hm
  exact ⟨o,es,ep,k _ o (Ne.symm hL) ho,r⟩
 ·refine (I.az b u e).jc (fun c v hc q=>k c v ?_ q) (fun _ q=>q) fun _ _ q=>q
  rcases hc with z | z;·rw [z];exact ID b u e
  ·exact ID c _ z
theorem Inv.tok(I:Inv X pins σ H s)(t:Nat):Inv X pins σ H {s with toks:=t}:=I.un (h':=s.heap) (t':=t) Un.refl I.az
theorem Inv.kept(I:Inv X pins σ H s)(k:∀b u,s.heap.get? b=some u→h'.get? b=some u):Inv X pins σ H {s with heap:=h',toks:=t'}:=I.un (Un.kept k) (I.az.kept k)
theorem Inv.laid(I:Inv X pins σ H s)(k:∀b u,s.heap.get? b=some u→h'.get? b=some u)(hp:s.heap.objs.size≤a)(new:cP X.prog X.w (upd H a o) h' a o) :
  Inv X pins σ (upd H a o) {s with heap:=h',toks:=t'}:=I.un (Un.laid k hp (I.az.fresh hp)) (I.az.laid k hp new)
theorem Inv.write{x e:Addr}(I:Inv X pins σ H s)(mu:yh (H x))(he:e=x∨H e=some (.own x))(k:∀b u,b≠e→s.heap.get? b=some u→h'.get? b=some u)(ud:∃u,h'.get? e=some u)
  (new:cP X.prog X.w (upd H x o) h' x o):Inv X pins σ (upd H x o) {s with heap:=h',toks:=t'}:=I.un (Un.write mu he k ud) (I.az.write mu he k ud new)
theorem Inv.IE{IF:aU}(I:Inv X pins σ H s)(h:∀p∈IF,s.heap.get? p.1=some p.2∧H p.1=none∧p.1≠X.env.locals∧p.1∉X.fs∧∀v,p.2.data≠.cell v):Inv X IF σ H s:=
 ⟨I.ok,I.os,I.bare,I.base,I.loc,I.cell,I.free,I.iK,fun p hp=>(fG.mp hp).elim (fun z=>I.pin p (mI _ z)) (h p),I.az,I.len⟩
variable {i:Nat} {x:Str}
theorem IG{N:List Str}(hN:N.Nodup){j:Nat}(a:N[i]?=some x)(b:N[j]?=some x):i=j:=by obtain ⟨h1,e1⟩:=bZ.mp a;obtain ⟨h2,e2⟩:=bZ.mp b;exact (List.getElem_inj hN).mp (e1.trans e2.symm)
variable {M:Model} {A:Around} {E:aR} {v:V} {u:Value} {Q:Unit→Shared→Prop}
theorem Au(I:Inv X pins σ H s)(hN:X.N.Nodup)(hi:X.N[i]?=some x)(hx:Loc X.env.scope x)(r:RelV v u)
  (h:∀s',Inv X pins (σ.set i (some v)) H s'→(∃a,Heap.SameBut a s.heap s'.heap∧(a=X.env.locals∨X.env.cells.lookup x=some a))→Q () s') (hf:X.fn x=true∨X.env.scope.names.lookup x=some .local:=by first | exact .inl rfl | exact .inr rfl | assumption):wpAny M A (storeName X.env x u) Q E s:=by
 obtain ⟨m,hn,hl⟩:=id I.loc;have PD:(X.env.scope.kind == .class || (X.env.scope.kind == .module && X.env.locals != X.env.globals))=false:=by rw [I.ok.kind];rfl
 have IH:i<σ.length:=by rw [I.len];exact (bZ.mp hi).1
 have qd:=I.qd;have tracked:∀{a:Addr} {h':Heap},(∃o,s.heap.get? a=some o∧H a=none)→Heap.SameBut a s.heap h'→cA X.prog X.w H h':=fun{a h'} ha hs b ob e=>by
  obtain ⟨_,_,II⟩:=ha;refine (I.az b ob e).jc (fun c w' hc q=>(hs.2 c ?_).trans q) (fun _ q=>q) fun _ _ q=>q;rintro rfl;rcases hc with rfl | hc;·rw [II] at e;cases e
  ·rw [II] at hc;cases hc
 rcases hx with hk | hk
 ·refine wpAny_storeName_local hk hn (fun h' PF hs=>?_) PD
  obtain ⟨oL,_,_,PH,_⟩:=id hn;refine h _ ⟨I.ok,I.os,I.bare,⟨fun b o e n hb hx=>?_,fun b o e n hb hx=>?_,I.base.free,fun b o e hx=>?_,I.base.gK,I.base.gA,I.base.gL⟩,⟨_,PF,fun j y v' e1 e2 e3=>?_⟩,fun y c e=>?_,I.free,I.iK,fun p hp=>?_,tracked ⟨oL,PH,I.free⟩ hs,by simpa using I.len⟩ ⟨_,hs,.inl rfl⟩
  ·exact (hs.2 b (d5 (dZ (bU e) I.ok.above))).trans (I.base.keep b o e n hb hx)
  ·obtain ⟨sl,e1⟩:=I.base.slot b o e n hb hx
   exact ⟨sl,(hs.2 b (d5 (dZ (bU e) I.ok.above))).trans e1⟩
  ·obtain ⟨o',e1⟩:=I.base.there b o e hx
   exact ⟨o',(hs.2 b (d5 (dZ (bU e) I.ok.above))).trans e1⟩
  ·by_cases hj:j=i
   ·subst hj
    rw [hi] at e1;cases e1;rw [List.getElem?_set_self IH] at e2;cases e2;exact ⟨u,r,.inl ⟨hk,by simp⟩⟩
   ·rw [List.getElem?_set_ne (Ne.symm hj)] at e2
    obtain ⟨u',r',q⟩:=hl j y v' e1 e2 e3;refine ⟨u',r',?_⟩;rcases q with ⟨k,e⟩ | ⟨k,c,e,z⟩
    ·refine .inl ⟨k,?_⟩
     have:y≠x:=fun e=>hj (IG hN e1 (e▸hi));simp [this,e]
    ·exact .inr ⟨k,c,e,z.sameBut hs (qd y c e)⟩
  ·obtain ⟨w',z⟩:=I.cell y c e
   exact ⟨w',z.sameBut hs (qd y c e)⟩
  ·obtain ⟨e,n,ne,nf,d⟩:=I.pin p hp
   exact ⟨(hs.2 p.1 ne).trans e,n,ne,nf,d⟩
 ·have D7:X.fn x=true:=by
   rcases hf with z | z;·exact z
   ·rw [z] at hk;cases hk
  obtain ⟨c,hc⟩:=I.ok.has x (.inl hk);obtain ⟨w',z⟩:=I.cell x c hc;refine wpAny_storeName_cell I.ok.kind hk hc z (fun h' fk hs=>?_);obtain ⟨oc,IJ,PJ⟩:=id z;refine h {s with heap:=h'} ⟨I.ok,I.os,I.bare,⟨fun b o e n hb hx=>?_,fun b o e n hb hx=>?_,I.base.free,fun b o e hx=>?_,I.base.gK,I.base.gA,I.base.gL⟩,⟨m,hn.sameBut hs (Ne.symm (qd x c hc)),fun j y v' e1 e2 e3=>?_⟩,fun y c' e=>?_,I.free,I.iK,fun p hp=>?_,tracked ⟨oc,IJ,I.iK x c hc⟩ hs,by simpa using I.len⟩ ⟨c,hs,.inr hc⟩
  ·exact (hs.2 b (d5 (dZ (bU e) (I.ok.qc x c D7 hc)))).trans (I.base.keep b o e n hb hx)
  ·obtain ⟨sl,e1⟩:=I.base.slot b o e n hb hx
   exact ⟨sl,(hs.2 b (d5 (dZ (bU e) (I.ok.qc x c D7 hc)))).trans e1⟩
  ·obtain ⟨o',e1⟩:=I.base.there b o e hx
   exact ⟨o',(hs.2 b (d5 (dZ (bU e) (I.ok.qc x c D7 hc)))).trans e1⟩
  ·by_cases hj:j=i
   ·subst hj
    rw [hi] at e1;cases e1;rw [List.getElem?_set_self IH] at e2;cases e2;exact ⟨u,r,.inr ⟨.inl hk,c,hc,fk⟩⟩
   ·rw [List.getElem?_set_ne (Ne.symm hj)] at e2
    obtain ⟨u',r',q⟩:=hl j y v' e1 e2 e3;refine ⟨u',r',?_⟩;rcases q with q | ⟨k,c',e,z'⟩;·exact .inl q
    ·refine .inr ⟨k,c',e,z'.sameBut hs ?_⟩
     rintro rfl;exact hj (IG hN e1 (I.ok.inj _ _ _ e hc▸hi))
  ·by_cases IK:c'=c
   ·subst IK;exact ⟨_,fk⟩
   ·obtain ⟨w2,z2⟩:=I.cell y c' e
    exact ⟨w2,z2.sameBut hs IK⟩
  ·obtain ⟨e,n,ne,nf,d⟩:=I.pin p hp
   refine ⟨(hs.2 p.1 ?_).trans e,n,ne,nf,d⟩;intro q;rw [q,IJ] at e;have q':oc=p.2:=Option.some.inj e;exact d w' (by rw [←q'];exact PJ)
theorem yj(I:Inv X pins σ H s)(hN:X.N.Nodup)(hi:X.N[i]?=some x)(hx:Loc X.env.scope x)(r:RelV v u)
  (h:∀s',Inv X pins (σ.set i (some v)) H s'→Q () s') (hf:X.fn x=true∨X.env.scope.names.lookup x=some .local:=by first | exact .inl rfl | exact .inr rfl | assumption):wpAny M A (storeName X.env x u) Q E s:=
 Au I hN hi hx r (fun s' I' _=>h s' I') hf
theorem Inv.lO{s':Shared}(I:Inv X pins σ H s)(ho:s'.os=s.os)(u:Un (cG X.stack) ch H H' s.heap s'.heap)(az:cA X.prog X.w H' s'.heap)(hg:AllBare s'.gens)
  (lN:∀b∈ch,(b∈X.ex∨X.s₀.heap.objs.size≤b)∧b≠X.env.locals∧(∀x c,X.env.cells.lookup x=some c→c≠b)∧∀p∈X.pn++pins,p.1≠b):Inv X pins σ H' s':=by
 obtain ⟨h',g',d',t',o'⟩:=s';have e:o'=s.os:=ho;subst e;exact I.call (g':=g') (t':=t') (d':=d') u az hg lN
end
abbrev XK:=Value→Option Addr→Hp→Prop
abbrev St:=List (Option V)
abbrev VK:=V→Hp→Prop
abbrev TE:=St→Hp→VK→Prop
abbrev TT:=St→Hp→(Bool→Hp→Prop)→Prop
abbrev TA:=St→Hp→(List V→Hp→Prop)→Prop
structure Ends where
 nx:St→Hp→Prop
 rt:VK
 bk:St→Hp→Prop:=fun _ _=>False
 ct:St→Hp→Prop:=fun _ _=>False
abbrev TS:=Ends→St→Hp→Prop
def EP(X:Cx)(pins:aU)(σ:St)(Q:VK)(u:Value)(s':Shared):Prop:=∃v H',Inv X pins σ H' s'∧RelV v u∧Q v H'
def TP(X:Cx)(pins:aU)(σ:St)(Q:Bool→Hp→Prop)(b:Bool)(s':Shared):Prop:=∃H',Inv X pins σ H' s'∧Q b H'
def AP(X:Cx)(pins:aU)(σ:St)(Q:List V→Hp→Prop)(us:List Value)(s':Shared):Prop:=∃vs H',Inv X pins σ H' s'∧Vals vs us∧Q vs H'
def SP(X:Cx)(pins:aU)(D:Ends)(f:Flow)(s':Shared):Prop:=
 match f with
 | .next=>∃σ' H',Inv X pins σ' H' s'∧D.nx σ' H'
 | .brk=>∃σ' H',Inv X pins σ' H' s'∧D.bk σ' H'
 | .cont=>∃σ' H',Inv X pins σ' H' s'∧D.ct σ' H'
 | .ret u=>∃v σ' H',Inv X pins σ' H' s'∧RelV v u∧D.rt v H'
def PE(X:Cx)(e:Expr)(t:TE):Prop:=
 ∀(pins:aU) (s:Shared) (σ:St) (H:Hp) (Q:VK),Inv X pins σ H s→t σ H Q→wpAny (model X.prog X.w) X.A (eval e X.env) (EP X pins σ Q) X.xe s
def PT(X:Cx)(e:Expr)(t:TT):Prop:=
 ∀(pins:aU) (s:Shared) (σ:St) (H:Hp) (Q:Bool→Hp→Prop),Inv X pins σ H s→t σ H Q→wpAny (model X.prog X.w) X.A (isTrue e X.env (eval e X.env)) (TP X pins σ Q) X.xe s
def PW(X:Cx)(e:Expr)(t:TT):Prop:=
 ∀(whole:Sem Value) (pins:aU) (s:Shared) (σ:St) (H:Hp) (Q:Bool→Hp→Prop),Inv X pins σ H s→t σ H Q→wpAny (model X.prog X.w) X.A (isTrue e X.env whole) (TP X pins σ Q) X.xe s
variable {X:Cx}
theorem PW.pt{e:Expr}{t:TT}(h:PW X e t):PT X e t:=h _
def PA(X:Cx)(es:List Expr)(t:TA):Prop:=
 ∀(pos:Pos) (pins:aU) (s:Shared) (σ:St) (H:Hp) (Q:List V→Hp→Prop),Inv X pins σ H s→t σ H Q→wpAny (model X.prog X.w) X.A (spliced (backTo pos (starEach es X.env))) (AP X pins σ Q) X.xe s
def PS(X:Cx)(st:Stmt)(t:TS):Prop:=
 ∀(pins:aU) (s:Shared) (σ:St) (H:Hp) (D:Ends),Inv X pins σ H s→t D σ H→wpAny (model X.prog X.w) X.A (exec st X.env) (SP X pins D) X.xe s
def eN(X:Cx)(st:List Stmt)(t:TS):Prop:=
 ∀(pins:aU) (s:Shared) (σ:St) (H:Hp) (D:Ends),Inv X pins σ H s→t D σ H→wpAny (model X.prog X.w) X.A (execs st X.env) (SP X pins D) X.xe s
variable {M:Model} {A:Around} {E:aR} {s:Shared}
theorem aO{α:Type}{t:Sem α}{Q Q':α→Shared→Prop}(h:wpAny M A t Q E s)(hQ:∀a s,Q a s→Q' a s):wpAny M A t Q' E s:=bW h hQ fun _ _ x=>x
section
variable {X:Cx}
variable {pins:aU} {σ:St}
theorem bin{a b:Expr}{ta tb:TE}(ha:PE X a ta)(hb:PE X b tb){R:V→V→Hp→Prop}(I:Inv X pins σ H s)(h:ta σ H fun x H1=>tb σ H1 fun y H2=>R x y H2)
  {α:Type} {Q:α→Shared→Prop} {f:Value→Value→Sem α}
  (hf:∀v u s2 x y H2,Inv X pins σ H2 s2→RelV x v→RelV y u→R x y H2→wpAny (model X.prog X.w) X.A (f v u) Q X.xe s2) :
  wpAny (model X.prog X.w) X.A (eval a X.env) (fun v s₁=>wpAny (model X.prog X.w) X.A (eval b X.env) (fun u s₂=>wpAny (model X.prog X.w) X.A (f v u) Q X.xe s₂) X.xe s₁) X.xe s:=by
 refine aO (ha pins s σ H _ I h) fun v s1 ⟨x,H1,I1,r1,q1⟩=>?_;refine aO (hb pins s1 σ H1 _ I1 q1) fun u s2 ⟨y,H2,I2,r2,q2⟩=>?_;exact hf v u s2 x y H2 I2 r1 r2 q2
def IL(i:Nat):TE:=fun σ H Q=>∃v,σ[i]?=some (some v)∧Q v H
def tC(v:V):TE:=fun _ H Q=>Q v H
variable {x:Str} {pos:Pos}
theorem PK{i:Nat}(hN:X.N[i]?=some x)(hv:mS X.env.scope x)(hd:(x == ("__debug__":Str))=false:=by decide)(fS:(x == ("__classdict__":Str))=false:=by decide):PE X (.Name x pos) (IL i):=by
 intro pins s σ H Q I h;obtain ⟨v,e,h⟩:=h;obtain ⟨m,hn,hl⟩:=I.loc;obtain ⟨u,r,l⟩:=hl i x v hN e hv;have fin:EP X pins σ Q u s:=⟨v,H,I,r,h⟩;rcases l with ⟨hk,hm⟩ | ⟨hk,c,hc,Av⟩;·exact wpAny_Name (wpAny_loadName_local I.ok.kind hk hn hm fin) hd
 ·rcases hk with hk | hk
  ·exact wpAny_Name (wpAny_loadName_cell I.ok.kind hk hc Av fin) hd
  ·exact wpAny_Name (wpAny_loadName_free I.ok.kind hk hc Av fin fS) hd
theorem ag{i j pos}:PE X (.Constant (.int i) j pos) (tC (.int i)):=fun _ _ _ H _ I h=>wpAny_Constant_int ⟨.int i,H,I.tok _,⟨_,rfl⟩,h⟩
theorem d9{b j pos}:PE X (.Constant (.bool b) j pos) (tC (.bl b)):=fun _ _ _ H _ I h=>Constant_bool ⟨.bl b,H,I,rfl,h⟩
theorem kI{j pos}:PE X (.Constant .none j pos) (tC .aI):=fun _ _ _ H _ I h=>Constant_none ⟨.aI,H,I,rfl,h⟩
theorem fT{x j pos}:PE X (.Constant (.str x) j pos) (tC (.str x)):=fun _ _ _ H _ I h=>Calls.Constant_str ⟨.str x,H,I.tok _,⟨_,rfl⟩,h⟩
def Gl(X:Cx)(x:Str):Prop:=X.env.kindOf x=some .globalImplicit
variable {u:Value} {Q:aR}
theorem Aw(I:Inv X pins σ H s)(hg:Gl X x)(hm:X.mg x=some u)(h:Q u s)
  (hd:(x == ("__debug__":Str))=false:=by decide):wpAny (model X.prog X.w) X.A (eval (.Name x pos) X.env) Q E s:=
 Calls.Name_function_global I.ok.kind hg (Calls.loadGlobal_global (by rw [I.ok.glob];exact I.mod.glob.keeps I.bk) hm h) hd
theorem qg(I:Inv X pins σ H s)(hg:Gl X x)(hm:X.mg x=none)(hv:bootBuiltins x=some u)(h:Q u s)
  (hn:x ≠ "__name__":=by decide) (hd:(x == ("__debug__":Str))=false:=by decide):wpAny (model X.prog X.w) X.A (eval (.Name x pos) X.env) Q E s:=by
 obtain ⟨mb,h1,h2⟩:=I.mod.blt;exact Calls.Name_function_global I.ok.kind hg (Calls.loadGlobal_builtin (by rw [I.ok.glob];exact I.mod.glob.keeps I.bk) hm (by rw [I.ok.blt];exact h1.keeps I.bk) ((h2 x hn).trans hv) h) hd
variable {v:V}
theorem IM(hg:Gl X x)(hm:X.mg x=some u)(r:RelV v u)(hd:(x == ("__debug__":Str))=false:=by decide):PE X (.Name x pos) (tC v):=
 fun _ _ _ H _ I h=>Aw I hg hm ⟨v,H,I,r,h⟩ hd
theorem kJ(hg:Gl X x)(hm:X.mg x=none)(hv:bootBuiltins x=some u)(r:RelV v u)(hn:x ≠ "__name__":=by decide)(hd:(x == ("__debug__":Str))=false:=by decide):PE X (.Name x pos) (tC v):=
 fun _ _ _ H _ I h=>qg I hg hm hv ⟨v,H,I,r,h⟩ hn hd
variable {a b:Expr} {ta tb:TE} {pos:Pos}
def PC(X:Cx)(op:CmpOp)(a b:Expr)(t:TE):Prop:=
 ∀(pins:aU) (s:Shared) (σ:St) (H:Hp) (Q:VK),Inv X pins σ H s→t σ H Q→
  wpAny (model X.prog X.w) X.A (eval a X.env) (fun v s₁=>wpAny (model X.prog X.w) X.A (eval b X.env) (fun u s₂=>wpAny (model X.prog X.w) X.A (compareOp op v u) (EP X pins σ Q) X.xe s₂) X.xe s₁) X.xe s
def tB(t:TE):TT:=fun σ H Q=>t σ H fun x H1=>∃c,x=.bl c∧Q c H1
variable {t:TE}
theorem aca{op:CmpOp}(h:PC X op a b t)(h1:behindInMarks op b=false:=by first | exact acb _ (by decide) (by decide) | rfl):PT X (.Compare a [op] [b] pos) (tB t):=by intro pins s σ H Q I hw;refine wpAny_isTrue_Compare1 (aO (h pins s σ H _ I hw) fun v s1 h1=>aO h1 fun u s2 h2=>aO h2 fun c s3 ⟨x,H1,I1,r1,q1⟩=>?_) h1;obtain ⟨d,rfl,q⟩:=q1;cases r1;exact oq ⟨H1,I1,q⟩
theorem gN{e:Expr}(h:PE X e t)(he:∀whole,isTrue e X.env whole=(do let v ←whole;standAt e.pos;holding [v] (truthy v)):=by intro _;rfl):PT X e (tB t):=by
 intro pins s σ H Q I hw
 refine isTrue_plain (aO (h pins s σ H _ I hw) fun v s1 ⟨x,H1,I1,r1,q1⟩=>?_) (he _)
 obtain ⟨d,rfl,q⟩:=q1
 cases r1
 exact oq ⟨H1,I1,q⟩
variable {tA yk:TT} {rest:List Expr}
def PL(t u:TT):TT:=fun σ H Q=>t σ H fun c H1=>if c=true then u σ H1 Q else Q false H1
def PM(t u:TT):TT:=fun σ H Q=>t σ H fun c H1=>if c=true then Q true H1 else u σ H1 Q
def IP(t:TT):TT:=fun σ H Q=>t σ H fun c H1=>Q (!c) H1
theorem pw_and1(ha:PT X a tA):PW X (.BoolOp .And [a] pos) tA:=by
 intro wh pins s σ H Q I h;refine isTrue_and (aO (ha pins s σ H Q I h) fun c s1 e=>?_);cases c with
 | true=>exact isTrue_and_nil e
 | false=>exact e
theorem pw_or1(ha:PT X a tA):PW X (.BoolOp .Or [a] pos) tA:=by
 intro wh pins s σ H Q I h;refine isTrue_or (aO (ha pins s σ H Q I h) fun c s1 e=>?_);cases c with
 | false=>exact isTrue_or_nil e
 | true=>exact e
theorem pw_and(ha:PT X a tA)(hb:PW X (.BoolOp .And (b::rest) pos) yk):PW X (.BoolOp .And (a::b::rest) pos) (PL tA yk):=by
 intro wh pins s σ H Q I h;refine isTrue_and (aO (ha pins s σ H _ I h) fun c s1 ⟨H1,I1,q1⟩=>?_);cases c with
 | true=>exact hb wh pins s1 σ H1 Q I1 q1
 | false=>exact ⟨H1,I1,q1⟩
theorem pw_or(ha:PT X a tA)(hb:PW X (.BoolOp .Or (b::rest) pos) yk):PW X (.BoolOp .Or (a::b::rest) pos) (PM tA yk):=by
 intro wh pins s σ H Q I h;refine isTrue_or (aO (ha pins s σ H _ I h) fun c s1 ⟨H1,I1,q1⟩=>?_);cases c with
 | true=>exact ⟨H1,I1,q1⟩
 | false=>exact hb wh pins s1 σ H1 Q I1 q1
theorem je(ha:PT X a tA):PT X (.UnaryOp .Not a pos) (IP tA):=by intro pins s σ H Q I h;exact isTrue_not (ha pins s σ H (fun c H1=>Q (!c) H1) I h)
def PN(ta tb:TE):TE:=fun σ H Q=>ta σ H fun x H1=>∃c,x=.bl c∧if c=true then tb σ H1 Q else Q (.bl false) H1
def PQ(ta:TE):TE:=fun σ H Q=>ta σ H fun x H1=>∃c,x=.bl c∧Q (.bl (!c)) H1
theorem ue{op}(h:PE X a t):PE X (.BoolOp op [a] pos) t:=fun pins s σ H Q I hw=>BoolOp_one (h pins s σ H Q I hw)
theorem oG(ha:PE X a ta)(hb:PE X (.BoolOp .And (b::rest) pos) tb):PE X (.BoolOp .And (a::b::rest) pos) (PN ta tb):=by
 intro pins s σ H Q I h;refine BoolOp_and (aO (ha pins s σ H _ I h) fun v s1 ⟨x,H1,I1,r1,q1⟩=>?_);obtain ⟨c,rfl,q1⟩:=q1;cases r1;refine oq ?_;cases c with
 | true=>exact hb pins s1 σ H1 Q I1 q1
 | false=>exact ⟨.bl false,H1,I1,rfl,q1⟩
theorem IQ(ha:PE X a ta):PE X (.UnaryOp .Not a pos) (PQ ta):=by intro pins s σ H Q I h;refine UnaryOp_ (aO (ha pins s σ H _ I h) fun v s1 ⟨x,H1,I1,r1,q1⟩=>?_);obtain ⟨c,rfl,q1⟩:=q1;cases r1;exact not_of (oq ⟨.bl (!c),H1,I1,rfl,q1⟩)
def PR(t:TT)(ta tb:TE):TE:=fun σ H Q=>t σ H fun c H1=>if c=true then ta σ H1 Q else tb σ H1 Q
theorem IS{c:Expr}(hc:PT X c tA)(ha:PE X a ta)(hb:PE X b tb):PE X (.IfExp c a b pos) (PR tA ta tb):=by
 intro pins s σ H Q I h;refine wpAny_IfExp (aO (hc pins s σ H _ I h) fun d s1 ⟨H1,I1,q1⟩=>?_);cases d with
 | true=>exact ha pins s1 σ H1 Q I1 q1
 | false=>exact hb pins s1 σ H1 Q I1 q1
end
def b5(K:aC)(H:Hp)(a:Addr)(xs:List V):Prop:=
 Rd H a (.lst xs) ∨
  ∃(o:Obj) (ai:Array Value) (n:Nat),K.lookup a=some o∧o.cls=.type "list"∧o.dict=none∧o.data=.seq ai n∧ai.size≤sizeLine∧Vals xs ai.toList
def dO(K:aC)(H:Hp)(a:Addr)(xs:List V):Prop:=
 Rd H a (.tup xs) ∨
  ∃(o:Obj) (ai:Array Value) (n:Nat),K.lookup a=some o∧o.cls=.type "tuple"∧o.data=.seq ai n∧ai.size≤sizeLine∧Vals xs ai.toList
def PU:Value→Option V
 | .none=>some .aI
 | .bool b=>some (.bl b)
 | .int i _=>some (.int i)
 | .str x _=>some (.str x)
 | .bytes b _=>some (.jU b)
 | .float b _=>some (.p_ b)
 | .ref a=>some (.ref a)
 | .type n=>some (.ty n)
 | _=>none
variable {x:V} {u:Value}
theorem RelV.abs(r:RelV x u):PU u=some x:=by
 cases x with
 | aI=>cases r;rfl
 | bl _=>cases r;rfl
 | int _=>obtain ⟨t,rfl⟩:=r;rfl
 | str _=>obtain ⟨t,rfl⟩:=r;rfl
 | jU _=>obtain ⟨t,rfl⟩:=r;rfl
 | p_ _=>obtain ⟨t,rfl⟩:=r;rfl
 | ref _=>cases r;rfl
 | ty _=>cases r;rfl
theorem RelV.inj{y:V}(r:RelV x u)(q:RelV y u):x=y:=Option.some.inj (r.abs.symm.trans q.abs)
theorem Vals.inj:∀{xs ys:List V} {us:List Value},Vals xs us→Vals ys us→xs=ys
 | _,_,_,.nil,.nil=>rfl
 | _,_,_,.cons r t,.cons r' t'=>by rw [r.inj r',Vals.inj t t']
section
variable {X:Cx} {pins:aU} {σ:St} {H:Hp} {s:Shared} {a:Addr} {xs ys:List V}
variable {K:aC}
theorem b5.of(h:H a=some (.lst xs)):b5 K H a xs:=.inl (.inl h)
theorem dO.of(h:H a=some (.tup xs)):dO K H a xs:=.inl (.inl h)
theorem Inv.list(I:Inv X pins σ H s)(h:b5 X.K H a xs):∃ai:List Value,Vals xs ai∧PlainL s.heap a ai.toArray∧xs.length≤sizeLine:=by
 rcases h with h | ⟨o,ai,n,hk,hc,hd,hs,hz,r⟩
 ·obtain ⟨z,ai,n,r,e⟩:=h.ok I.az
  exact ⟨ai,r,⟨_,n,e,rfl,rfl,rfl⟩,z⟩
 ·refine ⟨ai.toList,r,⟨o,n,I.dG a o hk,hc,hd,by simpa using hs⟩,?_⟩
  have e:=r.length;simp only [Array.length_toList] at e;lia
theorem Inv.tuple(I:Inv X pins σ H s)(h:dO X.K H a xs):∃ai:List Value,Vals xs ai∧IsTup s.heap a ai.toArray∧xs.length≤sizeLine:=by
 rcases h with h | ⟨o,ai,n,hk,hc,hs,hz,r⟩
 ·obtain ⟨z,ai,r,p⟩:=h.ok I.az
  exact ⟨ai,r,p,z⟩
 ·refine ⟨ai.toList,r,⟨o,I.dG a o hk,hc,n,by simpa using hs⟩,?_⟩
  have e:=r.length;simp only [Array.length_toList] at e;lia
theorem Inv.IT(I:Inv X pins σ H s)(h:b5 X.K H a xs)(h':b5 X.K H a ys):xs=ys:=by
 obtain ⟨ai,r,⟨o,n,e,_,_,d⟩,_⟩:=I.list h;obtain ⟨its',r',⟨o',n',e',_,_,d'⟩,_⟩:=I.list h';rw [e] at e';cases e';rw [d] at d';injection d' with d1 _;have:ai=its':=by simpa using hV Array.toList d1
 subst this;exact r.inj r'
theorem Inv.PV(I:Inv X pins σ H s)(h:dO X.K H a xs)(h':dO X.K H a ys):xs=ys:=by
 obtain ⟨ai,r,⟨o,e,_,n,d⟩,_⟩:=I.tuple h;obtain ⟨its',r',⟨o',e',_,n',d'⟩,_⟩:=I.tuple h';rw [e] at e';cases e';rw [d] at d';injection d' with d1 _;have:ai=its':=by simpa using hV Array.toList d1
 subst this;exact r.inj r'
end
abbrev Cx.lP (X:Cx) (E:aR):Cx:={X with xe:=E}
abbrev Cx.lQ (X:Cx):Cx:=X.lP fun _ _=>False
theorem Cx.Ok.lP(ok:X.Ok)(E:aR):(X.lP E).Ok:=
 ⟨ok.mod,ok.kind,ok.glob,ok.blt,ok.above,ok.inj,ok.has,ok.qc,ok.hd,ok.frames,ok.jd,ok.Iy,ok.bs,ok.gM,ok.mT,ok.mU,ok.jV,ok.mV⟩
theorem Cx.Ok.oH(ok:(X.lP E).Ok):X.Ok:=
 ⟨ok.mod,ok.kind,ok.glob,ok.blt,ok.above,ok.inj,ok.has,ok.qc,ok.hd,ok.frames,ok.jd,ok.Iy,ok.bs,ok.gM,ok.mT,ok.mU,ok.jV,ok.mV⟩
section
variable {X:Cx} {pins:aU} {σ:St} {H:Hp} {s:Shared} {E:aR}
theorem Inv.lP(I:Inv X pins σ H s)(E:aR):Inv (X.lP E) pins σ H s:=⟨I.ok.lP E,I.os,I.bare,I.base,I.loc,I.cell,I.free,I.iK,I.pin,I.az,I.len⟩
theorem Inv.oH(I:Inv (X.lP E) pins σ H s):Inv X pins σ H s:=⟨I.ok.oH,I.os,I.bare,I.base,I.loc,I.cell,I.free,I.iK,I.pin,I.az,I.len⟩
theorem SP.oH{D:Ends}{f:Flow}{s':Shared}(h:SP (X.lP E) pins D f s'):SP X pins D f s':=by
 cases f with
 | next=>obtain ⟨σ',H',I,q⟩:=h;exact ⟨σ',H',I.oH,q⟩
 | brk=>obtain ⟨σ',H',I,q⟩:=h;exact ⟨σ',H',I.oH,q⟩
 | cont=>obtain ⟨σ',H',I,q⟩:=h;exact ⟨σ',H',I.oH,q⟩
 | ret u=>obtain ⟨v,σ',H',I,r,q⟩:=h;exact ⟨v,σ',H',I.oH,r,q⟩
theorem eN.lQ{st:List Stmt}{t:TS}(h:eN X.lQ st t):eN X st t:=fun pins s σ H D I hw=>bW (h pins s σ H D (I.lP _) hw) (fun _ _ q=>q.oH) fun _ _ z=>False.elim z
end
section
variable {X:Cx} {st:Stmt} {rest:List Stmt} {t u:TS} {e:Expr} {te:TE} {pos:Pos}
def D8:TS:=fun D σ H=>D.nx σ H
def D9(t u:TS):TS:=fun D σ H=>t {D with nx:=u D} σ H
theorem bL:eN X [] D8:=fun _ _ σ H _ I h=>z_ ⟨σ,H,I,h⟩
theorem ak(h1:PS X st t)(h2:eN X rest u):eN X (st::rest) (D9 t u):=by
 intro pins s σ H D I h;refine wpAny_execs_cons (aO (h1 pins s σ H {D with nx:=u D} I h) fun f s1 q=>?_);cases f with
 | next=>obtain ⟨σ',H',I',q⟩:=q;exact h2 pins s1 σ' H' D I' q
 | ret v=>exact q
 | brk=>exact q
 | cont=>exact q
theorem ao(h1:PS X st t):eN X [st] t:=by
 intro pins s σ H D I h;refine wpAny_execs_cons (aO (h1 pins s σ H D I h) fun f s1 q=>?_);cases f with
 | next=>exact z_ q
 | ret v=>exact q
 | brk=>exact q
 | cont=>exact q
theorem Inv.quiet{pins:aU}{σ:St}(I:Inv X pins σ H s):interactive X.env=false:=by simp [interactive,I.ok.kind]
def PX(te:TE):TS:=fun D σ H=>te σ H fun _ H1=>D.nx σ H1
theorem gX(he:PE X e te)(hs:swapsWith e none pos.line X.env=pure false:=by rfl):PS X (.Expr e pos) (PX te):=by intro pins s σ H D I h;exact wpAny_Expr_any (aO (he pins s σ H _ I h) fun v s1 ⟨x,H1,I1,r1,q1⟩=>⟨σ,H1,I1,q1⟩) I.quiet hs
def IU(te:TE):TS:=fun D σ H=>te σ H D.rt
theorem aE(he:PE X e te):PS X (.Return (some e) pos) (IU te):=by intro pins s σ H D I h;exact wpAny_Return_some (aO (he pins s σ H _ I h) fun v s1 ⟨x,H1,I1,r1,q1⟩=>⟨x,σ,H1,I1,r1,q1⟩)
def IV(c:TT)(t u:TS):TS:=fun D σ H=>c σ H fun b H1=>if b=true then t D σ H1 else u D σ H1
theorem bK{c:Expr}{a b:List Stmt}{tc:TT}(hc:PT X c tc)(ha:eN X a t)(hb:eN X b u):PS X (.If c a b pos) (IV tc t u):=by
 intro pins s σ H D I h;refine wpAny_If (aO (hc pins s σ H _ I h) fun d s1 ⟨H1,I1,q1⟩=>?_);cases d with
 | true=>exact ha pins s1 σ H1 D I1 q1
 | false=>exact hb pins s1 σ H1 D I1 q1
def PY:TS:=fun _ _ _=>False
theorem PZ{P0:List Stmt}:eN X P0 PY:=fun _ _ _ _ _ _ h=>h.elim
end
abbrev TG:=V→St→Hp→(St→Hp→Prop)→Prop
abbrev qh:=List V→St→Hp→(St→Hp→Prop)→Prop
def PG(X:Cx)(target:Expr)(t:TG):Prop:=
 ∀(pins:aU) (s:Shared) (σ:St) (H:Hp) (v:V) (u:Value) (Q:St→Hp→Prop),Inv X pins σ H s→RelV v u→t v σ H Q→
  wpAny (model X.prog X.w) X.A (assign target X.env u) (fun _ s'=>∃σ' H',Inv X pins σ' H' s'∧Q σ' H') X.xe s
def Ax(X:Cx)(ts:List Expr)(t:qh):Prop:=
 ∀(pins:aU) (s:Shared) (σ:St) (H:Hp) (vs:List V) (us:List Value) (Q:St→Hp→Prop),Inv X pins σ H s→Vals vs us→t vs σ H Q→
  wpAny (model X.prog X.w) X.A (assignInOrder ((assignEach ts X.env).map (·.2)) us) (fun _ s'=>∃σ' H',Inv X pins σ' H' s'∧Q σ' H') X.xe s
abbrev D_:=V→V→V→Hp→(Hp→Prop)→Prop
def IW(X:Cx)(t:D_):Prop:=
 ∀(pins:aU) (s:Shared) (σ:St) (H:Hp) (o i v:V) (ov iv u:Value) (Q:Hp→Prop),Inv X pins σ H s→RelV o ov→RelV i iv→RelV v u→t o i v H Q→
  wpAny (model X.prog X.w) X.A (setItem ov iv u) (fun _ s'=>∃H',Inv X pins σ H' s'∧Q H') X.xe s
abbrev Ay:=V→V→Hp→VK→Prop
def IY(X:Cx)(op:Operator)(t:Ay):Prop:=
 ∀(pins:aU) (s:Shared) (σ:St) (H:Hp) (x y:V) (v u:Value) (Q:VK),Inv X pins σ H s→RelV x v→RelV y u→t x y H Q→
  wpAny (model X.prog X.w) X.A (inplaceOp op v u) (EP X pins σ Q) X.xe s
section
variable {X:Cx} {pos:Pos}
def bR(i:Nat):TG:=fun v σ H Q=>Q (σ.set i (some v)) H
variable {i:Nat}
theorem bP{x:Str}(hN:X.N.Nodup)(hi:X.N[i]?=some x)(hx:Loc X.env.scope x)(hf:X.fn x=true∨X.env.scope.names.lookup x=some .local:=by first | exact .inl rfl | exact .inr rfl | assumption):PG X (.Name x pos) (bR i):=by intro pins s σ H v u Q I r h;exact Aa (yj I hN hi hx r (fun s' I'=>⟨_,H,I',h⟩) hf)
def Ea:qh:=fun vs σ H Q=>vs=[]∧Q σ H
def yl(t:TG)(u:qh):qh:=fun vs σ H Q=>∃v r,vs=v::r∧t v σ H fun σ' H'=>u r σ' H' Q
theorem mW:Ax X [] Ea:=by intro pins s σ H vs us Q I r h;obtain ⟨e,h⟩:=h;subst e;cases r;exact assignInOrder_nil ⟨σ,H,I,h⟩
variable {e:Expr} {es:List Expr}
theorem fM{t:TG}{u:qh}(h1:PG X e t)(h2:Ax X es u)
  (hs:(assignEach (e::es) X.env).map (·.2)=assign e X.env::(assignEach es X.env).map (·.2):=by rfl):Ax X (e::es) (yl t u):=by
 intro pins s σ H vs us Q I r h;obtain ⟨v,vr,e1,h⟩:=h;subst e1;cases r with
 | cons r rr=>rw [hs];refine assignInOrder_cons (aO (h1 pins s σ H _ _ _ I r h) fun _ s1 ⟨σ1,H1,I1,q1⟩=>?_);exact h2 pins s1 σ1 H1 _ _ Q I1 rr q1
def Eb(K:aC)(n:Nat)(t:qh):TG:=fun v σ H Q=>∃a xs,v=.ref a∧dO K H a xs∧xs.length=n∧t xs σ H Q
theorem mX{k:Nat}{t:qh}{n:Nat}(hc:X.calm=true)(h:Ax X es t)
  (hn:(assignEach es X.env).length=n:=by rfl) (Ec:(assignEach es X.env).findIdx? (·.1)=none:=by rfl):PG X (.Tuple es k pos) (Eb X.K n t):=by
 intro pins s σ H v u Q I r hw;obtain ⟨a,xs,e1,hq,hl,hw⟩:=hw;subst e1;cases r;obtain ⟨ai,rv,ht,hz⟩:=I.tuple hq;refine assign_Tuple_tuple (I.ok.hd hc) ht (by simp [hn,←hl,rv.length]) Ec fun h' hx=>?_
 have I1:Inv X pins σ H {s with heap:=h'}:=I.kept (t':=s.toks) fun b o e=>hx b o (d5 (bU e)) e;exact h pins _ σ H xs _ Q I1 (by simpa using rv) hw
def P1(to ti:TE)(t:D_):TG:=fun v σ H Q=>to σ H fun o H1=>ti σ H1 fun i H2=>t o i v H2 fun H3=>Q σ H3
theorem jf{o i:Expr}{to ti:TE}{t:D_}(ho:PE X o to)(hi:PE X i ti)(hs:IW X t)
  (ha:∀v,assign (.Subscript o i pos) X.env v=(do
   let ov ←holding [v] (eval o X.env)
   let iv ←holding [v,ov] (eval i X.env)
   standAt pos
   holding [v,ov,iv] (setItem ov iv v)
   release [v,ov,iv] []):=by intro _;rfl):PG X (.Subscript o i pos) (P1 to ti t):=by
 intro pins s σ H v u Q I r h
 rw [ha]
 refine b7 (wpAny_holding (aO (ho pins s σ H _ I h) fun ov s1 ⟨x,H1,I1,r1,q1⟩=>?_))
 refine b7 (wpAny_holding (aO (hi pins s1 σ H1 _ I1 q1) fun iv s2 ⟨y,H2,I2,r2,q2⟩=>?_))
 refine b7 (tU (b7 (wpAny_holding (aO (hs pins s2 σ H2 x y v ov iv u _ I2 r1 r2 r q2) fun _ s3 ⟨H3,I3,q3⟩=>?_))))
 exact wpAny_release ⟨σ,H3,I3,q3⟩
def mY(te:TE)(g:TG):TS:=fun D σ H=>te σ H fun x H1=>g x σ H1 D.nx
theorem ig{tg e:Expr}{te:TE}{g:TG}(he:PE X e te)(hg:PG X tg g)(hs:swapsWithSole [tg] e pos.line X.env=pure false:=by rfl)(hw:swappedStores [tg] e X.env=pure none:=by rfl)
  (h1:(assignEach [tg] X.env).map (·.2)=[assign tg X.env]:=by rfl):PS X (.Assign [tg] e pos) (mY te g):=by
 intro pins s σ H D I h;refine wpAny_Assign_stores (aO (he pins s σ H _ I h) fun v s1 ⟨x,H1,I1,r1,q1⟩=>?_) hs hw;rw [h1];exact aO (hg pins s1 σ H1 x v _ I1 r1 q1) fun _ s2 q=>q
variable {te:TE} {pos':Pos}
theorem P2{x:Str}(hN:X.N.Nodup)(hi:X.N[i]?=some x)(hx:Loc X.env.scope x)(he:PE X e te)(hs:swapsWith e (some (.Name x pos')) pos.line X.env=pure false:=by rfl)(hf:X.fn x=true∨X.env.scope.names.lookup x=some .local:=by first | exact .inl rfl | exact .inr rfl | assumption) :
  PS X (.Assign [.Name x pos'] e pos) (mY te (bR i)):=by
 intro pins s σ H D I h;refine wpAny_Assign_Name (aO (he pins s σ H _ I h) fun v s1 ⟨y,H1,I1,r1,q1⟩=>?_) hs;exact yj I1 hN hi hx r1 (fun s2 I2=>⟨_,H1,I2,q1⟩) hf
def P4(i j:Nat)(ta:TA):TS:=fun D σ H=>ta σ H fun vs H1=>∃v w,vs=[v,w]∧D.nx ((σ.set i (some v)).set j (some w)) H1
theorem Az{j:Nat}{x y:Str}{a b:Expr}{ta:TA}{px py pt:Pos}{kt k2 Ed}(hc:X.calm=true)(hN:X.N.Nodup)(hi:X.N[i]?=some x)(hj:X.N[j]?=some y)(qi:i≠j)
  (hx:X.env.scope.names.lookup x=some .local) (hy:X.env.scope.names.lookup y=some .local) (ha:PA X [a,b] ta)
  (hw:swappedStores [.Tuple [.Name x px,.Name y py] kt pt] (.Tuple [a,b] k2 Ed) X.env=pure (some [x,y]))
  (hs:swapsWithSole [.Tuple [.Name x px,.Name y py] kt pt] (.Tuple [a,b] k2 Ed) pos.line X.env=pure false:=by rfl) :
  PS X (.Assign [.Tuple [.Name x px,.Name y py] kt pt] (.Tuple [a,b] k2 Ed) pos) (P4 i j ta):=by
 intro pins s σ H D I h
 rw [exec_Assign_arm]
 refine b7 (tU ?_)
 rw [hs]
 refine b7 (dM ?_)
 rw [au (by decide)]
 refine b7 (Tuple_ (aO (ha _ pins s σ H _ I h) fun us s1 ⟨vs,H1,I1,r1,q1⟩=>?_))
 obtain ⟨v,w,e1,q1⟩:=q1
 subst e1
 obtain ⟨u1,u2,rfl,rv,mZ⟩:∃u1 u2,us=[u1,u2]∧RelV v u1∧RelV w u2:=by
  cases r1 with
  | cons p q=>
   cases q with
   | cons p' q'=>
    cases q'
    exact ⟨_,_,rfl,p,p'⟩
 refine tV ?_ (by show 2≤sizeLine;decide)
 have I2:Inv X pins σ H1 {s1 with heap:=s1.heap.push {cls:=.type "tuple",data:=.seq [u1,u2].toArray}}:=I1.kept (t':=s1.toks) fun b o e=>cz _ e
 rw [hw]
 refine b7 (dM ?_)
 show wpAny (model X.prog X.w) X.A (do rule "assign.swapped-stores";let items ←unpackItems (.ref s1.heap.objs.size) 2 none;assignInOrder [fun v=>bindName X.env y v,fun v=>bindName X.env x v] items.reverse;pure Flow.next) _ _ _
 refine b7 (wpAny_rule (b7 (unpackItems_tuple (items:=#[u1,u2]) (I.ok.hd hc) (IsTup.new s1.heap _) fun h' AA=>?_)))
 have I3:=I2.kept (h':=h') (t':=s1.toks) fun b o e=>AA b o (d5 (bU e)) e
 show wpAny _ _ (assignInOrder [fun v=>bindName X.env y v,fun v=>bindName X.env x v] [u2,u1] >>= fun _=>pure Flow.next) _ _ _
 refine b7 (assignInOrder_cons (wpAny_bindName (yj I3 hN hj (.inl hy) mZ (fun s2 I4=>?_) (.inr hy))))
 refine assignInOrder_cons (wpAny_bindName (yj I4 hN hi (.inl hx) rv (fun s3 I5=>assignInOrder_nil (dM ?_)) (.inr hx)))
 rw [List.set_comm _ _ (Ne.symm qi)] at I5
 exact ⟨_,H1,I5,q1⟩
def P5(i:Nat)(te:TE)(ti:Ay):TS:=fun D σ H=>∃x,σ[i]?=some (some x)∧te σ H fun y H1=>ti x y H1 fun z H2=>D.nx (σ.set i (some z)) H2
theorem P6{x:Str}{op:Operator}{ti:Ay}(hN:X.N.Nodup)(hi:X.N[i]?=some x)(hx:Loc X.env.scope x)(he:PE X e te)(ho:IY X op ti)(hf:X.fn x=true∨X.env.scope.names.lookup x=some .local:=by first | exact .inl rfl | exact .inr rfl | assumption) :
  PS X (.AugAssign (.Name x pos') op e pos) (P5 i te ti):=by
 intro pins s σ H D I h;obtain ⟨v,e1,h⟩:=h;obtain ⟨m,hn,hl⟩:=I.loc;have P7:mS X.env.scope x:=by rcases hx with k | k;exact .inl k;exact .inr (.inl k)
 obtain ⟨u,r,l⟩:=hl i x v hi e1 P7;refine wpAny_AugAssign_Name ?_;have go:wpAny (model X.prog X.w) X.A (eval e X.env) (fun w s₂=>wpAny (model X.prog X.w) X.A (inplaceOp op u w) (fun r s₃=>wpAny (model X.prog X.w) X.A (storeName X.env x r) (fun _=>SP X pins D .next) X.xe s₃) X.xe s₂) X.xe s:=by refine aO (he pins s σ H _ I h) fun w s1 ⟨y,H1,I1,r1,q1⟩=>?_;refine aO (ho pins s1 σ H1 v y u w _ I1 r r1 q1) fun z s2 ⟨zv,H2,I2,r2,q2⟩=>?_;exact yj I2 hN hi hx r2 (fun s3 I3=>⟨_,H2,I3,q2⟩) hf
 rcases l with ⟨hk,hm⟩ | ⟨hk,c,hc,Av⟩;·exact wpAny_loadName_local I.ok.kind hk hn hm go
 ·rcases hk with hk | hk
  ·exact wpAny_loadName_cell I.ok.kind hk hc Av go
  ·rcases hx with k | k
   ·have:X.env.scope.names.lookup x=some .free:=hk
    rw [k] at this;cases this
   ·have:X.env.scope.names.lookup x=some .free:=hk
    rw [k] at this;cases this
def P8(f:Int→Int→Int):Ay:=fun x y H Q=>∃i j,x=.int i∧y=.int j∧Q (.int (f i j)) H
theorem P9:IY X .Add (P8 fun i j=>i+j):=by intro pins s σ H x y v u Q I r1 r2 h;obtain ⟨i,j,e1,e2,q⟩:=h;subst e1;subst e2;obtain ⟨t,rfl⟩:=r1;obtain ⟨t',rfl⟩:=r2;exact iadd_int ⟨.int _,H,I.tok _,⟨_,rfl⟩,q⟩
end
section
variable {X:Cx} {pos:Pos}
def P_(c:TT)(tb:TS):TS:=fun D σ H=>∃W:Nat→St→Hp→Prop,(∃m,W m σ H)∧∀m σ H,W m σ H→
 c σ H fun b H1=>if b=true then ∃N:St→Hp→Prop,(∀σ' H',N σ' H'→∃m',m'<m∧W m' σ' H')∧tb {D with nx:=N,ct:=N,bk:=D.nx} σ H1 else D.nx σ H1
theorem qj{c:Expr}{body:List Stmt}{tc:TT}{tb:TS}(hp:PassesOwn (model X.prog X.w) X.A X.env X.xe)(hc:PT X c tc)(hb:eN X body tb):PS X (.While c body [] pos) (P_ tc tb):=by
 intro pins s σ H D I h;obtain ⟨W,⟨m0,w0⟩,turn⟩:=h;refine wpAny_While (codeAny_whileLoop (fun n s'=>∃σ' H',Inv X pins σ' H' s'∧W n σ' H') ?_ m0 ⟨σ,H,I,w0⟩);rintro n s1 ⟨σ1,H1,I1,w1⟩;refine pU hp (aO (hc pins s1 σ1 H1 _ I1 (turn n σ1 H1 w1)) fun b s2 ⟨H2,I2,q2⟩=>?_);cases b with
 | true=>
  obtain ⟨N,hN,q2⟩:=q2;rw [ar rfl];refine pU hp (aO (hb pins s2 σ1 H2 _ I2 q2) fun f s3 q3=>?_);cases f with
  | next=>obtain ⟨σ3,H3,I3,n3⟩:=q3;obtain ⟨m',hm,w3⟩:=hN σ3 H3 n3;exact ⟨m',hm,σ3,H3,I3,w3⟩
  | cont=>obtain ⟨σ3,H3,I3,n3⟩:=q3;obtain ⟨m',hm,w3⟩:=hN σ3 H3 n3;exact ⟨m',hm,σ3,H3,I3,w3⟩
  | brk=>exact q3
  | ret v=>exact q3
 | false=>rw [au de];exact z_ ⟨σ1,H2,I2,q2⟩
end
structure It where
 go:Nat→Hp→Prop
 eO:Nat→Hp→V→Hp→Prop
 stop:Nat→Hp→Prop
def kK(X:Cx)(pins:aU)(H:Hp)(b:Addr):Prop:=
 H b=none∧b≠X.env.locals∧b∉X.fs∧(b∈X.ex∨X.s₀.heap.objs.size≤b)∧(∀x c,X.env.cells.lookup x=some c→c≠b)∧∀p∈X.pn++pins,p.1≠b
variable {σ:St}
theorem Inv.ug{pins:aU}{H':Hp}(I:Inv X pins σ H s)(hb:s.heap.objs.size≤b)(hn:H' b=none):kK X pins H' b:=by
 refine ⟨hn,Nat.ne_of_gt (dZ I.lt hb),I.Pz hb,.inr (aQ I.sz hb),fun x c e z=>?_,fun p hp z=>?_⟩
 ·obtain ⟨v,q⟩:=I.cell x c e
  exact absurd (dZ q.lt (by rw [z];exact hb)) (gJ _)
 ·exact absurd (dZ (bU (I.pin p hp).1) (by rw [z];exact hb)) (gJ _)
structure Turn (P:Program) (w:World) (K:aC) (tg:Expr) (J:It) (fp:List Addr) (it:Addr) (tn:Nat→Heap→Prop):Prop where
 mem:it∈fp
 obj:∀i h,tn i h→∀b∈fp,∃o,h.get? b=some o∧∀v,o.data≠.cell v
 keep:∀i h h',tn i h→(∀b∈fp,∀o,h.get? b=some o→h'.get? b=some o)→tn i h'
 item:∀(X:Cx),X.prog=P→X.w=w→X.K=K→X.calm=true→∀(i:Nat) (pins:aU) (s:Shared) (σ:St) (H:Hp) (E:aR),Inv X pins σ H s→(∀b∈fp,kK X pins H b)→tn i s.heap→J.go i H→
  wpAny (model P w) X.A (pyNext (.ref it)) (fun r s1=>∃u,r=some u ∧
   wpAny (model P w) X.A (letOwnedTupleGo tg (.ref it) u) (fun _ s2=>∃x H',Inv X pins σ H' s2∧RelV x u∧J.eO i H x H'∧tn (i+1) s2.heap∧∀b∈fp,H' b=none) E s1) E s
 done:∀(X:Cx),X.prog=P→X.w=w→X.K=K→X.calm=true→∀(i:Nat) (pins:aU) (s:Shared) (σ:St) (H:Hp) (E:aR),Inv X pins σ H s→(∀b∈fp,kK X pins H b)→tn i s.heap→J.stop i H→
  wpAny (model P w) X.A (pyNext (.ref it)) (fun r s1=>r=none∧Inv X pins σ H s1) E s
 self:∀(A:Around) (i:Nat) (s:Shared) (Q:aR) (E:aR),tn i s.heap→Q (.ref it) s→wpAny (model P w) A (pyIter (.ref it)) Q E s
abbrev TI:=St→Hp→(It→Hp→Prop)→Prop
def AB(X:Cx)(pins:aU)(σ:St)(tg:Expr)(R:It→Hp→Prop)(qk:Value)(s2:Shared):Prop:=
 ∃(it:Addr) (fp:List Addr) (tn:Nat→Heap→Prop) (J:It) (H':Hp),qk=.ref it∧Inv X pins σ H' s2∧Turn X.prog X.w X.K tg J fp it tn∧tn 0 s2.heap∧(∀b∈fp,kK X pins H' b)∧R J H'
def PI(X:Cx)(tg iter:Expr)(wi:TI):Prop:=
 ∀(pins:aU) (s:Shared) (σ:St) (H:Hp) (R:It→Hp→Prop),Inv X pins σ H s→wi σ H R→
  wpAny (model X.prog X.w) X.A (eval iter X.env) (fun v s1=>wpAny (model X.prog X.w) X.A (pyIter v) (AB X pins σ tg R) X.xe s1) X.xe s
variable {tg:Expr}
theorem ym{it:Addr}{o:Obj}{n:String}{vs:Array Value}{Q:Unit→Shared→Prop}(ho:s.heap.get? it=some o)(hc:o.cls=.type n)(hd:o.data=.fields vs)
    (hn:["enumerate","zip","dict_itemiterator","dict_reverseitemiterator","odict_iterator","itertools.zip_longest","itertools.pairwise"].contains n=false) (hQ:Q () s):wpAny M A (letOwnedTupleGo tg (.ref it) u) Q E s:=by
  unfold letOwnedTupleGo
  cases tg <;> first
    | exact dM hQ
    | (cases u <;> first
        | exact dM hQ
        | (refine b7 (wpAny_load ho ?_)
           rw [hc,hd];show wpAny M A (if (["enumerate","zip","dict_itemiterator","dict_reverseitemiterator","odict_iterator","itertools.zip_longest","itertools.pairwise"].contains n && vs[0]? == some (rawInt _))=true then _ else _) Q E s
           rw [au (by intro h;rw [hn,Bool.false_and] at h;cases h)]
           exact dM hQ))
def uh(K:aC)(a:Addr):It:=
 ⟨fun i H=>∃xs x,b5 K H a xs∧xs[i]?=some x,fun i H x H'=>H'=H∧∀xs,b5 K H a xs→xs[i]?=some x,fun i H=>∃xs,b5 K H a xs∧xs.length≤i⟩
def uj(K:aC)(a:Addr):It:=
 ⟨fun i H=>∃xs x,dO K H a xs∧xs[i]?=some x,fun i H x H'=>H'=H∧∀xs,dO K H a xs→xs[i]?=some x,fun i H=>∃xs,dO K H a xs∧xs.length≤i⟩
def m4(lo:Int)(n:Nat):It:=⟨fun i _=>i<n,fun i H x H'=>H'=H∧x=.int (lo+i),fun i _=>n≤i⟩
variable {K:aC}
theorem Qa(a it:Addr):Turn P w K tg (uh K a) [it] it (fun i h=>h.IsListIter it a i) where
 mem:=by simp
 obj:=fun i h st b hb=>by
  have e:b=it:=by simpa using hb
  subst e;obtain ⟨o,e,c,d⟩:=st;exact ⟨o,e,fun v z=>by rw [d] at z;cases z⟩
 keep:=fun i h h' st k=>st.at fun o e=>k it (by simp) o e
 item:=by
  intro X hP hw hK hc i pins s σ H E I hf st hg;subst hP hw hK;obtain ⟨xs,x,hq,hx⟩:=hg;obtain ⟨ai,rv,p,hz⟩:=I.list hq;obtain ⟨u,hu,ru⟩:=rv.get hx;obtain ⟨f0,f1,f2,f3,f4,f5⟩:=hf it (by simp)
  refine wpAny_pyNext_list_item st p.isList (x:=u) (by simpa using hu) fun h' il sb=>?_
  have I1:Inv X pins σ H {s with heap:=h'}:=I.turned (t':=s.toks) (fun b o hb e=>(sb.2 b hb).trans e) f0 f1 f3 f4 f5;obtain ⟨o,e,c,d⟩:=id il;exact ⟨u,rfl,ym (s:={s with heap:=h'}) e c d (by decide) ⟨x,H,I1,ru,⟨rfl,fun ys hy=>by rw [I.IT hy hq];exact hx⟩,il,fun b hb=>(hf b hb).1⟩⟩
 done:=by
  intro X hP hw hK hc i pins s σ H E I hf st hg;subst hP hw hK;obtain ⟨xs,hq,hx⟩:=hg;obtain ⟨ai,rv,p,hz⟩:=I.list hq;obtain ⟨f0,f1,f2,f3,f4,f5⟩:=hf it (by simp)
  have hl:=rv.length;exact wpAny_pyNext_list_end (I.ok.hd hc) st p.isList (by simp;lia) fun h' eb=>⟨rfl,I.turned (t':=s.toks) (fun b o hb e=>eb b o hb e) f0 f1 f3 f4 f5⟩
 self:=fun _ _ _ _ _ st h=>wpAny_pyIter_listiter st h
theorem Qb(a it:Addr):Turn P w K tg (uj K a) [it] it (fun i h=>h.IsTupleIter it a i) where
 mem:=by simp
 obj:=fun i h st b hb=>by
  have e:b=it:=by simpa using hb
  subst e;obtain ⟨o,e,c,d⟩:=st;exact ⟨o,e,fun v z=>by rw [d] at z;cases z⟩
 keep:=fun i h h' st k=>st.at fun o e=>k it (by simp) o e
 item:=by
  intro X hP hw hK hc i pins s σ H E I hf st hg;subst hP hw hK;obtain ⟨xs,x,hq,hx⟩:=hg;obtain ⟨ai,rv,p,hz⟩:=I.tuple hq;obtain ⟨u,hu,ru⟩:=rv.get hx;obtain ⟨f0,f1,f2,f3,f4,f5⟩:=hf it (by simp)
  refine wpAny_pyNext_tuple_item st (show s.heap.IsTuple a ai.toArray from p) (x:=u) (by simpa using hu) fun h' il sb=>?_
  have I1:Inv X pins σ H {s with heap:=h'}:=I.turned (t':=s.toks) (fun b o hb e=>(sb.2 b hb).trans e) f0 f1 f3 f4 f5;obtain ⟨o,e,c,d⟩:=id il;exact ⟨u,rfl,ym (s:={s with heap:=h'}) e c d (by decide) ⟨x,H,I1,ru,⟨rfl,fun ys hy=>by rw [I.PV hy hq];exact hx⟩,il,fun b hb=>(hf b hb).1⟩⟩
 done:=by
  intro X hP hw hK hc i pins s σ H E I hf st hg;subst hP hw hK;obtain ⟨xs,hq,hx⟩:=hg;obtain ⟨ai,rv,p,hz⟩:=I.tuple hq;obtain ⟨f0,f1,f2,f3,f4,f5⟩:=hf it (by simp)
  have hl:=rv.length;exact wpAny_pyNext_tuple_end (I.ok.hd hc) st (show s.heap.IsTuple a ai.toArray from p) (by simp;lia) fun h' eb=>⟨rfl,I.turned (t':=s.toks) (fun b o hb e=>eb b o hb e) f0 f1 f3 f4 f5⟩
 self:=fun _ _ _ _ _ st h=>wpAny_pyIter_tupleiter st h
theorem Qc(it:Addr)(lo:Int)(n:Nat):Turn P w K tg (m4 lo n) [it] it (fun i h=>IsRangeIter h it (lo+(i:Nat)*1) ((n:Int)-(i:Nat)) 1) where
 mem:=by simp
 obj:=fun i h st b hb=>by
  have e:b=it:=by simpa using hb
  subst e;exact ⟨_,st,fun v z=>by have z':Data.fields _=Data.cell v:=z;cases z'⟩
 keep:=fun i h h' st k=>k it (by simp) _ st
 item:=by
  intro X hP hw hK hc i pins s σ H E I hf st hg;subst hP hw hK;obtain ⟨f0,f1,f2,f3,f4,f5⟩:=hf it (by simp)
  have W:=Walks.range (prog:=X.prog) (w:=X.w) (I.ok.hd hc) it lo 1 n;refine W.item i s _ _ hg st fun v h' tk hv il kk=>?_;obtain ⟨t,rfl⟩:=hv;have I1:Inv X pins σ H {s with heap:=h',toks:=tk}:=I.turned (fun b o hb e=>kk b o (by simpa using hb) e) f0 f1 f3 f4 f5
  refine ⟨_,rfl,ym (s:={s with heap:=h',toks:=tk}) (n:="range_iterator") il rfl rfl (by decide) ⟨.int (lo+i),H,I1,⟨t,?_⟩,⟨rfl,rfl⟩,il,fun b hb=>(hf b hb).1⟩⟩
  rw [gu]
 done:=by
  intro X hP hw hK hc i pins s σ H E I hf st hg;subst hP hw hK;obtain ⟨f0,f1,f2,f3,f4,f5⟩:=hf it (by simp)
  exact wpAny_pyNext_range_end (I.ok.hd hc) st (by have:n≤i:=hg;lia) fun h' eb=>⟨rfl,I.turned (t':=s.toks) (fun b o hb e=>eb b o hb e) f0 f1 f3 f4 f5⟩
 self:=fun _ _ _ _ _ st h=>wpAny_pyIter_rangeiter st h
section
variable {X:Cx} {tg:Expr}
def IZ(K:aC)(tl:TE):TI:=fun σ H R=>tl σ H fun x H1=>∃a,x=.ref a∧(∃xs,b5 K H1 a xs)∧R (uh K a) H1
def Qd(K:aC)(tl:TE):TI:=fun σ H R=>tl σ H fun x H1=>∃a,x=.ref a∧(∃xs,dO K H1 a xs)∧R (uj K a) H1
variable {l:Expr} {tl:TE}
theorem d_(hl:PE X l tl):PI X tg l (IZ X.K tl):=by
 intro pins s σ H R I h;refine aO (hl pins s σ H _ I h) fun v s1 ⟨x,H1,I1,r1,q1⟩=>?_;obtain ⟨a,e,⟨xs,hq⟩,q⟩:=q1;subst e;cases r1;obtain ⟨ai,rv,p,hz⟩:=I1.list hq;refine wpAny_pyIter_list p.isList ?_;refine ⟨s1.heap.objs.size,[s1.heap.objs.size],_,_,H1,rfl,I1.kept (t':=s1.toks) fun b o e=>cz _ e,Qa a _,⟨_,fH _ rfl,rfl,rfl⟩,fun b hb=>?_,q⟩;have e:b=s1.heap.objs.size:=by simpa using hb
 subst e;exact I1.ug (aN _) (I1.az.fresh (aN _))
theorem I_(hl:PE X l tl):PI X tg l (Qd X.K tl):=by
 intro pins s σ H R I h;refine aO (hl pins s σ H _ I h) fun v s1 ⟨x,H1,I1,r1,q1⟩=>?_;obtain ⟨a,e,⟨xs,hq⟩,q⟩:=q1;subst e;cases r1;obtain ⟨ai,rv,p,hz⟩:=I1.tuple hq;refine wpAny_pyIter_tuple (show s1.heap.IsTuple a ai.toArray from p) ?_;refine ⟨s1.heap.objs.size,[s1.heap.objs.size],_,_,H1,rfl,I1.kept (t':=s1.toks) fun b o e=>cz _ e,Qb a _,⟨_,fH _ rfl,rfl,rfl⟩,fun b hb=>?_,q⟩;have e:b=s1.heap.objs.size:=by simpa using hb
 subst e;exact I1.ug (aN _) (I1.az.fresh (aN _))
variable {pins:aU}
theorem Ja{R:It→Hp→Prop}{lo hi:Int}{t u v:Tok}{tk:Nat}(I:Inv X pins σ H s)(h1:-(2 ^ 62)≤lo)(h2:lo<2 ^ 62)(h3:-(2 ^ 62)≤hi)(h4:hi<2 ^ 62)
  (q:R (m4 lo (hi-lo).toNat) H):wpAny (model X.prog X.w) X.A (pyIter (.ref s.heap.objs.size)) (AB X pins σ tg R) E {s with heap:=s.heap.push {cls:=.type "range",data:=.fields #[.int lo t,.int hi u,.int 1 v]},toks:=tk}:=by
 refine wpAny_pyIter_range (IsRange.new ..) (small_one h1 h2 h3 h4) ?_;have I1:Inv X pins σ H {s with heap:=s.heap.push {cls:=.type "range",data:=.fields #[.int lo t,.int hi u,.int 1 v]},toks:=tk}:=I.kept fun b o e=>cz _ e
 refine ⟨(s.heap.push {cls:=.type "range",data:=.fields #[.int lo t,.int hi u,.int 1 v]}).objs.size,[(s.heap.push {cls:=.type "range",data:=.fields #[.int lo t,.int hi u,.int 1 v]}).objs.size],_,_,H,rfl,
  I1.kept (t':=tk) fun b o e=>cz _ e,Qc _ lo (hi-lo).toNat,?_,fun b hb=>?_,q⟩
 ·have e1:lo+((0:Nat):Int)*1=lo:=by simp
  have e2:(((hi-lo).toNat:Nat):Int)-((0:Nat):Int)=Builtin.Range.rangeSize lo hi 1:=by rw [rangeSize_one];split <;> lia
  show IsRangeIter _ _ (lo+((0:Nat):Int)*1) ((((hi-lo).toNat:Nat):Int)-((0:Nat):Int)) 1;rw [e1,e2];exact fH _ rfl
 ·have e:b=(s.heap.push {cls:=.type "range",data:=.fields #[.int lo t,.int hi u,.int 1 v]}).objs.size:=by simpa using hb
  subst e;exact I1.ug (aN _) (I1.az.fresh (aN _))
def Qe(ta:TA):TI:=fun σ H R=>ta σ H fun vs H1=>∃j:Int,vs=[.int j]∧-(2 ^ 62)≤j∧j<2 ^ 62∧R (m4 0 j.toNat) H1
def Qf(ta:TA):TI:=fun σ H R=>ta σ H fun vs H1=>∃i j:Int,vs=[.int i,.int j]∧(-(2 ^ 62)≤i∧i<2 ^ 62∧-(2 ^ 62)≤j∧j<2 ^ 62)∧R (m4 i (j-i).toNat) H1
variable {ta:TA} {p pos:Pos}
theorem eA{a:Expr}(hg:Gl X "range")(hm:X.mg "range"=none)(ha:PA X [a] ta)(hs:starEach [a] X.env=[(false,eval a X.env)]:=by rfl):PI X tg (.Call (.Name "range" p) [a] [] pos) (Qe ta):=by
 intro pins s σ H R I h;refine Call_ (qg I hg hm boot_range (xT (aO (ha pos pins s σ H _ I h) fun us s1 ⟨vs,H1,I1,r1,q1⟩=>?_) hs rfl));obtain ⟨j,e,q1,q2,q⟩:=q1;subst e;cases r1 with
 | cons r rr=>cases rr;obtain ⟨t,rfl⟩:=r;exact call_range_1 (Ja I1 (by lia) (by lia) q1 q2 (by simpa using q))
theorem AD{a b:Expr}(hg:Gl X "range")(hm:X.mg "range"=none)(ha:PA X [a,b] ta)(hs:starEach [a,b] X.env=[(false,eval a X.env),(false,eval b X.env)]:=by rfl)(lS:starEach [b] X.env=[(false,eval b X.env)]:=by rfl) :
  PI X tg (.Call (.Name "range" p) [a,b] [] pos) (Qf ta):=by
 intro pins s σ H R I h;refine Call_ (qg I hg hm boot_range (xT (aO (ha pos pins s σ H _ I h) fun us s1 ⟨vs,H1,I1,r1,q1⟩=>?_) (by rw [hs,lS]) (by rw [lS];rfl)))
 obtain ⟨i,j,e,⟨q1,q2,q3,q4⟩,q⟩:=q1;subst e;cases r1 with
 | cons r rr=>
  cases rr with
  | cons r' rr=>cases rr;obtain ⟨t,rfl⟩:=r;obtain ⟨t',rfl⟩:=r';exact call_range_2 (Ja I1 q1 q2 q3 q4 q)
def Qg(wi:TI)(g:TG)(tb:TS):TS:=fun D σ H=>wi σ H fun J H1=>∃W:Nat→Nat→St→Hp→Prop,(∃m,W 0 m σ H1)∧∀i m σ H,W i m σ H→
 (J.stop i H∧D.nx σ H)∨(J.go i H∧∃N:St→Hp→Prop,(∀σ' H',N σ' H'→∃m',m'<m∧W (i+1) m' σ' H')∧∀x H',J.eO i H x H'→g x σ H' fun σ2 H2=>tb {D with nx:=N,ct:=N,bk:=D.nx} σ2 H2)
def iL(fp:List Addr)(h:Heap):List (Addr×Obj):=fp.filterMap fun b=>(h.get? b).map fun o=>(b,o)
variable {fp:List Addr}
theorem jW{o:Obj}(hb:b∈fp)(e:h.get? b=some o):(b,o)∈iL fp h:=List.mem_filterMap.mpr ⟨b,hb,by rw [e];rfl⟩
theorem Qh{p:Addr×Obj}(hp:p∈iL fp h):p.1∈fp∧h.get? p.1=some p.2:=by
 obtain ⟨b,hb,e⟩:=List.mem_filterMap.mp hp;cases q:h.get? b with
 | none=>rw [q] at e;cases e
 | some o=>rw [q] at e;have e':(b,o)=p:=Option.some.inj e;subst e';exact ⟨hb,q⟩
theorem Inv.pinned(I:Inv X pins σ H s)(hf:∀b∈fp,kK X pins H b)(ho:∀b∈fp,∃o,s.heap.get? b=some o∧∀v,o.data≠.cell v):Inv X (pins++iL fp s.heap) σ H s:=
 I.IE fun p hp=>(fG.mp hp).elim (fun z=>I.pin p (cT _ z)) fun z=>by obtain ⟨hb,e⟩:=Qh z;obtain ⟨f0,f1,f2,_⟩:=hf p.1 hb;obtain ⟨o,e',d⟩:=ho p.1 hb;rw [e] at e';cases e';exact ⟨e,f0,f1,f2,d⟩
theorem Inv.oI{pl:aU}(I:Inv X (pins++pl) σ H s):Inv X pins σ H s:=I.IE fun p hp=>I.pin p (cT _ (mI _ hp))
theorem cI{iter:Expr}{body:List Stmt}{wi:TI}{g:TG}{tb:TS}(hp:PassesOwn (model X.prog X.w) X.A X.env X.xe)(hc:X.calm=true)(hi:PI X tg iter wi)(hg:PG X tg g)(hb:eN X body tb)
  (hs:∀x,foldedSetIterable iter X.env x=pure x:=by intro _;rfl):PS X (.For tg iter body [] pos) (Qg wi g tb):=by
 intro pins s σ H D I h;refine wpAny_For (aO (hi pins s σ H _ I h) fun v s1 h1=>aO h1 fun qk s2 h2=>?_) hs;obtain ⟨it,fp,tn,J,H2,e,I2,T,fm,f2,W,⟨m0,w0⟩,turn⟩:=h2;subst e;have eP:∀{H':Hp},(∀b∈fp,H' b=none)→∀b∈fp,kK X pins H' b:=fun hn b hb=>⟨hn b hb,(f2 b hb).2⟩;refine codeAny_forLoop_any (fun n s'=>∃i σ' H',Inv X pins σ' H' s'∧tn i s'.heap∧(∀b∈fp,H' b=none)∧W i n σ' H') ?_ m0 ⟨0,σ,H2,I2,fm,fun b hb=>(f2 b hb).1,w0⟩;rintro n s3 ⟨i,σ3,H3,I3,Jb,Jc,w3⟩;rcases turn i n σ3 H3 w3 with ⟨stop,qn⟩ | ⟨go,N,hN,step⟩
 ·refine pU hp (aO (T.done X rfl rfl rfl hc i pins s3 σ3 H3 X.xe I3 (eP Jc) Jb stop) fun r s4 ⟨hr,I4⟩=>?_)
  subst hr;exact z_ ⟨σ3,H3,I4,qn⟩
 ·refine pU hp (aO (T.item X rfl rfl rfl hc i pins s3 σ3 H3 X.xe I3 (eP Jc) Jb go) fun r s4 ⟨u,hr,h4⟩=>?_)
  subst hr;refine pU hp (aO h4 fun _ s5 ⟨x,H5,I5,r5,y5,eQ,kL⟩=>?_);have kM:=I5.pinned (eP kL) (T.obj _ _ eQ);refine pU hp (aO (hg _ s5 σ3 H5 x u _ kM r5 (step x H5 y5)) fun _ s6 ⟨σ6,H6,I6,q6⟩=>?_);refine pU hp (aO (hb _ s6 σ6 H6 _ I6 q6) fun f s7 q7=>?_);have again:∀{σ7:St} {H7:Hp},Inv X (pins++iL fp s5.heap) σ7 H7 s7→N σ7 H7→∃m,m<n∧∃i σ' H',Inv X pins σ' H' s7∧tn i s7.heap∧(∀b∈fp,H' b=none)∧W i m σ' H':=fun{σ7 H7} I7 n7=>by obtain ⟨m',hm,w7⟩:=hN σ7 H7 n7;refine ⟨m',hm,i+1,σ7,H7,I7.oI,T.keep _ _ _ eQ fun b hb o e=>(I7.pin (b,o) (cT _ (cT _ (jW hb e)))).1,fun b hb=>?_,w7⟩;obtain ⟨o,e,d⟩:=T.obj _ _ eQ b hb;exact (I7.pin (b,o) (cT _ (cT _ (jW hb e)))).2.1
  cases f with
  | next=>obtain ⟨σ7,H7,I7,n7⟩:=q7;exact again I7 n7
  | cont=>obtain ⟨σ7,H7,I7,n7⟩:=q7;exact again I7 n7
  | brk=>obtain ⟨σ7,H7,I7,q7⟩:=q7;exact ⟨σ7,H7,I7.oI,q7⟩
  | ret v=>obtain ⟨x7,σ7,H7,I7,r7,q7⟩:=q7;exact ⟨x7,σ7,H7,I7.oI,r7,q7⟩
end
variable {g:TG} {tb:TS} {D:Ends}
theorem jg(Pv:Nat→St→Hp→Prop)(h0:Pv 0 σ H)(hl:∀i σ H,i≤xs.length→Pv i σ H→b5 K H a xs)
  (hs:∀i x σ H,xs[i]?=some x→Pv i σ H→g x σ H fun σ2 H2=>tb {D with nx:=Pv (i+1),ct:=Pv (i+1),bk:=D.nx} σ2 H2) (hd:∀σ H,Pv xs.length σ H→D.nx σ H) :
  ∃W:Nat→Nat→St→Hp→Prop,(∃m,W 0 m σ H)∧∀i m σ H,W i m σ H→
   ((uh K a).stop i H∧D.nx σ H)∨((uh K a).go i H∧∃N:St→Hp→Prop,(∀σ' H',N σ' H'→∃m',m'<m∧W (i+1) m' σ' H')∧∀x H',(uh K a).eO i H x H'→g x σ H' fun σ2 H2=>tb {D with nx:=N,ct:=N,bk:=D.nx} σ2 H2):=by
 refine ⟨fun i m σ H=>m=xs.length-i∧i≤xs.length∧Pv i σ H,⟨xs.length,by simp,cn _,h0⟩,?_⟩
 rintro i m σ H ⟨rfl,hi,p⟩;have q:=hl i σ H hi p;by_cases cq:i<xs.length
 ·refine .inr ⟨⟨xs,xs[i],q,by simp [cq]⟩,Pv (i+1),fun σ' H' p'=>⟨xs.length-(i+1),by lia,rfl,cq,p'⟩,fun x H' y=>?_⟩
  obtain ⟨e,y⟩:=y;subst e;exact hs i x σ _ (y xs q) p
 ·have e:i=xs.length:=by lia
  subst e;exact .inl ⟨⟨xs,q,aN _⟩,hd σ H p⟩
theorem Qi(Pv:Nat→St→Hp→Prop)(h0:Pv 0 σ H)(hl:∀i σ H,i≤xs.length→Pv i σ H→dO K H a xs)
  (hs:∀i x σ H,xs[i]?=some x→Pv i σ H→g x σ H fun σ2 H2=>tb {D with nx:=Pv (i+1),ct:=Pv (i+1),bk:=D.nx} σ2 H2) (hd:∀σ H,Pv xs.length σ H→D.nx σ H) :
  ∃W:Nat→Nat→St→Hp→Prop,(∃m,W 0 m σ H)∧∀i m σ H,W i m σ H→
   ((uj K a).stop i H∧D.nx σ H)∨((uj K a).go i H∧∃N:St→Hp→Prop,(∀σ' H',N σ' H'→∃m',m'<m∧W (i+1) m' σ' H')∧∀x H',(uj K a).eO i H x H'→g x σ H' fun σ2 H2=>tb {D with nx:=N,ct:=N,bk:=D.nx} σ2 H2):=by
 refine ⟨fun i m σ H=>m=xs.length-i∧i≤xs.length∧Pv i σ H,⟨xs.length,by simp,cn _,h0⟩,?_⟩
 rintro i m σ H ⟨rfl,hi,p⟩;have q:=hl i σ H hi p;by_cases cq:i<xs.length
 ·refine .inr ⟨⟨xs,xs[i],q,by simp [cq]⟩,Pv (i+1),fun σ' H' p'=>⟨xs.length-(i+1),by lia,rfl,cq,p'⟩,fun x H' y=>?_⟩
  obtain ⟨e,y⟩:=y;subst e;exact hs i x σ _ (y xs q) p
 ·have e:i=xs.length:=by lia
  subst e;exact .inl ⟨⟨xs,q,aN _⟩,hd σ H p⟩
variable {n:Nat}
theorem gB{lo:Int}(Pv:Nat→St→Hp→Prop)(h0:Pv 0 σ H)
  (hs:∀i σ H,i<n→Pv i σ H→g (.int (lo+i)) σ H fun σ2 H2=>tb {D with nx:=Pv (i+1),ct:=Pv (i+1),bk:=D.nx} σ2 H2) (hd:∀σ H,Pv n σ H→D.nx σ H) :
  ∃W:Nat→Nat→St→Hp→Prop,(∃m,W 0 m σ H)∧∀i m σ H,W i m σ H→
   ((m4 lo n).stop i H∧D.nx σ H)∨((m4 lo n).go i H∧∃N:St→Hp→Prop,(∀σ' H',N σ' H'→∃m',m'<m∧W (i+1) m' σ' H')∧∀x H',(m4 lo n).eO i H x H'→g x σ H' fun σ2 H2=>tb {D with nx:=N,ct:=N,bk:=D.nx} σ2 H2):=by
 refine ⟨fun i m σ H=>m=n-i∧i≤n∧Pv i σ H,⟨n,by simp,cn _,h0⟩,?_⟩
 rintro i m σ H ⟨rfl,hi,p⟩;by_cases cq:i<n
 ·refine .inr ⟨cq,Pv (i+1),fun σ' H' p'=>⟨n-(i+1),by lia,rfl,cq,p'⟩,fun x H' y=>?_⟩
  obtain ⟨e,y⟩:=y;subst e y;exact hs i σ _ cq p
 ·have e:i=n:=by lia
  subst e;exact .inl ⟨aN _,hd σ H p⟩
abbrev R2:=V→V→Hp→VK→Prop
def cf(X:Cx)(f:Value→Value→Sem Value)(r:R2):Prop:=
 ∀(pins:aU) (s:Shared) (σ:St) (H:Hp) (x y:V) (v u:Value) (Q:VK),Inv X pins σ H s→RelV x v→RelV y u→r x y H Q→
  wpAny (model X.prog X.w) X.A (f v u) (EP X pins σ Q) X.xe s
def Ee(X:Cx)(f:Value→Sem Value)(r:V→Hp→VK→Prop):Prop:=
 ∀(pins:aU) (s:Shared) (σ:St) (H:Hp) (x:V) (v:Value) (Q:VK),Inv X pins σ H s→RelV x v→r x H Q→
  wpAny (model X.prog X.w) X.A (f v) (EP X pins σ Q) X.xe s
def gO(X:Cx)(f:Value)(r:List V→Hp→VK→Prop):Prop:=
 ∀(pins:aU) (s:Shared) (σ:St) (H:Hp) (xs:List V) (us:List Value) (Q:VK),Inv X pins σ H s→Vals xs us→r xs H Q→
  wpAny (model X.prog X.w) X.A (call f us) (EP X pins σ Q) X.xe s
def m5(r:R2)(ta tb:TE):TE:=fun σ H Q=>ta σ H fun x H1=>tb σ H1 fun y H2=>r x y H2 Q
def Qj(r:V→Hp→VK→Prop)(ta:TE):TE:=fun σ H Q=>ta σ H fun x H1=>r x H1 Q
def rI(C:Int→Int→Prop)(g:Int→Int→V):R2:=fun x y H Q=>∃i j,x=.int i∧y=.int j∧C i j∧Q (g i j) H
def oJ(g:Int→Int→V):R2:=fun x y H Q=>∃i j,x=.int i∧y=.int j∧Q (g i j) H
def rU(g:Int→V):V→Hp→VK→Prop:=fun x H Q=>∃i,x=.int i∧Q (g i) H
section
variable {X:Cx} {a b c:Expr} {ta tb tc:TE} {pos:Pos}
variable {f:Value→Value→Sem Value}
theorem Ef(ha:PE X a ta)(hb:PE X b tb){pins:aU}{R:V→V→Hp→Prop}(I:Inv X pins σ H s)
  (h:ta σ H fun x H1=>tb σ H1 fun y H2=>R x y H2) {Q:aR}
  (hf:∀v u s2 x y H2,Inv X pins σ H2 s2→RelV x v→RelV y u→R x y H2→wpAny (model X.prog X.w) X.A (f v u) Q X.xe s2) :
  wpAny (model X.prog X.w) X.A (eval a X.env) (fun v s₁=>wpAny (model X.prog X.w) X.A (eval b X.env) (fun u s₂=>wpAny (model X.prog X.w) X.A (f v u) Q X.xe s₂) X.xe s₁) X.xe s:=by
 refine aO (ha pins s σ H _ I h) fun v s1 ⟨x,H1,I1,r1,q1⟩=>?_;refine aO (hb pins s1 σ H1 _ I1 q1) fun u s2 ⟨y,H2,I2,r2,q2⟩=>?_;exact hf v u s2 x y H2 I2 r1 r2 q2
theorem aA{op:Operator}{r:R2}(ho:cf X (binaryOp op) r)(ha:PE X a ta)(hb:PE X b tb):PE X (.BinOp a op b pos) (m5 r ta tb):=by intro pins s σ H Q I h;exact wpAny_BinOp (Ef ha hb I h fun v u s2 x y H2 I2 rx ry q=>ho pins s2 σ H2 x y v u Q I2 rx ry q)
theorem AE{op:UnaryOp}{r:V→Hp→VK→Prop}(ho:Ee X (unaryOp op) r)(ha:PE X a ta):PE X (.UnaryOp op a pos) (Qj r ta):=by intro pins s σ H Q I h;exact UnaryOp_ (aO (ha pins s σ H _ I h) fun v s1 ⟨x,H1,I1,r1,q1⟩=>ho pins s1 σ H1 x v Q I1 r1 q1)
theorem ql{C:Int→Int→Prop}{g:Int→Int→Int}
  (rule:∀(i j:Int) (t u:Tok) (s:Shared) (Q:aR) (E:aR),C i j→Q (.int (g i j) s.toks) {s with toks:=s.toks+1}→wpAny (model X.prog X.w) X.A (f (.int i t) (.int j u)) Q E s) :
  cf X f (rI C fun i j=>.int (g i j)):=by
 intro pins s σ H x y v u Q I rx ry h;obtain ⟨i,j,rfl,rfl,hc,q⟩:=h;obtain ⟨t,rfl⟩:=rx;obtain ⟨t',rfl⟩:=ry;exact rule i j t t' s _ _ hc ⟨.int (g i j),H,I.tok _,⟨_,rfl⟩,q⟩
theorem Jd{g:Int→Int→Int}
  (rule:∀(i j:Int) (t u:Tok) (s:Shared) (Q:aR) (E:aR),Q (.int (g i j) s.toks) {s with toks:=s.toks+1}→wpAny (model X.prog X.w) X.A (f (.int i t) (.int j u)) Q E s) :
  cf X f (oJ fun i j=>.int (g i j)):=by
 intro pins s σ H x y v u Q I rx ry h;obtain ⟨i,j,rfl,rfl,q⟩:=h;obtain ⟨t,rfl⟩:=rx;obtain ⟨t',rfl⟩:=ry;exact rule i j t t' s _ _ ⟨.int (g i j),H,I.tok _,⟨_,rfl⟩,q⟩
theorem AF{g:Int→Int→Bool}
  (rule:∀(i j:Int) (t u:Tok) (s:Shared) (Q:aR) (E:aR),Q (.bool (g i j)) s→wpAny (model X.prog X.w) X.A (f (.int i t) (.int j u)) Q E s) :
  cf X f (oJ fun i j=>.bl (g i j)):=by
 intro pins s σ H x y v u Q I rx ry h;obtain ⟨i,j,rfl,rfl,q⟩:=h;obtain ⟨t,rfl⟩:=rx;obtain ⟨t',rfl⟩:=ry;exact rule i j t t' s _ _ ⟨.bl (g i j),H,I,rfl,q⟩
def Qk(i j:Int):Prop:=0<j∧j<1073741824
def Eg(i j:Int):Prop:=(-(2 ^ 64)<i∧i<2 ^ 64)∨(-(2 ^ 64)<j∧j<2 ^ 64)
theorem Eg.ok{i j:Int}(h:Eg i j):IntMulOk i j:=by
 rcases h with ⟨h1,h2⟩ | ⟨h1,h2⟩;·exact .of_left (intBits_le_64 h1 h2)
 ·exact .of_right (intBits_le_64 h1 h2)
theorem fo:cf X (binaryOp .Add) (oJ fun i j=>.int (i+j)):=Jd fun _ _ _ _ _ _ _ q=>add_int q
theorem m6:cf X (binaryOp .Sub) (oJ fun i j=>.int (i-j)):=Jd fun _ _ _ _ _ _ _ q=>sub_int q
theorem gC:cf X (binaryOp .Mult) (rI Eg fun i j=>.int (i*j)):=ql fun _ _ _ _ _ _ _ hc q=>mul_int q hc.ok
theorem AG:cf X (binaryOp .FloorDiv) (rI Qk fun i j=>.int (i / j)):=ql fun i j _ _ _ _ _ hc q=>by have h1:(0:Int)<j:=hc.1;have h2:j<1073741824:=hc.2;exact floordiv_int (by lia) (by rw [Int.fdiv_eq_ediv_of_nonneg i (by lia)];exact q) (.inl (PyProof.noPylong_small (by lia)))
theorem fq:cf X (binaryOp .Mod) (rI (fun _ j=>0<j) fun i j=>.int (i % j)):=ql fun i j _ _ _ _ _ hc q=>by have h1:(0:Int)<j:=hc;exact mod_int' (by lia) (by rw [Int.fmod_eq_emod_of_nonneg i (by lia)];exact q)
theorem Ql:cf X (binaryOp .Mod) (rI (fun _ j=>j≠0) fun i j=>.int (i.fmod j)):=ql fun _ _ _ _ _ _ _ hc q=>mod_int' hc q
theorem Qm{f:Value→Sem Value}{g:Int→Int}
  (rule:∀(i:Int) (t:Tok) (s:Shared) (Q:aR) (E:aR),Q (.int (g i) s.toks) {s with toks:=s.toks+1}→wpAny (model X.prog X.w) X.A (f (.int i t)) Q E s) :
  Ee X f (rU fun i=>.int (g i)):=by
 intro pins s σ H x v Q I rx h;obtain ⟨i,rfl,q⟩:=h;obtain ⟨t,rfl⟩:=rx;exact rule i t s _ _ ⟨.int (g i),H,I.tok _,⟨_,rfl⟩,q⟩
theorem AH:Ee X (unaryOp .USub) (rU fun i=>.int (-i)):=Qm fun _ _ _ _ _ q=>neg_int q
end
def Eh:V→V→Bool
 | .aI,.aI=>true | .aI,.int _=>true | .int _,.aI=>true | .aI,.bl _=>true | .bl _,.aI=>true | .aI,.str _=>true | .str _,.aI=>true
 | .int _,.int _=>true | .bl _,.bl _=>true | .str _,.str _=>true | .jU _,.jU _=>true
 | .int _,.str _=>true | .str _,.int _=>true | .bl _,.str _=>true | .str _,.bl _=>true
 | _,_=>false
def Je:R2:=fun x y H Q=>Eh x y=true∧Q (.bl (decide (x=y))) H
def Jf:R2:=fun x y H Q=>Eh x y=true∧Q (.bl (!decide (x=y))) H
theorem Jg{i j:Int}:decide (V.int i=V.int j)=(i == j):=by rw [ou];simp
theorem Jh{i j:Bool}:decide (V.bl i=V.bl j)=(i == j):=by rw [ou];simp
theorem Ji{i j:Str}:decide (V.str i=V.str j)=(i == j):=by rw [ou];simp
theorem Jj{i j:Array UInt8}:decide (V.jU i=V.jU j)=(i.toList == j.toList):=by rw [ou];cases i;cases j;simp
section
variable {X:Cx} {a b c:Expr} {ta tb tc:TE} {pos:Pos}
theorem cV{pins:aU}{Q:VK}{k k':Bool}(I:Inv X pins σ H s)(q:Q (.bl k) H)(e:k=k'):EP X pins σ Q (.bool k') s:=by subst e;exact ⟨.bl k,H,I,rfl,q⟩
theorem eB:cf X (compareOp .Eq) Je:=by
 intro pins s σ H x y v u Q I rx ry h;obtain ⟨hs,q⟩:=h;cases x with
 | aI=>
  cases rx;cases y with
  | aI=>cases ry;exact PySem.EqNone.eq_none_none (cV I q (by simp))
  | bl j=>cases ry;exact PySem.EqNone.eq_none_bool (cV I q (by simp))
  | int j=>obtain ⟨t',rfl⟩:=ry;exact PySem.EqNone.eq_none_int (cV I q (by simp))
  | str j=>obtain ⟨t',rfl⟩:=ry;exact PySem.EqNone.eq_none_str (cV I q (by simp))
  | _=>exact absurd (show false=true from hs) de
 | bl i=>
  cases rx;cases y with
  | aI=>cases ry;exact PySem.EqNone.eq_bool_none (cV I q (by simp))
  | bl j=>cases ry;exact eq_bool (cV I q Jh)
  | str j=>obtain ⟨t',rfl⟩:=ry;exact PySem.EqMixed.eq_bool_str (cV I q (by simp))
  | _=>exact absurd (show false=true from hs) de
 | int i=>
  obtain ⟨t,rfl⟩:=rx;cases y with
  | aI=>cases ry;exact PySem.EqNone.eq_int_none (cV I q (by simp))
  | int j=>obtain ⟨t',rfl⟩:=ry;exact eq_int (cV I q Jg)
  | str j=>obtain ⟨t',rfl⟩:=ry;exact PySem.EqMixed.eq_int_str (cV I q (by simp))
  | _=>exact absurd (show false=true from hs) de
 | str i=>
  obtain ⟨t,rfl⟩:=rx;cases y with
  | aI=>cases ry;exact PySem.EqNone.eq_str_none (cV I q (by simp))
  | bl j=>cases ry;exact PySem.EqMixed.eq_str_bool (cV I q (by simp))
  | int j=>obtain ⟨t',rfl⟩:=ry;exact PySem.EqMixed.eq_str_int (cV I q (by simp))
  | str j=>obtain ⟨t',rfl⟩:=ry;exact eq_str (cV I q Ji)
  | _=>exact absurd (show false=true from hs) de
 | jU i=>
  obtain ⟨t,rfl⟩:=rx;cases y with
  | jU j=>obtain ⟨t',rfl⟩:=ry;exact PySem.W.eq_bytes (cV I q Jj)
  | _=>exact absurd (show false=true from hs) de
 | _=>cases y <;> exact absurd (show false=true from hs) de
theorem iq:cf X (compareOp .NotEq) Jf:=by
 intro pins s σ H x y v u Q I rx ry h;obtain ⟨hs,q⟩:=h;cases x with
 | aI=>
  cases rx;cases y with
  | aI=>cases ry;exact PySem.EqNone.ne_none_none (cV I q (by simp))
  | bl j=>cases ry;exact PySem.EqNone.ne_none_bool (cV I q (by simp))
  | int j=>obtain ⟨t',rfl⟩:=ry;exact PySem.EqNone.ne_none_int (cV I q (by simp))
  | str j=>obtain ⟨t',rfl⟩:=ry;exact PySem.EqNone.ne_none_str (cV I q (by simp))
  | _=>exact absurd (show false=true from hs) de
 | bl i=>
  cases rx;cases y with
  | aI=>cases ry;exact PySem.EqNone.ne_bool_none (cV I q (by simp))
  | bl j=>cases ry;exact ne_bool (cV I q (hV not Jh))
  | str j=>obtain ⟨t',rfl⟩:=ry;exact PySem.EqMixed.ne_bool_str (cV I q (by simp))
  | _=>exact absurd (show false=true from hs) de
 | int i=>
  obtain ⟨t,rfl⟩:=rx;cases y with
  | aI=>cases ry;exact PySem.EqNone.ne_int_none (cV I q (by simp))
  | int j=>obtain ⟨t',rfl⟩:=ry;exact ne_int (cV I q (hV not Jg))
  | str j=>obtain ⟨t',rfl⟩:=ry;exact PySem.EqMixed.ne_int_str (cV I q (by simp))
  | _=>exact absurd (show false=true from hs) de
 | str i=>
  obtain ⟨t,rfl⟩:=rx;cases y with
  | aI=>cases ry;exact PySem.EqNone.ne_str_none (cV I q (by simp))
  | bl j=>cases ry;exact PySem.EqMixed.ne_str_bool (cV I q (by simp))
  | int j=>obtain ⟨t',rfl⟩:=ry;exact PySem.EqMixed.ne_str_int (cV I q (by simp))
  | str j=>obtain ⟨t',rfl⟩:=ry;exact ne_str (cV I q (hV not Ji))
  | _=>exact absurd (show false=true from hs) de
 | jU i=>
  obtain ⟨t,rfl⟩:=rx;cases y with
  | jU j=>obtain ⟨t',rfl⟩:=ry;exact PySem.W.ne_bytes (cV I q (hV not Jj))
  | _=>exact absurd (show false=true from hs) de
 | _=>cases y <;> exact absurd (show false=true from hs) de
theorem lV:cf X (compareOp .Lt) (oJ fun i j=>.bl (decide (i<j))):=AF fun _ _ _ _ _ _ _ q=>lt_int q
theorem AI:cf X (compareOp .LtE) (oJ fun i j=>.bl (decide (i≤j))):=AF fun _ _ _ _ _ _ _ q=>le_int q
theorem oK:cf X (compareOp .Gt) (oJ fun i j=>.bl (decide (j<i))):=AF fun _ _ _ _ _ _ _ q=>gt_int q
theorem Qn:cf X (compareOp .GtE) (oJ fun i j=>.bl (decide (j≤i))):=AF fun _ _ _ _ _ _ _ q=>ge_int q
theorem um:cf X (compareOp .Is) (fun x y H Q=>y=.aI∧Q (.bl (decide (x=.aI))) H):=by
 intro pins s σ H x y v u Q I rx ry h;obtain ⟨rfl,q⟩:=h;cases ry;refine is_none_gen (cV I q ?_)
 cases x <;> first
  | (cases rx;rfl)
  | (obtain ⟨t,rfl⟩:=rx;rfl)
theorem Jk:cf X (compareOp .IsNot) (fun x y H Q=>y=.aI∧Q (.bl (!decide (x=.aI))) H):=by
 intro pins s σ H x y v u Q I rx ry h;obtain ⟨rfl,q⟩:=h;cases ry;refine isnot_none_gen (cV I q ?_)
 cases x <;> first
  | (cases rx;rfl)
  | (obtain ⟨t,rfl⟩:=rx;rfl)
variable {op:CmpOp}
theorem Ei(b:Expr)(h:op≠.In:=by decide)(h2:op≠.NotIn:=by decide):behindInMarks op b=false:=by
 have e1:(op == CmpOp.In)=false:=by cases op <;> first | rfl | exact absurd rfl h
 have e2:(op == CmpOp.NotIn)=false:=by cases op <;> first | rfl | exact absurd rfl h2
 cases b <;> simp [behindInMarks,e1,e2]
theorem AJ{op:CmpOp}{r:R2}(ho:cf X (compareOp op) r)(ha:PE X a ta)(hb:PE X b tb)(hm:behindInMarks op b=false):PE X (.Compare a [op] [b] pos) (m5 r ta tb):=by intro pins s σ H Q I h;exact wpAny_Compare1 (Ef ha hb I h fun v u s2 x y H2 I2 rx ry q=>ho pins s2 σ H2 x y v u Q I2 rx ry q) hm
theorem lW{r:R2}(ho:cf X (compareOp op) r)(ha:PE X a ta)(hb:PE X b tb)(hm:behindInMarks op b=false:=by exact Ei _):PE X (.Compare a [op] [b] pos) (m5 r ta tb):=AJ ho ha hb hm
def Jl(t:TE):TT:=fun σ H Q=>t σ H fun x H'=>∃k,x=.bl k∧Q k H'
theorem uo{r:R2}(ho:cf X (compareOp op) r)(ha:PE X a ta)(hb:PE X b tb)(hm:behindInMarks op b=false):PT X (.Compare a [op] [b] pos) (Jl (m5 r ta tb)):=by intro pins s σ H Q I h;refine wpAny_isTrue_Compare1 (aO (ha pins s σ H _ I h) fun v s1 ⟨x,H1,I1,r1,q1⟩=>aO (hb pins s1 σ H1 _ I1 q1) fun u s2 ⟨y,H2,I2,r2,q2⟩=>aO (ho pins s2 σ H2 x y v u _ I2 r1 r2 q2) fun c s3 ⟨z,H3,I3,r3,k,e,q3⟩=>?_) hm;subst e;cases r3;exact oq ⟨H3,I3,q3⟩
theorem aY{r:R2}(ho:cf X (compareOp op) r)(ha:PE X a ta)(hb:PE X b tb)(hm:behindInMarks op b=false:=by exact Ei _):PT X (.Compare a [op] [b] pos) (Jl (m5 r ta tb)):=uo ho ha hb hm
def Qo(r r':R2)(ta tb tc:TE):TE:=fun σ H Q=>ta σ H fun x H1=>tb σ H1 fun y H2=>r x y H2 fun z H3=>∃k,z=.bl k ∧
 (if k=true then tc σ H3 fun w' H4=>r' y w' H4 Q else Q (.bl false) H3)
theorem Jm{Ej:CmpOp}{r r':R2}(ho:cf X (compareOp op) r)(lM:cf X (compareOp Ej) r')(ha:PE X a ta)(hb:PE X b tb)(hc:PE X c tc)
  (hm:lastMarks [op,Ej] [b,c]=false:=by with_unfolding_all rfl):PE X (.Compare a [op,Ej] [b,c] pos) (Qo r r' ta tb tc):=by
 intro pins s σ H Q I h;refine Compare_chain (aO (ha pins s σ H _ I h) fun v s1 ⟨x,H1,I1,r1,q1⟩=>chain_link (aO (hb pins s1 σ H1 _ I1 q1) fun u s2 ⟨y,H2,I2,r2,q2⟩=>aO (ho pins s2 σ H2 x y v u _ I2 r1 r2 q2) fun d s3 ⟨z,H3,I3,r3,k,e,q3⟩=>?_)) hm;subst e;cases r3;refine oq ?_;cases k with
 | false=>exact ite_ff ⟨.bl false,H3,I3,rfl,q3⟩
 | true=>exact ite_tt (chain_last (aO (hc pins s3 σ H3 _ I3 q3) fun w' s4 ⟨z',H4,I4,r4,q4⟩=>lM pins s4 σ H4 y z' u w' Q I4 r2 r4 q4))
theorem AK:(sizeLine:Nat)<2 ^ 63:=by rw [sizeLine_eq];decide
theorem vals1(r:Vals [x] us):∃u,us=[u]∧RelV x u:=by
 cases r with
 | cons r1 r2=>cases r2;exact ⟨_,rfl,r1⟩
theorem vals2{y:V}(r:Vals [x,y] us):∃u w',us=[u,w']∧RelV x u∧RelV y w':=by
 cases r with
 | cons r1 r2=>
  cases r2 with
  | cons r3 r4=>cases r4;exact ⟨_,_,rfl,r1,r3⟩
theorem Ek:gO X (.builtin "abs") (fun xs H Q=>∃i,xs=[.int i]∧Q (.int (if i<0 then -i else i)) H):=by intro pins s σ H xs us Q I r h;obtain ⟨i,rfl,q⟩:=h;obtain ⟨u,rfl,t,rfl⟩:=vals1 r;exact call_abs_int fun u tk=>⟨.int (if i<0 then -i else i),H,I.tok _,⟨_,rfl⟩,q⟩
theorem Qp(hc:X.calm=true):gO X (.builtin "max") (fun xs H Q=>∃i j,xs=[.int i,.int j]∧Q (.int (if j>i then j else i)) H):=by
 intro pins s σ H xs us Q I r h;obtain ⟨i,j,rfl,q⟩:=h;obtain ⟨u,w',rfl,⟨t,rfl⟩,⟨t',rfl⟩⟩:=vals2 r;refine max_two_ints (I.ok.hd hc) fun h' tk k=>⟨_,H,I.kept k,?_,q⟩;by_cases hj:j>i;·rw [ar hj,ar hj];exact ⟨_,rfl⟩
 ·rw [au hj,au hj];exact ⟨_,rfl⟩
theorem Qq(hc:X.calm=true):gO X (.builtin "min") (fun xs H Q=>∃i j,xs=[.int i,.int j]∧Q (.int (if j<i then j else i)) H):=by
 intro pins s σ H xs us Q I r h;obtain ⟨i,j,rfl,q⟩:=h;obtain ⟨u,w',rfl,⟨t,rfl⟩,⟨t',rfl⟩⟩:=vals2 r;refine min_two_ints (I.ok.hd hc) fun h' tk k=>⟨_,H,I.kept k,?_,q⟩;by_cases hj:j<i;·rw [ar hj,ar hj];exact ⟨_,rfl⟩
 ·rw [au hj,au hj];exact ⟨_,rfl⟩
theorem Jn:gO X (.type "int") (fun xs H Q=>(∃i,xs=[.int i]∧Q (.int i) H)∨∃k,xs=[.bl k]∧Q (.int (if k then 1 else 0)) H):=by
 intro pins s σ H xs us Q I r h;rcases h with ⟨i,rfl,q⟩ | ⟨k,rfl,q⟩
 ·obtain ⟨u,rfl,t,rfl⟩:=vals1 r
  exact call_int_int ⟨.int i,H,I,⟨_,rfl⟩,q⟩
 ·obtain ⟨u,rfl,r1⟩:=vals1 r
  cases r1;exact call_int_bool ⟨.int (if k then 1 else 0),H,I.tok _,⟨_,rfl⟩,q⟩
end
structure qm (h:Heap) (x dx C:Addr) (mA:dh):Prop where
 obj:h.get? x=some (PySem.W.instObj C dx)
 ns:h.Ns1 dx mA
 ne:dx≠x
variable {dx:Addr} {mA:dh}
theorem Qr(n:h.Ns1 dx mA):∃od,h.get? dx=some od∧∀name,PySem.W.lookIn name od=some (mA name):=by
 obtain ⟨o,es,ep,ho,hd,hk,_,hm⟩:=n;refine ⟨o,ho,fun name=>?_⟩;have e:=hm name;unfold nsFind findBy at e;rw [←Array.find?_toList] at e;unfold PySem.W.lookIn;rw [hd];dsimp only
 split
 ·rename_i y q
  rw [q] at e;exact hV some e
 ·rename_i q
  rw [q] at e;have a:es.toList.any (·.refKey)=false:=by rw [List.any_eq_false];intro y hy;obtain ⟨z,t,Qs⟩:=hk y (Array.mem_toList_iff.mp hy);simp [DictEntry.refKey,Qs]
  have a':¬es.toList.any (·.refKey)=true:=by rw [a];exact de
  rw [au a'];exact hV some e
variable {C:Addr}
theorem qm.look{x:Addr}(I:qm h x dx C mA):∃od,PySem.W.InstAt h x (PySem.W.instObj C dx) C (some od)∧∀name,PySem.W.lookIn name od=some (mA name):=
 let ⟨od,ho,hl⟩:=Qr I.ns
 ⟨od,⟨I.obj,rfl,rfl,ho⟩,hl⟩
section
variable {prog:Program} {w:World} {A:Around} {E:aR} {s:Shared} {K:aC} {x dx C f:Addr} {mA:dh} {name:Str} {v:Value}
theorem get_map{expr:Bool}{Q:aR}(X:K.In s.heap)(I:qm s.heap x dx C mA)(hg:PySem.W.plainGet K C name=true)(hh:PySem.W.hasDictIn K C=true)
  (ha:PySem.W.findIn K (.ref C) name=some none) (hv:mA name=some v) (kN:PySem.W.handedIn v=true) (h:Q v {s with toks:=s.toks+1}) :
  wpAny (model prog w) A (getAttr (.ref x) name expr) Q E s:=by
 obtain ⟨od,J,hl⟩:=I.look;exact PySem.W.get_value X J (PySem.W.plainGet_of hg).1 (PySem.W.findObj_own hh ha rfl (by rw [hl,hv])) kN h
theorem Qt{pl:Sem Bool}{Q:Value×List Value→Shared→Prop}(X:K.In s.heap)(I:qm s.heap x dx C mA)(hg:PySem.W.plainGet K C name=true)
  (hf:PySem.W.findIn K (.ref C) name=some (some (.ref f))) (ht:PySem.W.isFn K (.ref f)=true) (hv:mA name=none) (h:Q (.ref f,[.ref x]) s) :
  wpAny (model prog w) A (getMethod (.ref x) name pl) Q E s:=by
 obtain ⟨od,J,hl⟩:=I.look;exact PySem.W.method_fn X J (PySem.W.plainGet_of hg).1 (PySem.W.plainGet_of hg).2 hf (kA.mp ht) (by show (PySem.W.lookIn name od).map (·.isSome)=some false;rw [hl,hv];rfl) h
theorem Qu{ns:List Str}{Q:Unit→Shared→Prop}(X:K.In s.heap)(I:qm s.heap x dx C mA)
  (hs:PySem.W.findIn K (.ref C) "__setattr__"=some (some (.builtin "object.__setattr__"))) (hp:PySem.W.plainOver K C=true) (ht:PySem.W.takerIn K C name=some none) (hh:PySem.W.hasDictIn K C=true)
  (hw:PySem.Within mA ns) (hsz:ns.length≤sizeLine)
  (h:∀h',qm h' x dx C (fun y=>if y=name then some v else mA y)→Heap.SameBut dx s.heap h'→Q () {s with heap:=h',toks:=s.toks+2}) :
  wpAny (model prog w) A (setAttr (.ref x) name v) Q E s:=by
 obtain ⟨od,J,hl⟩:=I.look;refine PySem.W.set_plain X J hs (PySem.W.osa_open (s:={s with toks:=s.toks+1}) (r:=none) X J hp ht fun b=>?_);obtain ⟨cd,hc,D3⟩:=PySem.W.any_some hh;have hx:s.heap.get? x=some ⟨.ref C,some dx,.plain,#[]⟩:=I.obj;refine b7 (dM (b7 (b7 (wpAny_loadPart hx (b7 (PySem.W.Looks.here (s:={s with toks:=s.toks+1}) (PySem.W.looks_clsIn X hc) ?_))))));rw [D3];refine dM (a:=some dx) (b7 (dM (b7 ?_)));refine wpAny_nsSet1 (s:={s with toks:=s.toks+1}) I.ns fun h' ur lS=>?_;obtain ⟨oD,esD,epD,Qv,Qw,Qx⟩:=ur.count (PySem.Within.cons name v hw);refine b7 (wpAny_lookBehind Qv (by rw [Qw];exact pastItsLine_dict (aQ Qx (by rw [e_];lia))) ?_)
 exact dM (h _ ⟨(lS.2 _ (Ne.symm I.ne)).trans I.obj,ur,I.ne⟩ lS)
theorem Qy{R:Result→Shared→Prop}{vs:List Value}{kw:List (Str×Value)}(X:K.In s.heap)(hm:PySem.W.makesIn K C=true)
  (hi:PySem.W.findIn K (.ref C) "__init__"=some (some (.ref f))) (hf:PySem.W.typeIn K (.ref f)=some (.type "function"))
  (h:codeAny (model prog w) (A.under (.builtin "type.__call__" ⟨.ref C::vs,kw⟩)) (.call (.ref f) ⟨.ref (s.heap.objs.size+1)::vs,kw⟩) (PySem.W.InitBack (s.heap.objs.size+1) R)
   {s with heap:=(s.heap.push PySem.W.emptyDict).push (PySem.W.instObj C s.heap.objs.size)}) :
  codeAny (model prog w) A (.call (.ref C) ⟨vs,kw⟩) R s:=by
 obtain ⟨hh,g,d,t,os⟩:=s;exact PySem.W.make_core (PySem.W.makes_of X hm) (Ab X hi) (fun self=>PySem.W.bind_fn X self hf) (.inl rfl) h
end
def gY(f:Str)(v:V):List (Str×V)→List (Str×V)
 | []=>[(f,v)]
 | (g,x)::r=>if g=f then (g,v)::r else (g,x)::gY f v r
theorem Jo(f g:Str)(v:V):∀fs:List (Str×V),(gY f v fs).lookup g=if g=f then some v else fs.lookup g
 | []=>by
  show List.lookup g [(f,v)]=_;by_cases h:g=f
  ·have hb:(g == f)=true:=kA.mpr h
   simp only [List.lookup,hb,ar h]
  ·have hb:(g == f)=false:=mH.mpr h
   simp only [List.lookup,hb,au h]
 | (k,x)::r=>by
  have ih:=Jo f g v r;rw [show gY f v ((k,x)::r)=(if k=f then (k,v)::r else (k,x)::gY f v r) from rfl]
  by_cases hk:k=f
  ·rw [ar hk]
   by_cases h:g=k
   ·have hb:(g == k)=true:=kA.mpr h
    simp only [List.lookup,hb,ar (h.trans hk)]
   ·have hb:(g == k)=false:=mH.mpr h
    simp only [List.lookup,hb,au (fun e:g=f=>h (e.trans hk.symm))]
  ·rw [au hk]
   by_cases h:g=k
   ·have hb:(g == k)=true:=kA.mpr h
    simp only [List.lookup,hb,au (fun e:g=f=>hk (h.symm.trans e))]
   ·have hb:(g == k)=false:=mH.mpr h
    simp only [List.lookup,hb];exact ih
theorem El(f:Str)(v:V):∀fs:List (Str×V),f∈(gY f v fs).map (·.1)∧∀g,g∈fs.map (·.1)→g∈(gY f v fs).map (·.1)
 | []=>⟨by simp [gY],fun g h=>by simp at h⟩
 | (k,x)::r=>by
  obtain ⟨i1,i2⟩:=El f v r;rw [show gY f v ((k,x)::r)=(if k=f then (k,v)::r else (k,x)::gY f v r) from rfl]
  by_cases hk:k=f
  ·rw [ar hk]
   subst hk;exact ⟨by simp,fun g h=>by simpa using h⟩
  ·rw [au hk]
   refine ⟨?_,fun g h=>?_⟩
   ·rw [cX]
    exact e9 _ i1
   ·rw [cX] at h ⊢
    rcases dy.mp h with e | e;·exact dy.mpr (.inl e)
    ·exact e9 _ (i2 g e)
theorem Jp(f:Str)(v:V):∀fs:List (Str×V),(gY f v fs).length≤fs.length+1
 | []=>by simp [gY]
 | (k,x)::r=>by
  have ih:=Jp f v r;rw [show gY f v ((k,x)::r)=(if k=f then (k,v)::r else (k,x)::gY f v r) from rfl]
  by_cases hk:k=f;·rw [ar hk,e_,e_];lia
  ·rw [au hk,e_,e_];lia
variable {v:V}
theorem jb.some_of{o:Option Value}(r:jb (some v) o):∃u,o=some u∧RelV v u:=by
 cases o with
 | none=>exact (show False from r).elim
 | some u=>exact ⟨u,rfl,r⟩
theorem jb.none_of{o:Option Value}(r:jb none o):o=none:=by
 cases o with
 | none=>rfl
 | some u=>exact (show False from r).elim
theorem Qz(r:RelV v u):PySem.W.handedIn u=true:=by
 cases v with
 | aI=>cases (show u=Value.none from r);rfl
 | bl b=>cases (show u=Value.bool b from r);rfl
 | int i=>obtain ⟨t,e⟩:=(show ∃t,u=Value.int i t from r);cases e;rfl
 | str x=>obtain ⟨t,e⟩:=(show ∃t,u=Value.str x t from r);cases e;rfl
 | jU b=>obtain ⟨t,e⟩:=(show ∃t,u=Value.bytes b t from r);cases e;rfl
 | p_ b=>obtain ⟨t,e⟩:=(show ∃t,u=Value.float b t from r);cases e;rfl
 | ref a=>cases (show u=Value.ref a from r);rfl
 | ty n=>cases (show u=Value.type n from r);rfl
section
variable {P:Program} {w:World} {H H':Hp} {h h':Heap} {a C dx:Addr} {fs DZ:List (Str×V)}
theorem AL(az:cA P w H h)(e:H a=some (.ins C dx fs)):∃mA,qm h a dx C mA∧(∀f,jb (fs.lookup f) (mA f))∧PySem.Within mA (fs.map (·.1))∧fs.length≤1000∧H dx=some (.own a):=by obtain ⟨d,z,ne,ob,mA,n,r,q⟩:=(show cP P w H h a (.ins C dx fs) from az a _ e);exact ⟨mA,⟨ob,n,ne⟩,r,q,z,d⟩
end
structure kP (K:aC) (C:Addr):Prop where
 pg:PySem.W.plainGet K C Str.empty=true
 hd:PySem.W.hasDictIn K C=true
 po:PySem.W.plainOver K C=true
 sa:PySem.W.findIn K (.ref C) "__setattr__"=some (some (.builtin "object.__setattr__"))
theorem kP.get{K:aC}{C:Addr}(c:kP K C)(f:Str):PySem.W.plainGet K C f=true:=c.pg
def qo(K:aC)(C:Addr)(f:Str):Prop:=PySem.W.findIn K (.ref C) f=some none
theorem qo.QA{f:Str}(n:qo K C f):PySem.W.takerIn K C f=some none:=by unfold PySem.W.takerIn;rw [show PySem.W.findIn K (.ref C) f=some none from n];rfl
structure Meth (K:aC) (C:Addr) (m:Str) (f:Addr):Prop where
 at_:PySem.W.findIn K (.ref C) m=some (some (.ref f))
 fn:PySem.W.isFn K (.ref f)=true
 kp:PySem.W.keepIn K (.ref f)=true
section
variable {X:Cx} {pins:aU} {σ:St} {H:Hp} {s:Shared} {a C dx:Addr} {fs:List (Str×V)} {f:Str} {v:V} {A:Around} {E:aR}
variable {Q:aR}
theorem QB{b:Bool}(I:Inv X pins σ H s)(e:H a=some (.ins C dx fs))(c:kP X.K C)(n:qo X.K C f)(l:fs.lookup f=some v)
  (h:∀u s',Inv X pins σ H s'→RelV v u→Q u s'):wpAny (model X.prog X.w) A (getAttr (.ref a) f b) Q E s:=by
 obtain ⟨mA,O,r,_,_,_⟩:=AL I.az e;obtain ⟨u,hu,ru⟩:=jb.some_of (v:=v) (o:=mA f) (by rw [←l];exact r f)
 exact get_map I.dG O (c.get f) c.hd n hu (Qz ru) (h u _ (I.tok _) ru)
theorem Jq{m:Str}{g:Addr}{pl:Sem Bool}{Q:Value×List Value→Shared→Prop}(I:Inv X pins σ H s)(e:H a=some (.ins C dx fs))(c:kP X.K C)(k:Meth X.K C m g)(l:fs.lookup m=none)
  (h:Q (.ref g,[.ref a]) s):wpAny (model X.prog X.w) A (getMethod (.ref a) m pl) Q E s:=by
 obtain ⟨mA,O,r,_,_,_⟩:=AL I.az e;have hn:mA m=none:=jb.none_of (by rw [←l];exact r m)
 exact Qt I.dG O (c.get m) k.at_ k.fn hn h
theorem QC{y:V}{Q:Unit→Shared→Prop}(I:Inv X pins σ H s)(e:H a=some (.ins C dx fs))(c:kP X.K C)(n:qo X.K C f)(hl:fs.length<1000)(ry:RelV y u)
  (h:∀s',Inv X pins σ (upd H a (.ins C dx (gY f y fs))) s'→Q () s'):wpAny (model X.prog X.w) A (setAttr (.ref a) f u) Q E s:=by
 obtain ⟨mA,O,r,wi,_,ho⟩:=AL I.az e;have hz:(fs.map (·.1)).length≤sizeLine:=by rw [aX,sizeLine_eq];lia
 refine Qu I.dG O c.sa c.po n.QA c.hd wi hz fun h' O' sb=>h _ ?_;have hd:∃o,h'.get? dx=some o:=let ⟨o,_,_,e',_⟩:=O'.ns;⟨o,e'⟩
 refine I.write (x:=a) (e:=dx) (by rw [e];exact True.intro) (.inr ho) (fun b q hb z=>(sb.2 b hb).trans z) hd ?_
 refine ⟨by rw [aJ O.ne];exact ho,?_,O.ne,O'.obj,_,O'.ns,fun g=>?_,fun g hg=>?_⟩
 ·have:=Jp f y fs;lia
 ·show jb ((gY f y fs).lookup g) (if g=f then some u else mA g)
  rw [Jo];by_cases q:g=f;·rw [ar q,ar q];exact ry
  ·rw [au q,au q];exact r g
 ·by_cases q:g=f
  ·rw [q];exact (El f y fs).1
  ·refine (El f y fs).2 g (wi g fun z=>hg ?_)
   show (if g=f then some u else mA g)=none
   rw [au q];exact z
theorem Inv.made(I:Inv X pins σ H s):Inv X pins σ (upd (upd H s.heap.objs.size (.own (s.heap.objs.size+1))) (s.heap.objs.size+1) (.ins C s.heap.objs.size []))
  {s with heap:=(s.heap.push PySem.W.emptyDict).push (PySem.W.instObj C s.heap.objs.size)}:=by
 have e1:(s.heap.push PySem.W.emptyDict).get? s.heap.objs.size=some PySem.W.emptyDict:=fH s.heap rfl;have e2:((s.heap.push PySem.W.emptyDict).push (PySem.W.instObj C s.heap.objs.size)).get? (s.heap.objs.size+1)=some (PySem.W.instObj C s.heap.objs.size):=by
  have:=fH (s.heap.push PySem.W.emptyDict) (o:=PySem.W.instObj C s.heap.objs.size) rfl
  rwa [Heap.size_push] at this
 have e3:(s.heap.push PySem.W.emptyDict).Ns s.heap.objs.size (fun _=>none):=⟨PySem.W.emptyDict,#[],_,e1,rfl,(fun e he=>absurd he (by simp)),fun _=>rfl⟩
 have I1:=I.laid (a:=s.heap.objs.size) (o:=.own (s.heap.objs.size+1)) (h':=s.heap.push PySem.W.emptyDict) (t':=s.toks) (fun b u q=>cz _ q) (aN _) ⟨_,e1⟩;refine I1.laid (a:=s.heap.objs.size+1) (o:=.ins C s.heap.objs.size []) (t':=s.toks) (fun b u q=>cz _ q) (Nat.le_of_eq (Heap.size_push _ _)) ?_;have ne:s.heap.objs.size≠s.heap.objs.size+1:=d5 (Nat.lt_succ_self _);refine ⟨by rw [aJ ne,ay],cn _,ne,e2,fun _=>none,(Heap.Ns1.of_empty e3).at fun o q=>cz _ q,fun _=>True.intro,fun y hy=>absurd rfl hy⟩
theorem QD{prog:Program}{env:Env}{e:Expr}{pos:Pos}(hb:attributeBase e f env (eval e env)=eval e env)
  (h:wpAny (model prog w) A (eval e env) (fun o s₁=>wpAny (model prog w) A (getAttr o f true) Q E s₁) E s):wpAny (model prog w) A (eval (.Attribute e f pos) env) Q E s:=
 Attribute_any_ h (by rw [arm_eval_Attribute,hb])
end
def QE(K:aC)(ta:TE)(f:Str):TE:=fun σ H Q=>ta σ H fun x H1=>∃a C dx fs v,x=.ref a∧H1 a=some (.ins C dx fs)∧kP K C∧qo K C f∧fs.lookup f=some v∧Q v H1
def QF(K:aC)(ta tv:TE)(f:Str):TS:=fun D σ H=>tv σ H fun y H1=>ta σ H1 fun x H2=>∃a C dx fs,x=.ref a∧H2 a=some (.ins C dx fs)∧kP K C∧qo K C f∧fs.length<1000 ∧
 D.nx σ (upd H2 a (.ins C dx (gY f y fs)))
section
variable {X:Cx} {o e value:Expr} {f:Str} {pos pos' AM:Pos} {ta tv:TE}
theorem lX(he:PE X e ta)(hb:attributeBase e f X.env (eval e X.env)=eval e X.env):PE X (.Attribute e f pos) (QE X.K ta f):=by intro pins s σ H Q I h;refine QD hb (aO (he pins s σ H _ I h) fun u s1 ⟨x,H1,I1,rx,a,C,dx,fs,v,ex,ea,c,n,l,q⟩=>?_);subst ex;obtain rfl:u=Value.ref a:=rx;exact QB I1 ea c n l fun u' s2 I2 ru=>⟨v,H1,I2,ru,q⟩
theorem Jr(ha:PE X o ta)(hv:PE X value tv)(hs:swapsWith value (some (.Attribute o f pos')) pos.line X.env=pure false):PS X (.Assign [.Attribute o f pos'] value pos) (QF X.K ta tv f):=by intro pins s σ H D I h;refine plainObj_wpAny_Assign_Attribute (aO (hv pins s σ H _ I h) fun u s1 ⟨y,H1,I1,ry,q⟩=>aO (ha pins s1 σ H1 _ I1 q) fun ov s2 ⟨x,H2,I2,rx,a,C,dx,fs,ex,ea,c,n,l,q2⟩=>?_) hs;subst ex;obtain rfl:ov=Value.ref a:=rx;exact QC I2 ea c n l ry fun s3 I3=>⟨σ,_,I3,q2⟩
theorem agq{pl:Sem Bool}{m:Str}{apos:Pos}{args:List Expr}{pins:aU}{Q:aR}{te:TE}(he:PE X e te)(I:Inv X pins σ H s)
  (h:te σ H fun x H1=>∃a C dx fs g,x=.ref a∧H1 a=some (.ins C dx fs)∧kP X.K C∧Meth X.K C m g∧fs.lookup m=none ∧
   ∀s1,Inv X pins σ H1 s1→wpAny (model X.prog X.w) X.A (callWith pos (.ref g) [.ref a] (backTo pos (starEach args X.env)) (backToKw pos (keywordEach [] X.env))) Q X.xe s1)
  (ht:eval (.Call (.Attribute e m apos) args [] pos) X.env=(do
   let ov ←eval e X.env
   standAt apos.atName
   let (f,first) ←holding [ov] (getMethod ov m pl)
   callWith pos f first (backTo pos (starEach args X.env)) (backToKw pos (keywordEach [] X.env)))) :
  wpAny (model X.prog X.w) X.A (eval (.Call (.Attribute e m apos) args [] pos) X.env) Q X.xe s:=by
 refine PySem.W.methodCall_KW (pl:=pl) (aO (he pins s σ H _ I h) fun u s1 ⟨x,H1,I1,rx,a,C,dx,fs,g,ex,ea,c,k,l,q⟩=>?_) ht
 subst ex
 obtain rfl:u=Value.ref a:=rx
 exact Jq I1 ea c k l (q s1 I1)
end
section
variable {X:Cx} {pins:aU} {σ:St} {H:Hp} {s:Shared} {A:Around} {E:aR} {Q:aR} {c:Value} {b:Bool}
inductive jh (K:aC) (H:Hp):V→Value→Prop where
 | aI:jh K H .aI (.type "NoneType")
 | bl (x:Bool):jh K H (.bl x) (.type "bool")
 | int (i:Int):jh K H (.int i) (.type "int")
 | str (x:Str):jh K H (.str x) (.type "str")
 | p_ (x:UInt64):jh K H (.p_ x) (.type "float")
 | lst {a:Addr} {xs:List V} (e:H a=some (.lst xs)):jh K H (.ref a) (.type "list")
 | cH {a:Addr} {o:Obj} {xs:List V} (e:H a=some (.cH o (.lst xs))):jh K H (.ref a) (.type "list")
 | tup {a:Addr} {xs:List V} (e:H a=some (.tup xs)):jh K H (.ref a) (.type "tuple")
 | dK {a:Addr} {aq:List (Key×V)} (e:H a=some (.dK aq)):jh K H (.ref a) (.type "dict")
 | dT {a:Addr} {aq:List (List Key×V)} (e:H a=some (.dT aq)):jh K H (.ref a) (.type "dict")
 | ins {a C dx:Addr} {fs:List (Str×V)} (e:H a=some (.ins C dx fs)) (cl:kP K C) (ha:PySem.W.findIn K (.ref C) "__class__"=some (some (.builtin "object.__class__")))
   (hn:PySem.W.specialIn K (.builtin "object.__class__") "__get__"=some (some (.builtin "getset_descriptor.__get__"))) (Js:PySem.W.takesIn K (.builtin "object.__class__")=some true)
   (hm:PySem.W.mroIn K C (.type "object")=some true):jh K H (.ref a) (.ref C)
theorem QG{t:Value}(I:Inv X pins σ H s)(rx:RelV x u)(ty:jh X.K H x t)(e:PySem.W.kitOne X.K t c=some b)(h:∀tk,Q (.bool b) {s with toks:=tk}) :
  wpAny (model X.prog X.w) A (call (.builtin "isinstance") [u,c]) Q E s:=by
 cases ty with
 | aI=>cases (show u=Value.none from rx);exact i5 PySem.W.kitx_none I.dG True.intro e (fun z=>nomatch z) h
 | bl y=>cases (show u=Value.bool y from rx);exact i5 PySem.W.kitx_bool I.dG True.intro e (fun z=>nomatch z) h
 | int i=>obtain ⟨t,q⟩:=(show ∃t,u=Value.int i t from rx);cases q;exact i5 PySem.W.kitx_int I.dG True.intro e (fun z=>nomatch z) h
 | str y=>obtain ⟨t,q⟩:=(show ∃t,u=Value.str y t from rx);cases q;exact i5 PySem.W.kitx_str I.dG True.intro e (fun z=>nomatch z) h
 | p_ y=>obtain ⟨t,q⟩:=(show ∃t,u=Value.float y t from rx);cases q;exact i5 PySem.W.kitx_float I.dG True.intro e (fun z=>nomatch z) h
 | @lst a xs ea=>cases (show u=Value.ref a from rx);obtain ⟨_,_,n,_,h1⟩:=(show cP X.prog X.w H s.heap a (.lst xs) from I.az a _ ea);exact i5 PySem.W.kitx_list I.dG ⟨_,h1,rfl⟩ e (fun z=>nomatch z) h
 | @cH a ob xs ea=>cases (show u=Value.ref a from rx);obtain ⟨_,_,_,n,_,h1⟩:=(show cP X.prog X.w H s.heap a (.cH ob (.lst xs)) from I.az a _ ea);exact i5 PySem.W.kitx_list I.dG ⟨_,h1,rfl⟩ e (fun z=>nomatch z) h
 | @tup a xs ea=>cases (show u=Value.ref a from rx);obtain ⟨_,_,_,p⟩:=(show cP X.prog X.w H s.heap a (.tup xs) from I.az a _ ea);obtain ⟨o,h1,h2,_⟩:=p;exact i5 PySem.W.kitx_tuple I.dG ⟨o,h1,h2⟩ e (fun z=>nomatch z) h
 | @dK a aq ea=>cases (show u=Value.ref a from rx);obtain ⟨_,_,vs,_,p⟩:=(show cP X.prog X.w H s.heap a (.dK aq) from I.az a _ ea);obtain ⟨o,es,ep,h1,h2,_⟩:=p;exact i5 PySem.W.kitx_dict I.dG ⟨o,h1,h2.1⟩ e (fun z=>nomatch z) h
 | @dT a aq ea=>cases (show u=Value.ref a from rx);obtain ⟨_,_,xs,_,o,es,ep,h1,h2,_⟩:=(show cP X.prog X.w H s.heap a (.dT aq) from I.az a _ ea);exact i5 PySem.W.kitx_dict I.dG ⟨o,h1,h2.1⟩ e (fun z=>nomatch z) h
 | @ins a C dx fs ea cl ha hn Js hm=>cases (show u=Value.ref a from rx);obtain ⟨mA,O,_⟩:=AL I.az ea;obtain ⟨od,J,_⟩:=O.look;exact i5 (PySem.W.kitx_own (cl.get _) cl.hd ha hn Js hm) I.dG J e (fun z=>nomatch z) h
end
structure di (k:Nat) (A:Around):Prop where
 hd:A.handled=none
 dp:A.depth+3*k+5<recursionLimit
 un:A.units+16*k+200<cLine
variable {k:Nat}
theorem di.mono{j:Nat}(r:di k A)(h:j≤k):di j A:=⟨r.hd,by have:=r.dp;lia,by have:=r.un;lia⟩
theorem di.deeper(r:di (k+1) A)(env:Env):di k (A.deeper env):=
 ⟨r.hd,by have:=r.dp;show A.depth+1+3*k+5<_;lia,by have:=r.un;show A.units+3+16*k+200<_;lia⟩
variable {kw:List (Str×Value)}
theorem QH:(A.under (.builtin "type.__call__" ⟨.ref C::us,kw⟩)).depth=A.depth+1:=by first | rfl | simp [Around.under,Code.weight,Code.isCreation,Code.isGuard,Code.isCaller,Code.frames,Code.isFrame,guardIds]
theorem QI:(A.under (.builtin "type.__call__" ⟨.ref C::us,kw⟩)).units=A.units+1:=by first | rfl | simp [Around.under,Code.cUnits,Code.frames,Code.isFrame]
theorem di.make(r:di (k+1) A)(C:Addr)(us:List Value)(kw:List (Str×Value)):di k (A.under (.builtin "type.__call__" ⟨.ref C::us,kw⟩)):=
 ⟨r.hd,by have:=r.dp;rw [QH];lia,by have:=r.un;rw [QI];lia⟩
theorem di.depth(r:di k A):A.depth<recursionLimit:=by have:=r.dp;lia
theorem di.units(r:di k A):A.units+64<cLine:=by have:=r.un;lia
theorem di.oM(r:di k A):A.units<cLine:=by have:=r.un;lia
def qr:TA:=fun _ H Q=>Q [] H
def AN(ta:TE)(tr:TA):TA:=fun σ H Q=>ta σ H fun x H1=>tr σ H1 fun xs H2=>Q (x::xs) H2
section
variable {X:Cx} {e:Expr} {es:List Expr} {te:TE} {t:TA} {pos:Pos}
theorem ae:PA X [] qr:=fun _ _ _ _ H Q I h=>Calls.spliced_nil ⟨[],H,I,.nil,h⟩
theorem QJ(ha:PE X e te)(hr:PA X es t)(hs:starEach (e::es) X.env=(false,eval e X.env)::starEach es X.env:=by rfl):PA X (e::es) (AN te t):=by intro pos pins s σ H Q I h;rw [hs];show wpAny _ _ (spliced ((false,eval e X.env)::backTo pos (starEach es X.env))) _ _ s;refine Calls.spliced_cons (aO (ha pins s σ H _ I h) fun u s1 ⟨x,H1,I1,r1,q1⟩=>?_);exact aO (hr pos pins s1 σ H1 _ I1 q1) fun us s2 ⟨xs,H2,I2,r2,q2⟩=>⟨x::xs,H2,I2,.cons r1 r2,q2⟩
def QK(t:TA):TE:=fun σ H Q=>t σ H fun xs H1=>xs.length≤sizeLine∧∀p,H1 p=none→Q (.ref p) (upd H1 p (.tup xs))
def QL(t:TA):TE:=fun σ H Q=>t σ H fun xs H1=>xs.length≤sizeLine∧∀p,H1 p=none→Q (.ref p) (upd H1 p (.lst xs))
theorem fU{x1}(h:PA X es t):PE X (.Tuple es x1 pos) (QK t):=by
 intro pins s σ H Q I hq;refine wpAny_Tuple_spliced (aO (h pos pins s σ H _ I hq) fun us s1 ⟨xs,H1,I1,r,z,q⟩=>⟨by rw [←r.length];exact z,?_⟩)
 have hf:H1 s1.heap.objs.size=none:=I1.az.fresh (aN _);refine ⟨.ref s1.heap.objs.size,upd H1 s1.heap.objs.size (.tup xs),I1.laid (t':=s1.toks) (fun b u e=>cz _ e) (aN _) ?_,rfl,q _ hf⟩;exact ⟨z,us,r,⟨_,fH _ rfl,rfl,_,rfl⟩⟩
theorem fV(h:PA X es t):PE X (.List es pos) (QL t):=by
 intro pins s σ H Q I hq;refine wpAny_List_spliced (aO (h pos pins s σ H _ I hq) fun us s1 ⟨xs,H1,I1,r,z,q⟩=>⟨by rw [←r.length];exact z,?_⟩)
 have hf:H1 s1.heap.objs.size=none:=I1.az.fresh (aN _);refine ⟨.ref s1.heap.objs.size,upd H1 s1.heap.objs.size (.lst xs),I1.laid (t':=s1.toks) (fun b u e=>cz _ e) (aN _) ?_,rfl,q _ hf⟩;exact ⟨z,us,0,r,fH _ rfl⟩
end
abbrev Sp:=List V→Hp→VK→XK→Prop
abbrev ir:=List Env→Hp→Shared→XK→Value→Shared→Prop
structure qt (P:Program) (w:World) (K:aC) (mg:dh) (base:Heap) (A:Around) (outer:List Env) (s:Shared) (H:Hp):Prop where
 frames:A.frames=some outer
 mod:Mod K mg base
 bs:∀b o,base.get? b=some o→s.heap.get? b=some o∧H b=none
 gM:base.objs.size≤s.heap.objs.size
 jV:s.heap.FunFrames base outer
 mV:∀b∈cG outer,H b=none
 az:cA P w H s.heap
 bare:AllBare s.gens
def CE(outer:List Env)(P:Program)(w:World)(H:Hp)(s:Shared)(Q:VK)(u:Value)(s':Shared):Prop:=
 ∃v H',s'.os=s.os∧AllBare s'.gens∧Un (cG outer) [] H H' s.heap s'.heap∧cA P w H' s'.heap∧RelV v u∧Q v H'
def CR(CX:ir)(outer:List Env)(P:Program)(w:World)(H:Hp)(s:Shared)(Q:VK)(E:XK)(r:Result)(s':Shared):Prop:=
 match r with
 | .ok (.ret u)=>CE outer P w H s Q u s'
 | .ok _=>False
 | .error e=>CX outer H s E e s'
structure aS (P:Program) (w:World) (K:aC) (mg:dh) (base:Heap) (CX:ir) (k:Nat) (f:Addr) (fd:FuncData) (ps:List Str) (sp:Sp):Prop where
 len:∀vs H Q E,sp vs H Q E→vs.length=ps.length
 run:∀(A:Around) (outer:List Env) (s:Shared) (H:Hp) (args:Args) (us:List Value) (vs:List V) (Q:VK) (E:XK),di k A→qt P w K mg base A outer s H→BindsTo s fd args (ps.zip us)→Vals vs us→sp vs H Q E→
  codeAny (model P w) A (.call (.ref f) args) (CR CX outer P w H s Q E) s
variable {mg:dh} {base:Heap} {outer:List Env}
theorem qt.make(e:qt P w K mg base A outer s H)(C:Addr)(us:List Value)(kw:List (Str×Value)) :
  qt P w K mg base (A.under (.builtin "type.__call__" ⟨.ref C::us,kw⟩)) outer s H:=⟨by first | exact e.frames | (simpa [Around.under,Code.envs,Code.isFrame,pushEnvs] using e.frames),e.mod,e.bs,e.gM,e.jV,e.mV,e.az,e.bare⟩
section
variable {X:Cx} {pins:aU} {σ:St} {H:Hp} {s s':Shared}
theorem Inv.Jt(I:Inv X pins σ H s):qt X.prog X.w X.K X.mg X.base X.A X.stack s H:=
 ⟨I.ok.frames,I.ok.mod,I.bs,aQ I.ok.gM I.sz,I.stack,I.qf,I.az,I.bare⟩
theorem Inv.after{Q:VK}(I:Inv X pins σ H s)(h:CE X.stack X.prog X.w H s Q u s'):EP X pins σ Q u s':=by obtain ⟨v,H',os,bare,un,az,r,q⟩:=h;obtain ⟨hh,g,d,t,QM⟩:=s';obtain rfl:QM=s.os:=os;exact ⟨v,H',I.call (h':=hh) (g':=g) (d':=d) (t':=t) (ch:=[]) un az bare (fun b z=>absurd z (by simp)),r,q⟩
end
def Ju(sp:Sp)(ft:List V)(E:XK)(t:TA):TE:=fun σ H Q=>t σ H fun vs H1=>sp (vs++ft) H1 Q E
def QN(C:Addr)(m:Str)(sp:Sp)(ft:List V)(E:XK)(ta:TE)(t:TA):TE:=fun σ H Q=>ta σ H fun x H1=>∃a dx fs,x=.ref a∧H1 a=some (.ins C dx fs)∧fs.lookup m=none ∧
 t σ H1 fun vs H2=>sp (x::(vs++ft)) H2 Q E
def QO(C:Addr)(sp:Sp)(ft:List V)(E:XK)(t:TA):TE:=fun σ H Q=>t σ H fun vs H1=>∀x dx,H1 x=none→H1 dx=none→dx≠x→
 sp (.ref x::(vs++ft)) (upd (upd H1 dx (.own x)) x (.ins C dx [])) (fun v H2=>v=.aI∧Q (.ref x) H2) E
def Binds(K:aC)(fd:FuncData)(ps:List Str)(ds:List Value):Prop:=
 ∀(s:Shared) (us:List Value),K.In s.heap→(us++ds).length=ps.length→BindsTo s fd ⟨us,[]⟩ (ps.zip (us++ds))
variable {ps:List Str}
theorem Binds.all{fd:FuncData}(h:∀us:List Value,us.length=ps.length→bindArgs fd ⟨us,[]⟩=pure (ps.zip us)):Binds K fd ps []:=fun s us _ hl=>by rw [tW] at hl ⊢;exact .of_eq (h us hl)
def Passes(CX:ir)(X:Cx)(E:XK):Prop:=∀(pins:aU) (σ:St) (H:Hp) (s:Shared) (e:Value) (s':Shared),Inv X pins σ H s→CX X.stack H s E e s'→X.xe e s'
section
variable {X:Cx} {CX:ir} {k:Nat} {f C:Addr} {fd:FuncData} {ps:List Str} {sp:Sp} {ft:List V} {ds:List Value} {E:XK} {x m:Str} {p pos apos:Pos} {e o:Expr} {es:List Expr} {ta:TE} {t:TA}
variable {pins:aU} {Q:VK}
theorem Jv{vs:List V}(F:aS X.prog X.w X.K X.mg X.base CX k f fd ps sp)(hr:di k X.A)(hb:Binds X.K fd ps ds)(hd:Vals ft ds)(hx:Passes CX X E)
  (I:Inv X pins σ H s) (r:Vals vs us) (h:sp (vs++ft) H Q E):wpAny (model X.prog X.w) X.A (call (.ref f) us) (EP X pins σ Q) X.xe s:=by
 have r2:Vals (vs++ft) (us++ds):=r.append hd;have hl:(us++ds).length=ps.length:=by rw [←r2.length];exact F.len _ _ _ _ h
 refine wpAny_call (codeAny_mono (F.run X.A X.stack s H ⟨us,[]⟩ (us++ds) (vs++ft) Q E hr I.Jt (hb s us I.dG hl) r2 h) fun r s' hq=>?_);cases r with
 | error e=>exact hx pins σ H s e s' I hq
 | ok fl=>
  cases fl with
  | ret u=>exact I.after hq
  | next=>exact False.elim hq
  | brk=>exact False.elim hq
  | cont=>exact False.elim hq
theorem Em(F:aS X.prog X.w X.K X.mg X.base CX k f fd ps sp)(hr:di k X.A)(hg:Gl X x)(hm:X.mg x=some (.ref f))(hk:PySem.W.keepIn X.K (.ref f)=true)(hb:Binds X.K fd ps ds)(hd:Vals ft ds)(hx:Passes CX X E)
  (ha:PA X (e::es) t) (m7:(x == ("__debug__":Str))=false:=by decide) (he:starEach (e::es) X.env=(false,eval e X.env)::starEach es X.env:=by rfl) (jX:(backTo pos (starEach es X.env)).any (·.1)=false:=by rfl) :
  PE X (.Call (.Name x p) (e::es) [] pos) (Ju sp ft E t):=by
 intro pins s σ H Q I h;refine Ac (Aw I hg hm ?_ m7);refine PySem.W.callWith_K (h₀:=X.base) I.ok.mod.cZ hk (aO (ha pos pins s σ H _ I h) fun us s1 ⟨vs,H1,I1,r,q⟩=>⟨I1.dG,?_⟩) he jX;exact Jv F hr hb hd hx I1 r q
theorem aB{j:Nat}(F:aS X.prog X.w X.K X.mg X.base CX k f fd ps sp)(hr:di j X.A)(hm:X.mg x=some (.ref f))(hk:PySem.W.keepIn X.K (.ref f)=true)(hb:Binds X.K fd ps [])(hx:Passes CX X E)
  (ha:PA X (e::es) t) (hj:k≤j:=by decide) (hg:Gl X x:=by exact rfl) (m7:(x == ("__debug__":Str))=false:=by decide) (he:starEach (e::es) X.env=(false,eval e X.env)::starEach es X.env:=by rfl) (jX:(backTo pos (starEach es X.env)).any (·.1)=false:=by rfl) :
  PE X (.Call (.Name x p) (e::es) [] pos) (Ju sp [] E t):=Em F (hr.mono hj) hg hm hk hb .nil hx ha m7 he jX
theorem oN{pl:Sem Bool}(he:PE X o ta)(c:kP X.K C)(hm:Meth X.K C m f)(F:aS X.prog X.w X.K X.mg X.base CX k f fd ps sp)(hr:di k X.A)(hb:Binds X.K fd ps ds)(hd:Vals ft ds)(hx:Passes CX X E)(ha:PA X (e::es) t)
  (Ec:starEach (e::es) X.env=(false,eval e X.env)::starEach es X.env:=by rfl) (jX:(backTo pos (starEach es X.env)).any (·.1)=false:=by rfl)
  (ht:eval (.Call (.Attribute o m apos) (e::es) [] pos) X.env=(do
   let ov ←eval o X.env
   standAt apos.atName
   let (f,first) ←holding [ov] (getMethod ov m pl)
   callWith pos f first (backTo pos (starEach (e::es) X.env)) (backToKw pos (keywordEach [] X.env))):=by rfl) :
  PE X (.Call (.Attribute o m apos) (e::es) [] pos) (QN C m sp ft E ta t):=by
 intro pins s σ H Q I h
 refine PySem.W.methodCall_KW (pl:=pl) (aO (he pins s σ H _ I h) fun u s1 ⟨x,H1,I1,rx,a,dx,fs,ex,ea,l,q⟩=>?_) ht
 subst ex
 obtain rfl:u=Value.ref a:=rx
 refine Jq I1 ea c hm l ?_
 refine PySem.W.callWith_K (first:=[.ref a]) (h₀:=X.base) I.ok.mod.cZ hm.kp (aO (ha pos pins s1 σ H1 _ I1 q) fun us s2 ⟨vs,H2,I2,r,q2⟩=>⟨I2.dG,?_⟩) Ec jX
 exact Jv (us:=.ref a::us) (vs:=.ref a::vs) F hr hb hd hx I2 (.cons rfl r) q2
structure Mk (K:aC) (C f:Addr):Prop where
 makes:PySem.W.makesIn K C=true
 init:PySem.W.findIn K (.ref C) "__init__"=some (some (.ref f))
 fn:PySem.W.isFn K (.ref f)=true
 kp:PySem.W.keepIn K (.ref C)=true
theorem QP{vs:List V}(M:Mk X.K C f)(F:aS X.prog X.w X.K X.mg X.base CX k f fd ps sp)(hr:di (k+1) X.A)(hb:Binds X.K fd ps ds)(hd:Vals ft ds)
  (hx:Passes CX X E) (I:Inv X pins σ H s) (r:Vals vs us)
  (h:∀x dx,H x=none→H dx=none→dx≠x→sp (.ref x::(vs++ft)) (upd (upd H dx (.own x)) x (.ins C dx [])) (fun v H2=>v=.aI∧Q (.ref x) H2) E) :
  wpAny (model X.prog X.w) X.A (call (.ref C) us) (EP X pins σ Q) X.xe s:=by
 have hq:=h (s.heap.objs.size+1) s.heap.objs.size (I.az.fresh (mJ _)) (I.az.fresh (aN _)) (d5 (Nat.lt_succ_self _));have I2:=Inv.made (C:=C) I;have r2:Vals (V.ref (s.heap.objs.size+1)::(vs++ft)) (Value.ref (s.heap.objs.size+1)::(us++ds)):=.cons rfl (r.append hd);have hl:(Value.ref (s.heap.objs.size+1)::us++ds).length=ps.length:=by have e:=r2.length;rw [F.len _ _ _ _ hq] at e;exact e.symm
 refine wpAny_call (Qy (f:=f) I.dG M.makes M.init (kA.mp M.fn) (codeAny_mono (F.run _ X.stack _ _ ⟨Value.ref (s.heap.objs.size+1)::us,[]⟩ (Value.ref (s.heap.objs.size+1)::(us++ds)) _ _ E (hr.make C us [])
  (I2.Jt.make C us []) (hb _ (Value.ref (s.heap.objs.size+1)::us) I2.dG hl) r2 hq) fun r s' cQ=>?_))
 cases r with
 | error e=>exact hx pins σ _ _ e s' I2 cQ
 | ok fl=>
  cases fl with
  | ret u=>obtain ⟨v,H',I3,rv,ev,q3⟩:=I2.after cQ;subst ev;exact ⟨rv,⟨V.ref (s.heap.objs.size+1),H',I3,rfl,q3⟩⟩
  | next=>exact False.elim cQ
  | brk=>exact False.elim cQ
  | cont=>exact False.elim cQ
theorem QQ(M:Mk X.K C f)(F:aS X.prog X.w X.K X.mg X.base CX k f fd ps sp)(hr:di (k+1) X.A)(hg:Gl X x)(hm:X.mg x=some (.ref C))(hb:Binds X.K fd ps ds)(hd:Vals ft ds)(hx:Passes CX X E)
  (ha:PA X (e::es) t) (m7:(x == ("__debug__":Str))=false:=by decide) (he:starEach (e::es) X.env=(false,eval e X.env)::starEach es X.env:=by rfl) (jX:(backTo pos (starEach es X.env)).any (·.1)=false:=by rfl) :
  PE X (.Call (.Name x p) (e::es) [] pos) (QO C sp ft E t):=by
 intro pins s σ H Q I h;refine Ac (Aw I hg hm ?_ m7);refine PySem.W.callWith_K (h₀:=X.base) I.ok.mod.cZ M.kp (aO (ha pos pins s σ H _ I h) fun us s1 ⟨vs,H1,I1,r,q⟩=>⟨I1.dG,?_⟩) he jX;exact QP M F hr hb hd hx I1 r q
end
section
variable {X:Cx} {CX:ir} {k:Nat} {f C:Addr} {fd:FuncData} {ps ks:List Str} {sp:Sp} {E:XK} {x m:Str} {p pos apos Jw:Pos} {e o:Expr} {es:List Expr} {QR:List Keyword} {te ta:TE} {t tk:TA} {nm:Option Str}
variable {g:List Value→List Value→List Value} {gV:List V→List V→List V}
end
structure aZ (N P:List Str) (sc:Scope):Prop where
 kind:sc.kind=.function
 co:sc.isCoroutine=false
 gen:sc.isGenerator=false
 nd:N.Nodup
 pre:N.take P.length=P
 par:∀x∈P,sc.names.lookup x=some .local∨sc.names.lookup x=some .cell
 QS:∀y∈sc.names,y.2≠.free
variable {N:List Str} {sc:Scope}
theorem bw{P:List Str}(h1:sc.kind=.function:=by rfl)(h2:sc.isCoroutine=false:=by rfl)(h3:sc.isGenerator=false:=by rfl)(h4:N.Nodup:=by decide +kernel)(h5:N.take P.length=P:=by rfl)(h6:∀x∈P,sc.names.lookup x=some .local∨sc.names.lookup x=some .cell:=by decide +kernel)(h7:∀y∈sc.names,y.2≠.free:=by decide +kernel):aZ N P sc:=⟨h1,h2,h3,h4,h5,h6,h7⟩
theorem Jx{kindOf:Str→Option NameKind}{x:Str}:∀{binds:List (Str×Value)} {m:dh},(∀v,(x,v)∉binds)→bindL kindOf binds m x=m x
 | [],_,_=>rfl
 | (n,v)::r,m,h=>by
  unfold bindL;rw [Jx fun w hw=>h w (e9 _ hw)]
  split
  ·have:x≠n:=by rintro rfl;exact h v hJ
   simp [this]
  ·rfl
theorem Jy{kindOf:Str→Option NameKind}{x:Str}:∀{binds:List (Str×Value)} {m:dh},(∀v,(x,v)∉binds)→bindC kindOf binds m x=m x
 | [],_,_=>rfl
 | (n,v)::r,m,h=>by
  unfold bindC;rw [Jy fun w hw=>h w (e9 _ hw)]
  split
  ·rfl
  ·have:x≠n:=by rintro rfl;exact h v hJ
   simp [this]
theorem Jz{kindOf:Str→Option NameKind}{x:Str}{v:Value}:∀{P:List Str} {vs:List Value} {i:Nat} {m:dh},P.Nodup→P[i]?=some x→vs[i]?=some v→kindOf x=some .local→
  bindL kindOf (P.zip vs) m x=some v
 | [],_,_,_,_,h,_,_=>by simp at h
 | _::_,[],_,_,_,_,h,_=>by simp at h
 | p::P,w::vs,0,m,nd,h1,h2,hk=>by simp at h1 h2;subst h1;subst h2;show bindL kindOf ((p,w)::P.zip vs) m p=_;unfold bindL;rw [Jx fun v hv=>(lG.mp nd).1 (List.of_mem_zip hv).1,ar hk];simp
 | p::P,w::vs,i+1,m,nd,h1,h2,hk=>by show bindL kindOf ((p,w)::P.zip vs) m x=_;unfold bindL;exact Jz (i:=i) (lG.mp nd).2 (by simpa using h1) (by simpa using h2) hk
theorem JA{kindOf:Str→Option NameKind}{x:Str}{v:Value}:∀{P:List Str} {vs:List Value} {i:Nat} {m:dh},P.Nodup→P[i]?=some x→vs[i]?=some v→kindOf x≠some .local→
  bindC kindOf (P.zip vs) m x=some v
 | [],_,_,_,_,h,_,_=>by simp at h
 | _::_,[],_,_,_,_,h,_=>by simp at h
 | p::P,w::vs,0,m,nd,h1,h2,hk=>by simp at h1 h2;subst h1;subst h2;show bindC kindOf ((p,w)::P.zip vs) m p=_;unfold bindC;rw [Jy fun v hv=>(lG.mp nd).1 (List.of_mem_zip hv).1,au hk];simp
 | p::P,w::vs,i+1,m,nd,h1,h2,hk=>by show bindC kindOf ((p,w)::P.zip vs) m x=_;unfold bindC;exact JA (i:=i) (lG.mp nd).2 (by simpa using h1) (by simpa using h2) hk
def start(N:List Str)(vs:List V):St:=vs.map some++List.replicate (N.length-vs.length) none
def ji(CX:ir)(P:Program)(w:World)(K:aC)(mg:dh)(base:Heap)(N:List Str)(qual:Str)(scope:Scope)(f:Addr)(cd:Value)(A:Around)(outer:List Env)(s:Shared)(H:Hp)(E:XK):Cx where
 prog:=P
 w:=w
 K:=K
 mg:=mg
 base:=base
 A:=A.deeper (envOfC qual scope s.heap.objs.size f cd)
 N:=N
 s₀:=s
 H₀:=H
 env:=envOfC qual scope s.heap.objs.size f cd
 outer:=outer
 stack:=envOfC qual scope s.heap.objs.size f cd::outer
 ex:=[]
 calm:=true
 fn:=fun _=>true
 pn:=[]
 xe:=fun e s'=>wpAny (model P w) (A.deeper (envOfC qual scope s.heap.objs.size f cd)) (leaving (envOfC qual scope s.heap.objs.size f cd) e) (fun _ gZ=>CX outer H s E e gZ) (fun e' gZ=>CX outer H s E e' gZ) s'
theorem JB{x:Str}(h:sc.names.lookup x=some .cell):∃c,(cellsFrom n sc.names []).lookup x=some c:=by have q:=PySem.W.cellsFrom_some sc.names n [] (.inl h);exact DL.mp q
variable {CX:ir} {qual:Str} {scope:Scope} {f:Addr}
theorem QT{cd:Value}{s1:Shared}{E:XK}{vs:List V}
  (S:aZ N ps scope) (hd:A.handled=none) (e0:qt P w K mg base A outer s H) (hl:vs.length=ps.length) (r:Vals vs us)
  (x:InCallC s s.heap.objs.size (bindL (envOfC qual scope s.heap.objs.size f cd).kindOf (ps.zip us) fun _=>none) (cellsFrom (s.heap.objs.size+1) scope.names []) (bindC (envOfC qual scope s.heap.objs.size f cd).kindOf (ps.zip us) fun _=>none) s1) :
  Inv (ji CX P w K mg base N qual scope f cd A outer s H E) [] (start N vs) H s1:=by
 have jX:ps.length≤N.length:=by have:=hV List.length S.pre;rw [tX] at this;lia
 obtain ⟨h1,tk,rfl,hk⟩:=x.done;have yo:∀b:Addr,b∉(ji CX P w K mg base N qual scope f cd A outer s H E).ex:=fun b z=>absurd (show b∈([]:List Addr) from z) (by simp)
 refine ⟨⟨e0.mod,S.kind,rfl,rfl,aN _,fun y z c h1 h2=>?_,fun y hy=>?_,fun y c _ h=>?_,fun _=>hd,Around.frames_deeper e0.frames,.inr ⟨rfl,rfl⟩,fun b z=>absurd z (yo b),e0.bs,e0.gM,fun b _ _=>yo b,fun b z=>absurd z (yo b),e0.jV,e0.mV⟩,
  rfl,e0.bare,Un.kept hk,⟨_,x.toInCall.ns,fun i y v h1 h2 h3=>?_⟩,fun y c h=>⟨_,x.cell y c h⟩,e0.az.fresh (aN _),fun y c h=>?_,fun p hp=>absurd (show p∈([]:aU) from hp) (by simp),e0.az.kept hk,?_⟩
 ·exact name_of_addr x.apart (jP h1) (jP h2)
 ·have hy:scope.names.lookup y=some .cell∨scope.names.lookup y=some .free:=hy
  rcases hy with hy | hy;·exact JB hy
  ·exact absurd rfl (S.QS _ (jP hy))
 ·exact Nat.le_of_lt (x.above y c (jP h))
 ·have hi:i<vs.length:=by
   unfold start at h2;by_cases hi:i<vs.length;·exact hi
   ·rw [ox (by simpa using hi)] at h2
    rw [List.getElem?_replicate] at h2
    split at h2 <;> cases h2
  have ha:vs[i]?=some v:=by
   unfold start at h2;rw [oy (by simpa using hi),cC] at h2
   cases e:vs[i]? with
   | none=>rw [e] at h2;cases h2
   | some a=>rw [e] at h2;cases h2;rfl
  obtain ⟨u,hu,rv⟩:=r.get ha;have hp:ps[i]?=some y:=by rw [←S.pre,List.getElem?_take_of_lt (by lia)];exact h1
  have JD:ps.Nodup:=by rw [←S.pre];exact S.nd.sublist (xU _ _)
  refine ⟨u,rv,?_⟩;rcases S.par y (pV hp) with k | k;·exact .inl ⟨k,Jz JD hp hu k⟩
  ·obtain ⟨c,e⟩:=JB (n:=s.heap.objs.size+1) k
   refine .inr ⟨.inl k,c,e,?_⟩;have q:=x.cell y c e;rw [JA JD hp hu (by show scope.names.lookup y≠_;rw [k];decide)] at q
   exact q
 ·exact e0.az.fresh (Nat.le_of_lt (x.above y c (jP h)))
 ·unfold start
  show _=N.length;rw [fe,aX,List.length_replicate];lia
theorem En{name:Str}{params:Arguments}{body:List Stmt}{dV kV doc pm ba ct oc:Value}{an od:Option Addr}
  {fW:Array (Option Value)} {sp:Sp} (lk:K.lookup f=some ⟨oc,od,.func (PySem.W.fnOf name qual params body scope dV kV doc pm an ba ct),fW⟩) (fS:PySem.W.codeIn K ba qual=true) (S:aZ N ps scope)
  (len:∀vs H Q E,sp vs H Q E→vs.length=ps.length)
  (kT:∀(A:Around) (outer:List Env) (s:Shared) (H:Hp) (vs:List V) (Q:VK) (E:XK),di k (A.deeper (envOfC qual scope s.heap.objs.size f ba))→sp vs H Q E→
   ∃t,eN (ji CX P w K mg base N qual scope f ba A outer s H E) body t∧t {nx:=fun _ H'=>Q .aI H',rt:=Q} (start N vs) H) :
  aS P w K mg base CX (k+1) f (PySem.W.fnOf name qual params body scope dV kV doc pm an ba ct) ps sp:=by
 refine ⟨len,fun A outer s H args us vs Q E hr e0 hb r jY=>?_⟩;have hl:=len _ _ _ _ jY;have KX:K.In s.heap:=e0.mod.cZ.keeps fun b o e=>(e0.bs b o e).1;have lim:s.heap.NoLimit:=e0.mod.nolimit.keeps fun b o e=>(e0.bs b o e).1;have QU:∀y∈ps.zip us,scope.names.lookup y.1=some .local∨(scope.names.lookup y.1=some .cell∧((cellsFrom (s.heap.objs.size+1) scope.names []).lookup y.1).isSome=true):=fun⟨n,v⟩ hy=>by
  rcases S.par n (List.of_mem_zip hy).1 with q | q;·exact .inl q
  ·exact .inr ⟨q,PySem.W.cellsFrom_some _ _ _ (.inl q)⟩
 refine codeAny_call_function hr.depth (KX _ _ lk) rfl S.co S.gen rfl (PySem.W.codeRec_of KX fS) (hb _ _ _ _ ?_);refine wpAny_newFunctionEnv_cells S.kind QU fun env he s1 x=>?_;subst he;refine ⟨lim.keeps x.toInCall.keep,codeAny_func ?_⟩;obtain ⟨t,ht,hq⟩:=kT A outer s H vs Q E (hr.deeper _) jY;have I:Inv (ji CX P w K mg base N qual scope f ba A outer s H E) [] (start N vs) H s1:=QT S hr.hd e0 hl r x;refine bW (ht [] s1 (start N vs) H _ I hq) (fun fl s' hs=>?_) fun e s' hs=>hs;have fin:∀{σ':St} {H':Hp} {v:V} {u:Value},Inv (ji CX P w K mg base N qual scope f ba A outer s H E) [] σ' H' s'→RelV v u→Q v H'→CE outer P w H s Q u s':=
  fun{σ' H' v u} J rv q=>⟨v,H',J.os,J.bare,J.base,J.az,rv,q⟩
 cases fl with
 | ret u=>obtain ⟨v,σ',H',J,rv,q⟩:=hs;exact fin J rv q
 | next=>obtain ⟨σ',H',J,q⟩:=hs;exact fin (v:=V.aI) (u:=Value.none) J rfl q
 | brk=>obtain ⟨_,_,_,q⟩:=hs;exact False.elim q
 | cont=>obtain ⟨_,_,_,q⟩:=hs;exact False.elim q
section
variable {X:Cx} {x:Str} {p pos:Pos} {e:Expr} {es:List Expr} {t:TA} {id T:String} {r:List V→Hp→VK→Prop}
def Eo(r:List V→Hp→VK→Prop)(t:TA):TE:=fun σ H Q=>t σ H fun vs H1=>r vs H1 Q
theorem b6(hc:gO X (.builtin id) r)(hg:Gl X x)(hm:X.mg x=none)(hv:bootBuiltins x=some (.builtin id))(ha:PA X (e::es) t)(hn:x ≠ "__name__":=by decide)(m7:(x == ("__debug__":Str))=false:=by decide)
  (he:starEach (e::es) X.env=(false,eval e X.env)::starEach es X.env:=by rfl) (jX:(backTo pos (starEach es X.env)).any (·.1)=false:=by rfl):PE X (.Call (.Name x p) (e::es) [] pos) (Eo r t):=by
 intro pins s σ H Q I h;refine Ac (qg I hg hm hv ?_ hn m7);exact PyProof.Rows.callWith_builtin1 (aO (ha pos pins s σ H _ I h) fun us s1 ⟨vs,H1,I1,r1,q1⟩=>hc pins s1 σ H1 vs us Q I1 r1 q1) he jX
theorem jj(hc:gO X (.type T) r)(hg:Gl X x)(hm:X.mg x=none)(hv:bootBuiltins x=some (.type T))(ha:PA X (e::es) t)(hn:x ≠ "__name__":=by decide)(m7:(x == ("__debug__":Str))=false:=by decide)
  (he:starEach (e::es) X.env=(false,eval e X.env)::starEach es X.env:=by rfl) (jX:(backTo pos (starEach es X.env)).any (·.1)=false:=by rfl):PE X (.Call (.Name x p) (e::es) [] pos) (Eo r t):=by
 intro pins s σ H Q I h;refine Ac (qg I hg hm hv ?_ hn m7);exact xT (aO (ha pos pins s σ H _ I h) fun us s1 ⟨vs,H1,I1,r1,q1⟩=>hc pins s1 σ H1 vs us Q I1 r1 q1) he jX
end
end L2
namespace HT
open PySem PyProof.Rows
section
open PySem.SeqAt
open PySem.AutoSeq1 (wpAny_loadPart')
open PySem.MeetsSeq PySem.MeetsSeq2 PySem.MeetsSeq3
end
section
variable {prog:Program} {w:World} {A:Around} {E:aR} {s:Shared}
def fX(n d:Nat):Option Int→Nat
 | none=>d
 | some v=>if v<0 then (v+(n:Int)).toNat else min v.toNat n
theorem QV(n d:Nat):fX n d none=d:=rfl
theorem QW(n d k:Nat):fX n d (some (k:Int))=min k n:=by
 show (if (k:Int)<0 then ((k:Int)+(n:Int)).toNat else min (k:Int).toNat n)=min k n
 rw [au (by lia),df]
end
end HT
namespace L2
open PySem PySem.Spec PyProof.Rows
abbrev TO:=St→Hp→(Option Int→Hp→Prop)→Prop
def PO(X:Cx)(e:Option Expr)(t:TO):Prop:=
 ∀(pins:aU) (s:Shared) (σ:St) (H:Hp) (Q:Option Int→Hp→Prop),Inv X pins σ H s→t σ H Q→
  wpAny (model X.prog X.w) X.A (evalPart e X.env) (fun u s'=>∃o H',Inv X pins σ H' s'∧IsPart u o∧Q o H') X.xe s
def QX:TO:=fun _ H Q=>Q none H
def QY(t:TE):TO:=fun σ H Q=>t σ H fun x H1=>∃i,x=.int i∧Q (some i) H1
theorem intsAre_of{ns:List Int}:∀{us:List Value},Vals (ns.map V.int) us→IntsAre us ns:=by
 induction ns with
 | nil=>intro us r;rw [List.map_nil] at r;cases r;exact .nil
 | cons n ns ih=>
  intro us r;rw [cX] at r;cases r with
  | cons r1 r2=>obtain ⟨t,e⟩:=r1;subst e;exact .cons n t (ih r2)
section
variable {X:Cx} {e:Expr} {te:TE} {lo hi:Option Expr} {tl th:TO} {pos p2:Pos}
theorem Ep:PO X none QX:=by intro pins s σ H Q I h;rw [evalPart_none];exact dM ⟨none,H,I,.none,h⟩
theorem Er(h:PE X e te):PO X (some e) (QY te):=by intro pins s σ H Q I hw;rw [evalPart_some];refine aO (h pins s σ H _ I hw) fun u s1 ⟨x,H1,I1,r1,q1⟩=>?_;obtain ⟨i,rfl,q⟩:=q1;obtain ⟨t,rfl⟩:=r1;exact ⟨some i,H1,I1,.int i t,q⟩
def JE(X:Cx)(r:V→Option Int→Option Int→Hp→VK→Prop):Prop:=
 ∀(pins:aU) (s:Shared) (σ:St) (H:Hp) (x:V) (v vl vu:Value) (lo hi:Option Int) (sl:Addr) (Q:VK),Inv X pins σ H s→RelV x v→s.heap.IsSliceOf sl vl vu .none→IsPart vl lo→IsPart vu hi→r x lo hi H Q→
  ∃T id,typeLookup (.type T) "__getitem__"=pure (some (.builtin id))∧s.TypeIs v T∧wpAny (model X.prog X.w) X.A (getItem v (.ref sl)) (EP X pins σ Q) X.xe s
def QZ(r:V→Option Int→Option Int→Hp→VK→Prop)(te:TE)(tl th:TO):TE:=fun σ H Q=>te σ H fun x H1=>tl σ H1 fun l H2=>th σ H2 fun u H3=>r x l u H3 Q
theorem Es{r:V→Option Int→Option Int→Hp→VK→Prop}(hr:JE X r)(he:PE X e te)(hl:PO X lo tl)(hu:PO X hi th):PE X (.Subscript e (.Slice lo hi none p2) pos) (QZ r te tl th):=by intro pins s σ H Q I h;refine Subscript_ (aO (he pins s σ H _ I h) fun v s1 ⟨x,H1,I1,r1,q1⟩=>?_);refine wpAny_Slice (aO (hl pins s1 σ H1 _ I1 q1) fun vl s2 ⟨l,H2,I2,pl,q2⟩=>aO (hu pins s2 σ H2 _ I2 q2) fun vu s3 ⟨u,H3,I3,pu,q3⟩=>?_);rw [evalPart_none];refine dM ?_;have I4:Inv X pins σ H3 {s3 with heap:=s3.heap.push {cls:=.type "slice",data:=.fields #[vl,vu,.none]}}:=I3.kept (t':=s3.toks) fun b ob q=>cz _ q;obtain ⟨T,id,hT,ht,hg⟩:=hr pins {s3 with heap:=s3.heap.push {cls:=.type "slice",data:=.fields #[vl,vu,.none]}} σ H3 x v vl vu l u s3.heap.objs.size Q I4 r1 (Heap.IsSliceOf.new ..) pl pu q3;show wpAny (model X.prog X.w) X.A (subscriptTail e (.Slice lo hi none p2) v (.ref s3.heap.objs.size)) (EP X pins σ Q) X.xe {s3 with heap:=s3.heap.push {cls:=.type "slice",data:=.fields #[vl,vu,.none]}};exact tail_any (ops:=[.ref s3.heap.objs.size,v]) ht hT hg (by with_unfolding_all rfl)
def jk(xs:List V)(lo hi:Option Int):List V:=(xs.drop (HT.fX xs.length 0 lo)).take (HT.fX xs.length xs.length hi-HT.fX xs.length 0 lo)
theorem Q0(xs:List V)(lo hi:Option Int):(jk xs lo hi).length≤xs.length:=by unfold jk;rw [tX,xV];lia
end
def m8(n:Nat)(i:Int):Option Nat:=if 0≤i then (if i<n then some i.toNat else none) else if -(n:Int)≤i then some (i+n).toNat else none
def jn{α:Type}(xs:List α)(i:Int):Option α:=(m8 xs.length i).bind fun j=>xs[j]?
variable {i:Int} {j:Nat}
theorem JF{n:Nat}(h:m8 n i=some j):seqIndex? i n=some j∧j<n∧-(n:Int)≤i∧i<n:=by
 unfold m8 at h;by_cases h0:0≤i
 ·rw [ar h0] at h
  by_cases h1:i<n
  ·rw [ar h1] at h
   have e:i.toNat=j:=Option.some.inj h;exact ⟨by rw [seqIndex_of h0 h1,e],by lia,by lia,h1⟩
  ·rw [au h1] at h;cases h
 ·rw [au h0] at h
  by_cases h1:-(n:Int)≤i
  ·rw [ar h1] at h
   have e:(i+n).toNat=j:=Option.some.inj h;exact ⟨by rw [seqIndex_neg (by lia) h1,e],by lia,h1,by lia⟩
  ·rw [au h1] at h;cases h
theorem JG{α:Type}{xs:List α}{v:α}(h:jn xs i=some v):∃j,seqIndex? i xs.length=some j∧xs[j]?=some v∧j<xs.length∧-(xs.length:Int)≤i∧i<xs.length:=by
 unfold jn at h;cases e:m8 xs.length i with
 | none=>rw [e] at h;cases h
 | some j=>rw [e] at h;obtain ⟨h1,h2,h3,h4⟩:=JF e;exact ⟨j,h1,h,h2,h3,h4⟩
theorem jo{α:Type}{xs:List α}{v:α}(h:xs[j]?=some v):jn xs (j:Int)=some v:=by
 have hj:j<xs.length:=(bZ.mp h).1;have e:m8 xs.length (j:Int)=some j:=by unfold m8;rw [ar (by lia),ar (by lia)];simp
 unfold jn;rw [e];exact h
def JH(b:Expr):Prop:=∀o i,subscripted b false o i=operate [o,i] (getItem o i)
def yq(X:Cx)(r:R2):Prop:=
 ∀(value slice:Expr) (pins:aU) (s:Shared) (σ:St) (H:Hp) (x y:V) (v u:Value) (Q:VK),Inv X pins σ H s→RelV x v→RelV y u→r x y H Q→
  subscripted slice false v u=operate [v,u] (getItem v u)→wpAny (model X.prog X.w) X.A (subscriptTail value slice v u) (EP X pins σ Q) X.xe s
def AO(X:Cx)(id:String)(r:V→List V→Hp→VK→Prop):Prop:=
 ∀(pins:aU) (s:Shared) (σ:St) (H:Hp) (x:V) (xs:List V) (v:Value) (us:List Value) (Q:VK),Inv X pins σ H s→RelV x v→Vals xs us→r x xs H Q→
  wpAny (model X.prog X.w) X.A (call (.builtin id) (v::us)) (EP X pins σ Q) X.xe s
section
variable {X:Cx} {a b:Expr} {ta tb:TE} {pos:Pos}
theorem yr{r:R2}(hr:yq X r)(ha:PE X a ta)(hb:PE X b tb)(hs:JH b):PE X (.Subscript a b pos) (m5 r ta tb):=by intro pins s σ H Q I h;exact Subscript_ (Ef ha hb I h fun v u s2 x y H2 I2 rx ry q=>hr a b pins s2 σ H2 x y v u Q I2 rx ry q (hs _ _))
theorem aj{r:R2}(hr:yq X r)(ha:PE X a ta)(hb:PE X b tb)(hs:JH b:=by exact fun _ _=>rfl):PE X (.Subscript a b pos) (m5 r ta tb):=yr hr ha hb hs
def JI(K:aC):R2:=fun x y H Q=>∃p xs i v,x=.ref p∧y=.int i∧b5 K H p xs∧jn xs i=some v∧Q v H
def Q1(K:aC):R2:=fun x y H Q=>∃p xs i v,x=.ref p∧y=.int i∧dO K H p xs∧jn xs i=some v∧Q v H
theorem a9:yq X (JI X.K):=by
 intro value slice pins s σ H x y v u Q I rx ry h hs;obtain ⟨p,xs,i,z,rfl,rfl,hq,he,q⟩:=h;cases rx;obtain ⟨t,rfl⟩:=ry;obtain ⟨ai,r,pl,hz⟩:=I.list hq;obtain ⟨j,h1,h2,h3,h4,h5⟩:=JG he;obtain ⟨w,ew,mZ⟩:=r.get h2;have hl:=r.length;have hn:=AK;have fin:EP X pins σ Q w s:=⟨z,H,I,mZ,q⟩;by_cases h0:0≤i
 ·have hj:i.toNat=j:=by rw [seqIndex_of h0 h5] at h1;exact Option.some.inj h1
  exact item_listR pl.isList h0 (by lia) (by rw [hj];simpa using ew) fin hs
 ·have hj:(i+(ai.toArray.size:Int)).toNat=j:=by
   rw [seqIndex_neg (by lia) h4] at h1
   rw [cU,←hl];exact Option.some.inj h1
  exact subscriptTail_builtinR (x:=w) pl.isList.typeIs slot_list_getitem.lookup
   (wpAny_getItem_list_neg (Q:=fun r s'=>r=w∧EP X pins σ Q r s') pl.isList (by lia) (by rw [cU] <;> lia) (by lia) (by rw [hj];simpa using ew) ⟨rfl,fin⟩) hs
theorem aM:yq X (Q1 X.K):=by
 intro value slice pins s σ H x y v u Q I rx ry h hs;obtain ⟨p,xs,i,z,rfl,rfl,hq,he,q⟩:=h;cases rx;obtain ⟨t,rfl⟩:=ry;obtain ⟨ai,r,pl,hz⟩:=I.tuple hq;obtain ⟨j,h1,h2,h3,h4,h5⟩:=JG he;obtain ⟨w,ew,mZ⟩:=r.get h2;have hl:=r.length;have hn:=AK;have fin:EP X pins σ Q w s:=⟨z,H,I,mZ,q⟩
 exact subscriptTail_builtinR (x:=w) pl.typeIs slot_tuple_getitem.lookup
  (getItem_tuple (j:=j) (Q:=fun r s'=>r=w∧EP X pins σ Q r s') pl (by lia) (by lia) (by rw [cU,←hl];exact h1) (by simpa using ew) ⟨rfl,fin⟩) hs
theorem Q2(ai:List Value)(n j:Nat)(u:Value):Obj.mapSeq (·.setIfInBounds j u) {cls:=.type "list",data:=.seq ai.toArray n}={cls:=.type "list",data:=.seq (ai.set j u).toArray n}:=by simp [Obj.mapSeq]
theorem Inv.lst{pins:aU}{σ:St}{H:Hp}{s:Shared}{p:Addr}{xs:List V}(I:Inv X pins σ H s)(h:H p=some (.lst xs)) :
  ∃(ai:List Value) (n:Nat),Vals xs ai∧s.heap.get? p=some {cls:=.type "list",data:=.seq ai.toArray n}∧xs.length≤sizeLine:=by
 obtain ⟨z,ai,n,r,e⟩:=I.az p _ h;exact ⟨ai,n,r,e,z⟩
variable {pins:aU} {σ:St} {H:Hp} {s:Shared}
theorem Inv.Q3{p:Addr}{xs ys:List V}{ai its':List Value}{n n':Nat}{f:Obj→Obj}(I:Inv X pins σ H s)(h:H p=some (.lst xs))
  (ho:s.heap.get? p=some {cls:=.type "list",data:=.seq ai.toArray n}) (hf:f {cls:=.type "list",data:=.seq ai.toArray n}={cls:=.type "list",data:=.seq its'.toArray n'}) (r:Vals ys its') (hz:ys.length≤sizeLine) (t:Nat) :
  Inv X pins σ (upd H p (.lst ys)) {s with heap:=s.heap.update p f,toks:=t}:=by
 have e:(s.heap.update p f).get? p=some {cls:=.type "list",data:=.seq its'.toArray n'}:=by rw [Heap.get?_update_self f ho (by rw [hf] <;> rfl),hf]
 refine I.write (x:=p) (e:=p) (by rw [h];trivial) (.inl rfl) (fun b u hb q=>(Heap.get?_update_other _ _ (Ne.symm hb)).trans q) ⟨_,e⟩ ?_
 exact ⟨hz,its',n',r,e⟩
def Q4:V→V→V→Hp→(Hp→Prop)→Prop:=fun o i v H Q=>∃p xs k j,o=.ref p∧i=.int k∧H p=some (.lst xs)∧m8 xs.length k=some j∧Q (upd H p (.lst (xs.set j v)))
theorem set_list:IW X Q4:=by
 intro pins s σ H o i v ov iv u Q I ro ri rv h;obtain ⟨p,xs,k,j,rfl,rfl,hp,hj,q⟩:=h;cases ro;obtain ⟨t,rfl⟩:=ri;obtain ⟨ai,n,r,ho,hz⟩:=I.lst hp;obtain ⟨h1,h2,h3,h4⟩:=JF hj;have hl:=r.length;have hn:=AK;have I':Inv X pins σ (upd H p (.lst (xs.set j v))) {s with heap:=s.heap.update p (Obj.mapSeq (·.setIfInBounds j u))}:=
  I.Q3 hp ho (Q2 ai n j u) (r.set rv j) (by rw [List.length_set];exact hz) s.toks
 by_cases h0:0≤k
 ·have hk:k.toNat=j:=by rw [seqIndex_of h0 h4] at h1;exact Option.some.inj h1
  exact PySem.W.ki_setAt ho h0 (by lia) (by rw [cU,←hl];exact h4) (by rw [hk];exact ⟨_,I',q⟩)
 ·have hk:(k+(ai.toArray.size:Int)).toNat=j:=by
   rw [seqIndex_neg (by lia) h3] at h1
   rw [cU,←hl];exact Option.some.inj h1
  exact PySem.W.ki_setBack ho (by lia) (by rw [cU,←hl];exact h3) (by lia) (by rw [hk];exact ⟨_,I',q⟩)
theorem Q5(lo hi:Option Int)(n:Nat):(sliceBounds lo hi none n).1=((HT.fX n 0 lo:Nat):Int)∧(sliceBounds lo hi none n).2.1=((HT.fX n n hi:Nat):Int)∧(sliceBounds lo hi none n).2.2=1:=by
 refine ⟨?_,?_,rfl⟩
 ·cases lo with
  | none=>simp [sliceBounds,HT.fX]
  | some i=>
   simp only [sliceBounds,HT.fX,Option.getD_none,show (1:Int)>0 by decide,if_true]
   by_cases h:i<0;·simp only [h,if_true] <;> lia
   ·simp only [h,if_false] <;> lia
 ·cases hi with
  | none=>simp [sliceBounds,HT.fX]
  | some i=>
   simp only [sliceBounds,HT.fX,Option.getD_none,show (1:Int)>0 by decide,if_true]
   by_cases h:i<0;·simp only [h,if_true] <;> lia
   ·simp only [h,if_false] <;> lia
theorem Q6(ai:List Value)(lo hi:Option Int):slicePick ai.toArray lo hi none=((ai.drop (HT.fX ai.length 0 lo)).take (HT.fX ai.length ai.length hi-HT.fX ai.length 0 lo)).toArray:=by obtain ⟨h1,h2,h3⟩:=Q5 lo hi ai.toArray.size;unfold slicePick;rw [h1,h2,h3];simp only [sliceRange_one,pick_run,cU] <;> rfl
def Q7(K:aC):V→Option Int→Option Int→Hp→VK→Prop:=fun x lo hi H Q=>∃a xs,x=.ref a∧b5 K H a xs∧∀p,H p=none→Q (.ref p) (upd H p (.lst (jk xs lo hi)))
theorem Et:JE X (Q7 X.K):=by
 intro pins s σ H x v vl vu lo hi sl Q I rx hs pl pu h;obtain ⟨a,xs,rfl,hx,q⟩:=h;cases rx;obtain ⟨ai,r,ht,hz⟩:=I.list hx;have hlen:=r.length;refine ⟨"list",_,slot_list_getitem.lookup,ht.isList.typeIs,?_⟩;refine wpAny_getItem_list_slice ht.isList hs pl pu .none (by simp) ?_ (by rw [cU] <;> lia)
 rw [Q6,←hlen];refine ⟨.ref s.heap.objs.size,_,I.laid (t':=s.toks) (o:=.lst (jk xs lo hi)) (fun b ob q=>cz _ q) (aN _) ?_,rfl,q _ (I.az.fresh (aN _))⟩;exact ⟨aQ (Q0 xs lo hi) hz,_,0,(r.drop (HT.fX xs.length 0 lo)).take (HT.fX xs.length xs.length hi-HT.fX xs.length 0 lo),fH _ rfl⟩
def fN:V→Bool
 | .aI=>true
 | .bl _=>true
 | .int _=>true
 | .str _=>true
 | _=>false
def g6:V→V→Bool
 | .aI,.aI=>true
 | .bl a,.bl b=>a == b
 | .bl a,.int b=>(if a then 1 else 0) == b
 | .int a,.bl b=>a == (if b then 1 else 0)
 | .int a,.int b=>a == b
 | .str a,.str b=>a == b
 | _,_=>false
variable {y x:V} {u v:Value}
theorem yu{A:Around}(ry:RelV y u)(rx:RelV x v)(fy:fN y=true)(fx:fN x=true):SeqAt.EqAt A s u v (g6 y x):=by
 cases y with
 | aI=>
  cases ry;cases x with
  | aI=>cases rx;exact SeqAt.EqAt.same _
  | bl b=>cases rx;exact SeqAt.EqAt.none_bool b
  | int b=>obtain ⟨t,rfl⟩:=rx;exact SeqAt.EqAt.none_int b t
  | str b=>obtain ⟨t,rfl⟩:=rx;exact SeqAt.EqAt.none_str b t
  | _=>exact absurd (show false=true from fx) de
 | bl a=>
  cases ry;cases x with
  | aI=>cases rx;exact SeqAt.EqAt.bool_none a
  | bl b=>cases rx;exact SeqAt.EqAt.bool_bool a b
  | int b=>obtain ⟨t,rfl⟩:=rx;exact SeqAt.EqAt.bool_int a b t
  | str b=>obtain ⟨t,rfl⟩:=rx;exact SeqAt.EqAt.bool_str a b t
  | _=>exact absurd (show false=true from fx) de
 | int a=>
  obtain ⟨t',rfl⟩:=ry;cases x with
  | aI=>cases rx;exact SeqAt.EqAt.int_none a t'
  | bl b=>cases rx;exact SeqAt.EqAt.int_bool a t' b
  | int b=>obtain ⟨t,rfl⟩:=rx;exact SeqAt.EqAt.int_int a t' b t
  | str b=>obtain ⟨t,rfl⟩:=rx;exact SeqAt.EqAt.int_str a t' b t
  | _=>exact absurd (show false=true from fx) de
 | str a=>
  obtain ⟨t',rfl⟩:=ry;cases x with
  | aI=>cases rx;exact SeqAt.EqAt.str_none a t'
  | bl b=>cases rx;exact SeqAt.EqAt.str_bool a t' b
  | int b=>obtain ⟨t,rfl⟩:=rx;exact SeqAt.EqAt.str_int a t' b t
  | str b=>obtain ⟨t,rfl⟩:=rx;exact SeqAt.EqAt.str_str a t' b t
  | _=>exact absurd (show false=true from fx) de
 | _=>exact absurd (show false=true from fy) de
def iu(x:V)(u:Value):Bool:=match u with
 | .none=>g6 .aI x
 | .bool b=>g6 (.bl b) x
 | .int i _=>g6 (.int i) x
 | .str z _=>g6 (.str z) x
 | _=>false
theorem JJ(r:RelV y u)(f:fN y=true):iu x u=g6 y x:=by
 cases y with
 | aI=>cases r;rfl
 | bl b=>cases r;rfl
 | int i=>obtain ⟨t,rfl⟩:=r;rfl
 | str z=>obtain ⟨t,rfl⟩:=r;rfl
 | _=>exact absurd (show false=true from f) de
theorem yv{x:V}:∀{xs:List V} {us:List Value},Vals xs us→xs.all fN=true→us.any (iu x)=xs.any fun y=>g6 y x
 | _,_,.nil,_=>rfl
 | y::xs,u::us,.cons r t,f=>by rw [tY,xW] at f;rw [pW,pW,JJ r f.1,yv t f.2]
theorem yw{A:Around}{s:Shared}{x:V}{v:Value}(rx:RelV x v)(fx:fN x=true):∀{xs:List V} {us:List Value},Vals xs us→xs.all fN=true→∀u∈us,SeqAt.EqAt A s u v (iu x u)
 | _,_,.nil,_=>fun u hu=>by cases hu
 | y::xs,u::us,.cons r t,f=>fun u' hu=>by
  rw [tY,xW] at f;rcases dy.mp hu with rfl | hu;·rw [JJ r f.1];exact yu r rx f.1 fx
  ·exact yw rx fx t f.2 u' hu
def jZ(x:V)(xs:List V):Bool:=xs.any fun y=>g6 y x
def AQ(K:aC)(neg:Bool):R2:=fun x y H Q=>∃p xs,y=.ref p∧(b5 K H p xs∨dO K H p xs)∧fN x=true∧xs.all fN=true∧Q (.bl (if neg then !jZ x xs else jZ x xs)) H
theorem Q8:cf X (compareOp .In) (AQ X.K false):=by
 intro pins s σ H x y v u Q I rx ry h;obtain ⟨p,xs,rfl,hq,fx,fs,q⟩:=h;cases ry;rcases hq with hq | hq
 ·obtain ⟨ai,r,pl,hz⟩:=I.list hq
  refine SeqAt.in_listAt (iu x) pl.isList (fun w hw=>yw rx fx r fs w (by simpa using hw)) ⟨.bl _,H,I,rfl,?_⟩
  rw [show ai.toArray.any (iu x)=ai.any (iu x) by simp,yv r fs]
  exact q
 ·obtain ⟨ai,r,pl,hz⟩:=I.tuple hq
  refine SeqAt.in_tupleAt (iu x) pl (fun w hw=>yw rx fx r fs w (by simpa using hw)) ⟨.bl _,H,I,rfl,?_⟩
  rw [show ai.toArray.any (iu x)=ai.any (iu x) by simp,yv r fs]
  exact q
theorem Eu:cf X (compareOp .NotIn) (AQ X.K true):=by
 intro pins s σ H x y v u Q I rx ry h;obtain ⟨p,xs,rfl,hq,fx,fs,q⟩:=h;cases ry;rcases hq with hq | hq
 ·obtain ⟨ai,r,pl,hz⟩:=I.list hq
  refine SeqAt.notIn_listAt (iu x) pl.isList (fun w hw=>yw rx fx r fs w (by simpa using hw)) ⟨.bl _,H,I,rfl,?_⟩
  rw [show ai.toArray.any (iu x)=ai.any (iu x) by simp,yv r fs]
  exact q
 ·obtain ⟨ai,r,pl,hz⟩:=I.tuple hq
  refine SeqAt.notIn_tupleAt (iu x) pl (fun w hw=>yw rx fx r fs w (by simpa using hw)) ⟨.bl _,H,I,rfl,?_⟩
  rw [show ai.toArray.any (iu x)=ai.any (iu x) by simp,yv r fs]
  exact q
theorem eC:gO X (.builtin "len") (fun xs H Q=>∃p ys,xs=[.ref p]∧(b5 X.K H p ys∨dO X.K H p ys)∧Q (.int ys.length) H):=by
 intro pins s σ H xs us Q I r h;obtain ⟨p,ys,rfl,hq,q⟩:=h;obtain ⟨u,rfl,rx⟩:=vals1 r;cases rx;have hn:=AK;rcases hq with hq | hq
 ·obtain ⟨ai,r',pl,hz⟩:=I.list hq
  have hlen:=r'.length;exact Calls.call_len_list pl.isList (by simp only [cU] <;> lia) ⟨.int ys.length,H,I.tok _,⟨s.toks+1,by rw [cU,hlen]⟩,q⟩
 ·obtain ⟨ai,r',pl,hz⟩:=I.tuple hq
  have hlen:=r'.length;exact len_tuple pl (by simp only [cU] <;> lia) ⟨.int ys.length,H,I.tok _,⟨s.toks+1,by rw [cU,hlen]⟩,q⟩
theorem yy:gO X (.type "list") (fun xs H Q=>∃p ys,xs=[.ref p]∧(b5 X.K H p ys∨dO X.K H p ys)∧∀l,H l=none→Q (.ref l) (upd H l (.lst ys))):=by
 intro pins s σ H xs us Q I r h;obtain ⟨p,ys,rfl,hq,q⟩:=h;obtain ⟨u,rfl,rx⟩:=vals1 r;cases rx
 have fin:∀(ai:List Value),Vals ys ai→ys.length≤sizeLine→∀(h':Heap) (c':Nat),(∀b o',s.heap.get? b=some o'→h'.get? b=some o')→
   h'.get? s.heap.objs.size=some {cls:=.type "list",dict:=none,data:=.seq ai.toArray c',slots:=#[]}→EP X pins σ Q (.ref s.heap.objs.size) {s with heap:=h'}:=fun ai r' hz h' c' kp e=>
  ⟨.ref s.heap.objs.size,_,I.laid (t':=s.toks) kp (aN _) (show cP X.prog X.w _ h' _ (.lst ys) from ⟨hz,ai,c',r',e⟩),rfl,q _ (I.az.fresh (aN _))⟩
 rcases hq with hq | hq
 ·obtain ⟨ai,r',pl,hz⟩:=I.list hq
  have hlen:=r'.length;obtain ⟨o,ho,hc,n,hd⟩:=pl.isList;exact call_list_seq p (.inl rfl) ho hc hd (fun h' c' kp e=>fin ai r' hz h' c' kp e) (by simp only [cU] <;> lia)
 ·obtain ⟨ai,r',pl,hz⟩:=I.tuple hq
  have hlen:=r'.length;obtain ⟨o,ho,hc,n,hd⟩:=pl;exact call_list_seq p (.inr rfl) ho hc hd (fun h' c' kp e=>fin ai r' hz h' c' kp e) (by simp only [cU] <;> lia)
theorem Q9:gO X (.type "tuple") (fun xs H Q=>∃p ys,xs=[.ref p]∧((b5 X.K H p ys∧∀l,H l=none→Q (.ref l) (upd H l (.tup ys)))∨(dO X.K H p ys∧Q (.ref p) H))):=by
 intro pins s σ H xs us Q I r h;obtain ⟨p,ys,rfl,h⟩:=h;obtain ⟨u,rfl,rx⟩:=vals1 r;cases rx;rcases h with ⟨hq,q⟩ | ⟨hq,q⟩
 ·obtain ⟨ai,r',pl,hz⟩:=I.list hq
  have hlen:=r'.length;refine call_tuple_list pl.isList (fun h' kp=>?_) (by simp only [cU] <;> lia)
  have I1:Inv X pins σ H {s with heap:=h'}:=I.kept (t':=s.toks) kp;have I2:Inv X pins σ (upd H h'.objs.size (.tup ys)) {s with heap:=h'.push {cls:=.type "tuple",data:=.seq ai.toArray}}:=
   I1.laid (t':=s.toks) (fun b o e=>cz _ e) (aN _) (show cP X.prog X.w _ _ _ (.tup ys) from ⟨hz,ai,r',IsTup.new _ _⟩)
  exact ⟨.ref h'.objs.size,_,I2,rfl,q _ (I1.az.fresh (aN _))⟩
 ·obtain ⟨ai,r',pl,hz⟩:=I.tuple hq
  exact call_tuple_same pl ⟨.ref p,H,I,rfl,q⟩
def Ew(K:aC)(T:String)(x:V)(H:Hp):Prop:=match x with
 | .str _=>T="str"
 | .int _=>T="int"
 | .ref p=>(T="list"∧∃xs,b5 K H p xs)∨(T="tuple"∧∃o,K.lookup p=some o∧o.cls=.type "tuple"∧o.dict=none) ∨
   (T="dict"∧((∃aq,H p=some (.dK aq))∨∃aq,H p=some (.dT aq)))∨(T="set"∧∃S n,H p=some (.set S n))
 | _=>False
theorem JK{T:String}(I:Inv X pins σ H s)(r:RelV x v)(ty:Ew X.K T x H) :
  s.TypeIs v T∧∀a,v=.ref a→∃ob,s.heap.get? a=some ob∧ob.dict=none:=by
 cases x with
 | str z=>obtain ⟨t,rfl⟩:=r;cases (show T="str" from ty);exact ⟨typeIs_str s z t,fun _ e=>nomatch e⟩
 | int i=>obtain ⟨t,rfl⟩:=r;cases (show T="int" from ty);exact ⟨typeIs_int s i t,fun _ e=>nomatch e⟩
 | ref p=>
  cases r;rcases ty with ⟨rfl,xs,hq⟩ | ⟨rfl,o,hk,hc,hd⟩ | ⟨rfl,hk⟩ | ⟨rfl,S,n,hk⟩
  ·obtain ⟨ai,_,pl,_⟩:=I.list hq
   refine ⟨pl.isList.typeIs,fun a e=>?_⟩;cases e;obtain ⟨o,n,e,c,hd,_⟩:=pl;exact ⟨o,e,hd⟩
  ·refine ⟨⟨o,I.dG p o hk,hc⟩,fun a e=>?_⟩
   cases e;exact ⟨o,I.dG _ o hk,hd⟩
  ·have z:∃o,s.heap.get? p=some o∧o.ExactDict:=by
    rcases hk with ⟨aq,hk⟩ | ⟨aq,hk⟩
    ·obtain ⟨_,_,_,_,o,_,_,e,ex,_⟩:=I.az p _ hk
     exact ⟨o,e,ex⟩
    ·obtain ⟨_,_,_,_,o,_,_,e,ex,_⟩:=I.az p _ hk
     exact ⟨o,e,ex⟩
   obtain ⟨o,e,ex⟩:=z;refine ⟨⟨o,e,ex.1⟩,fun a e2=>?_⟩;cases e2;exact ⟨o,e,ex.2.1⟩
  ·obtain ⟨o,_,_,_,e,ex,_⟩:=I.az p _ hk
   refine ⟨⟨o,e,ex.1⟩,fun a e2=>?_⟩;cases e2;exact ⟨o,e,ex.2.1⟩
 | _=>exact False.elim ty
def Q_(K:aC)(T:String)(r:V→List V→Hp→VK→Prop)(to:TE):TE:=fun σ H Q=>to σ H fun x H1=>Ew K T x H1∧r x [] H1 Q
def JL(K:aC)(T:String)(r:V→List V→Hp→VK→Prop)(to:TE)(t:TA):TE:=fun σ H Q=>to σ H fun x H1=>Ew K T x H1∧t σ H1 fun xs H2=>r x xs H2 Q
variable {o e:Expr} {es:List Expr} {to:TE} {t:TA} {name:Str} {apos fv:Pos} {T id:String} {r:V→List V→Hp→VK→Prop}
theorem AR(pa:PlainAttrs T)(slot:Slot T name id)(yz:typeOf (.builtin id)=pure (.type "method_descriptor"))(hm:AO X id r)(ho:PE X o to)
  (yA:attributeBase o name X.env (eval o X.env)=eval o X.env:=by rfl) (yB:(apos.endLine == fv.line)=true:=by rfl):PE X (.Call (.Attribute o name apos) [] [] fv) (Q_ X.K T r to):=by
 intro pins s σ H Q I h;refine wpAny_Call_method0_late yA yB (aO (ho pins s σ H _ I h) fun v s1 ⟨x,H1,I1,r1,ty,q1⟩=>?_);obtain ⟨h1,h2⟩:=JK I1 r1 ty;exact ⟨T,id,pa,slot,yz,h1,h2,Calls.callWith_builtin rfl (PySem.evalArgs_none (hm pins s1 σ H1 x [] v [] Q I1 r1 .nil q1))⟩
theorem j4(pa:PlainAttrs T)(slot:Slot T name id)(yz:typeOf (.builtin id)=pure (.type "method_descriptor"))(hm:AO X id r)(ho:PE X o to)(ha:PA X (e::es) t)
  (yA:attributeBase o name X.env (eval o X.env)=eval o X.env:=by rfl)
  (Ex:((backTo fv (starEach (e::es) X.env)).all (fun x=>!x.1) && (backToKw fv (keywordEach [] X.env)).all (fun x=>x.1.isSome)
   && decide ((e::es).length+([]:List Keyword).length+(if ([]:List Keyword).isEmpty then 0 else 1)<30))=true:=by rfl)
  (yB:(apos.endLine == fv.line)=true:=by rfl) (hs:starEach (e::es) X.env=(false,eval e X.env)::starEach es X.env:=by rfl) (Ey:(backTo fv (starEach es X.env)).any (·.1)=false:=by rfl) :
  PE X (.Call (.Attribute o name apos) (e::es) [] fv) (JL X.K T r to t):=by
 intro pins s σ H Q I h;refine wpAny_Call_method_late yA Ex yB rfl (aO (ho pins s σ H _ I h) fun v s1 ⟨x,H1,I1,r1,ty,q1⟩=>?_);obtain ⟨h1,h2⟩:=JK I1 r1 ty;refine ⟨T,id,pa,slot,yz,h1,h2,?_⟩;have hA:=ha fv pins s1 σ H1 _ I1 q1;rw [hs] at hA ⊢;refine Calls.callWith_builtin (by show (false || (backTo fv (starEach es X.env)).any (·.1))=false;rw [Ey] <;> rfl) (Calls.evalArgs_plain ?_)
 exact aO hA fun us s2 ⟨vs,H2,I2,r2,q2⟩=>hm pins s2 σ H2 x vs v us Q I2 r1 r2 q2
end
def uu(X:Cx)(id:String)(r:V→List V→Hp→VK→Prop):Prop:=
 ∀(pins:aU) (s:Shared) (σ:St) (H:Hp) (x:V) (xs:List V) (v:Value) (us:List Value) (Q:VK),Inv X pins σ H s→RelV x v→Vals xs us→r x xs H Q→
  wpAny (model X.prog X.w) X.A (call (.builtin id) (v::us)) (EP X pins σ Q) X.xe s
theorem Vals.one:∀{x:V} {us:List Value},Vals [x] us→∃u,us=[u]∧RelV x u
 | _,_,.cons r .nil=>⟨_,rfl,r⟩
theorem Vals.two:∀{x y:V} {us:List Value},Vals [x,y] us→∃u v,us=[u,v]∧RelV x u∧RelV y v
 | _,_,_,.cons r (.cons q .nil)=>⟨_,_,rfl,r,q⟩
theorem Vals.zero:∀{us:List Value},Vals [] us→us=[]
 | _,.nil=>rfl
theorem Vals.dropLast{xs:List V}{us:List Value}(h:Vals xs us):Vals xs.dropLast us.dropLast:=by
 induction h with
 | nil=>exact .nil
 | cons r t ih=>
  cases t with
  | nil=>exact .nil
  | cons q t'=>exact .cons r ih
theorem Vals.rep{xs:List V}{us:List Value}(h:Vals xs us):∀k:Nat,Vals (List.replicate k xs).flatten (List.replicate k us).flatten
 | 0=>.nil
 | k+1=>by rw [tZ,tZ,xX,xX];exact Vals.append h (Vals.rep h k)
variable {α:Type}
theorem Ra(l:List α):l.eraseIdx (l.length-1)=l.dropLast:=by
 induction l with
 | nil=>rfl
 | cons a r ih=>
  cases r with
  | nil=>rfl
  | cons b r=>
   have e:(a::b::r).length-1=((b::r).length-1)+1:=by have h1:(a::b::r).length=r.length+2:=rfl;have h2:(b::r).length=r.length+1:=rfl;lia
   rw [e,List.eraseIdx_cons_succ,ih]
   all_goals rfl
theorem foldl_rep(ai:List Value):∀(k:Nat) (acc:List Value),
  List.foldl (fun x1 x2=>x1++x2) acc.toArray (List.replicate k ai.toArray)=(acc++(List.replicate k ai).flatten).toArray
 | 0,acc=>by simp
 | k+1,acc=>by
  have e:acc.toArray++ai.toArray=(acc++ai).toArray:=by simp
  have e2:(acc++ai)++(List.replicate k ai).flatten=acc++(List.replicate (k+1) ai).flatten:=by rw [tZ,xX,xY]
  rw [←e2,←foldl_rep ai k (acc++ai),←e,tZ,List.foldl_cons]
section
variable {X:Cx} {pins:aU} {σ:St} {H:Hp} {s:Shared} {l b:Addr} {xs ys zs:List V}
variable {ai:List Value} {n t':Nat}
theorem Inv.yC{its':List Value}{f:Array Value→Array Value}(I:Inv X pins σ H s)(hH:H l=some (.lst xs))
  (e:s.heap.get? l=some {cls:=.type "list",data:=.seq ai.toArray n}) (hf:f ai.toArray=its'.toArray) (hv:Vals ys its') (hz:ys.length≤sizeLine) :
  Inv X pins σ (upd H l (.lst ys)) {s with heap:=s.heap.update l (Obj.mapSeq f),toks:=t'}:=by
 have q:=PySem.IsL.update e f;rw [hf] at q;refine I.write (x:=l) (e:=l) (by rw [hH];exact trivial) (.inl rfl) (fun b' u hb hu=>(Heap.get?_update_other s.heap (Obj.mapSeq f) (Ne.symm hb)).trans hu) ⟨_,q⟩ ?_
 exact ⟨hz,its',_,hv,q⟩
theorem Inv.JM(I:Inv X pins σ H s)(hv:Vals ys ai)(hz:ys.length≤sizeLine) :
  Inv X pins σ (upd H s.heap.objs.size (.lst ys)) {s with heap:=s.heap.push {cls:=.type "list",data:=.seq ai.toArray},toks:=t'}:=
 I.laid (fun _ _ q=>cz _ q) (aN _) ⟨hz,ai,0,hv,fH _ rfl⟩
theorem Inv.fresh(I:Inv X pins σ H s):H s.heap.objs.size=none:=I.az.fresh (aN _)
theorem Inv.lY(I:Inv X pins σ H s)(hH:H l=some (.lst xs)):xs.length≤sizeLine∧∃(ai:List Value) (n:Nat),Vals xs ai∧xs.length=ai.length∧s.heap.get? l=some {cls:=.type "list",data:=.seq ai.toArray n}:=by obtain ⟨z,ai,n,r,e⟩:=I.az l _ hH;exact ⟨z,ai,n,r,r.length,e⟩
theorem JN(h:n≤sizeLine):Builtin.List.listTooLong n=false:=by unfold Builtin.List.listTooLong;exact dc (by lia)
end
section
variable {X:Cx}
def Rb:V→List V→Hp→VK→Prop:=fun x vs H Q=>∃l xs y,x=.ref l∧vs=[y]∧H l=some (.lst xs)∧xs.length<sizeLine∧Q .aI (upd H l (.lst (xs++[y])))
theorem iM:uu X "list.append" Rb:=by
 intro pins s σ H x vs v us Q I rx rv h;obtain ⟨l,xs,y,rfl,rfl,hH,hz,q⟩:=h;cases rx;obtain ⟨u,rfl,ru⟩:=rv.one;obtain ⟨z,ai,n,r,hl,e⟩:=I.lY hH;refine oz F.slot_list_append ⟨_,e,rfl⟩ F.entry_list_append (F.args_list_append_2 _ _) (PySem.list_append l ai.toArray n u (by rw [cU];lia)) ⟨e,?_⟩
 refine ⟨.aI,_,I.yC (its':=ai++[u]) hH e (by simp) (r.append (.cons ru .nil)) ?_,rfl,q⟩
 rw [fe,oA];lia
def Rc:V→List V→Hp→VK→Prop:=fun x vs H Q=>∃l b xs zs,x=.ref l∧vs=[.ref b]∧H l=some (.lst xs)∧H b=some (.lst zs)∧xs.length+zs.length≤sizeLine∧Q .aI (upd H l (.lst (xs++zs)))
theorem Rf:uu X "list.extend" Rc:=by
 intro pins s σ H x vs v us Q I rx rv h;obtain ⟨l,b,xs,zs,rfl,rfl,hH,hB,hz,q⟩:=h;cases rx;obtain ⟨u,rfl,ru⟩:=rv.one;cases ru;obtain ⟨z,ai,n,r,hl,e⟩:=I.lY hH;obtain ⟨z2,qu,n2,r2,JO,e2⟩:=I.lY hB;have hsz:ai.toArray.size+qu.toArray.size≤sizeLine:=by rw [cU,cU];lia
 have Ez:¬(!ai.toArray.isEmpty && Builtin.List.listTooLong (ai.toArray.size+qu.toArray.size))=true:=by rw [JN hsz,Bool.and_false];exact de
 refine oz F.slot_list_extend ⟨_,e,rfl⟩ F.entry_list_extend (F.args_list_extend_2 _ _)
  (AutoSeq1.list_extend_list_list_0 l ai.toArray n b qu.toArray n2 Ez (by rw [cU];lia) (by lia)) ⟨e,e2,?_⟩
 refine ⟨.aI,_,I.yC (its':=ai++qu) hH e (by simp) (r.append r2) ?_,rfl,q⟩
 rw [fe];lia
def Rg:V→List V→Hp→VK→Prop:=fun x vs H Q=>∃l xs y,x=.ref l∧vs=[]∧H l=some (.lst xs)∧xs[xs.length-1]?=some y∧Q y (upd H l (.lst xs.dropLast))
theorem Rh:uu X "list.pop" Rg:=by
 intro pins s σ H x vs v us Q I rx rv h;obtain ⟨l,xs,y,rfl,rfl,hH,hy,q⟩:=h;cases rx;have qv:=rv.zero;subst qv;obtain ⟨z,ai,n,r,hl,e⟩:=I.lY hH;obtain ⟨u,hu,ru⟩:=r.get hy;have JP:ai.toArray[ai.toArray.size-1]?=some u:=by show ai.toArray[ai.length-1]?=some u;rw [←Array.getElem?_toList,←hl];exact hu
 refine oz F.slot_list_pop ⟨_,e,rfl⟩ F.entry_list_pop (F.args_list_pop_1 _) (MeetsSeq.list_pop_last l ai.toArray n u JP (by rw [cU];lia)) ⟨e,?_⟩
 refine ⟨y,_,I.yC (its':=ai.dropLast) hH e ?_ r.dropLast ?_,ru,q⟩
 ·show ai.toArray.eraseIdxIfInBounds (ai.toArray.size-1)=ai.dropLast.toArray
  rw [cU,List.eraseIdxIfInBounds_toArray,Ra]
 ·rw [List.length_dropLast]
  lia
def Ri:V→List V→Hp→VK→Prop:=fun x vs H Q=>∃l xs,x=.ref l∧vs=[]∧H l=some (.lst xs)∧Q .aI (upd H l (.lst []))
theorem JQ:uu X "list.clear" Ri:=by
 intro pins s σ H x vs v us Q I rx rv h;obtain ⟨l,xs,rfl,rfl,hH,q⟩:=h;cases rx;have qv:=rv.zero;subst qv;obtain ⟨z,ai,n,r,hl,e⟩:=I.lY hH;refine oz F.slot_list_clear ⟨_,e,rfl⟩ F.entry_list_clear (F.args_list_clear_1 _) (AutoSeq1.list_clear_list_0 l ai.toArray n (by rw [cU];lia)) ⟨e,?_⟩
 exact ⟨.aI,_,I.yC (its':=[]) (ys:=[]) hH e rfl .nil (cn _),rfl,q⟩
def Rj:R2:=fun x y H Q=>∃l b xs zs,x=.ref l∧y=.ref b∧H l=some (.lst xs)∧H b=some (.lst zs)∧xs.length+zs.length≤sizeLine∧∀p,H p=none→Q (.ref p) (upd H p (.lst (xs++zs)))
theorem Rk:cf X (binaryOp .Add) Rj:=by
 intro pins s σ H x y v u Q I rx ry h;obtain ⟨l,b,xs,zs,rfl,rfl,hH,hB,hz,q⟩:=h;cases rx;cases ry;obtain ⟨z,ai,n,r,hl,e⟩:=I.lY hH;obtain ⟨z2,qu,n2,r2,JO,e2⟩:=I.lY hB;refine PySem.P.add_list e e2 ?_ (by rw [cU,cU];lia)
 have ea:ai.toArray++qu.toArray=(ai++qu).toArray:=by simp
 rw [ea];exact ⟨.ref _,_,I.JM (t':=s.toks) (r.append r2) (by rw [fe];lia),rfl,q _ I.fresh⟩
def Rl:R2:=fun x y H Q=>∃l k xs,x=.ref l∧y=.int k∧H l=some (.lst xs)∧-(2 ^ 63)≤k∧k<2 ^ 63∧xs.length*k.toNat≤sizeLine ∧
 ∀p,H p=none→Q (.ref p) (upd H p (.lst (List.replicate k.toNat xs).flatten))
theorem len_rep(xs:List α)(k:Nat):(List.replicate k xs).flatten.length=k*xs.length:=by
 induction k with
 | zero=>simp
 | succ k ih=>rw [tZ,xX,fe,ih,Nat.succ_mul,Nat.add_comm]
theorem Rm:cf X (binaryOp .Mult) Rl:=by
 intro pins s σ H x y v u Q I rx ry h;obtain ⟨l,k,xs,rfl,rfl,hH,h1,h2,hz,q⟩:=h;cases rx;obtain ⟨t,rfl⟩:=ry;obtain ⟨z,ai,n,r,hl,e⟩:=I.lY hH;have hlen:ai.toArray.size*k.toNat≤sizeLine:=by rw [cU,←hl];exact hz
 have Rn:¬ai.toArray.size*k.toNat>(2 ^ 63-1) / 8:=by
  have:(sizeLine:Nat)≤(2 ^ 63-1) / 8:=by decide
  lia
 have Ro:¬(!Builtin.List.listFitsIndex k)=true:=by rw [fitsIndex_both h1 h2];exact de
 have Ez:¬Builtin.List.listTooLong (ai.toArray.size*k.toNat)=true:=by rw [JN hlen];exact de
 have Rp:List.foldl (fun x1 x2=>x1++x2) #[] (List.replicate (if ai.toArray.isEmpty=true then 0 else k.toNat) ai.toArray)=(List.replicate k.toNat ai).flatten.toArray:=by
  have f0:∀m:Nat,List.foldl (fun x1 x2=>x1++x2) #[] (List.replicate m ai.toArray)=(List.replicate m ai).flatten.toArray:=fun m=>by have:=foldl_rep ai m [];rw [List.nil_append] at this;exact this
  rw [f0];cases ai with
  | nil=>simp
  | cons a r'=>rw [au (by simp)]
 refine wpAny_binaryOp_repeat_ref (T:="list") (U:="int") (by decide) ⟨_,e,rfl⟩ (fun s'=>typeIs_int s' k t) noFill_list_mul F.fills_int_mul F.slot_int_rmul repeat_list F.slot_int_index.lookup
  (oz F.slot_int_rmul (typeIs_int s k t) F.entry_int_rmul (F.args_int_rmul_2 _ _) (int___rmul___int_list k t l ai.toArray n)
   ⟨e,rfl,⟨_,e,rfl⟩,oz F.slot_list_mul ⟨_,e,rfl⟩ F.entry_list_mul (F.args_list_mul_2 _ _) (AutoListH.list___mul___list_int_3 l ai.toArray n k t Ro Rn Ez) ⟨e,?_⟩⟩)
 rw [Rp];exact ⟨.ref _,_,I.JM (t':=s.toks) (r.rep k.toNat) (by rw [len_rep,Nat.mul_comm];exact hz),rfl,q _ I.fresh⟩
end
section
variable {prog:Program} {w:World} {A:Around} {E:aR} {s:Shared}
end
section
variable {X:Cx}
end
end L2
namespace Att
open PySem PySem.W PySem.Calls PyProof.Rows
variable {P:Params} {h:Heap}
theorem Rq:∀(ns:List Int) (vs:List Value),WellAll P h vs (ns.map WData.int)→IntsAre vs ns:=by
 intro ns
 induction ns with
 | nil=>intro vs w;rw [List.map_nil] at w;cases w;exact .nil
 | cons n ns ih=>
  intro vs w;rw [cX] at w;cases w with
  | cons a b=>cases a;exact .cons _ _ (ih _ b)
variable {l:OpenLaw} {n:Nat}
theorem Rt(hn:l.most=some n){args:List WData}{vals:List Value}
  (AS:l.row.toRowW.claim.pre args=true) (EA:WellAll P h vals args) :
  ∃a vs ns,vals=[Value.ref a]∧args=[WData.list (ns.map WData.int)]∧h.get? a=some {cls:=.type "list",data:=.seq vs.toArray}∧IntsAre vs ns∧ns.length≤n:=by
 have Ru:WShape.hasAll [] args [.list .int]=true:=(pre_splitW AS).1;have hc:l.pre.holds [] {args:=args}=true:=(pre_splitW AS).2;obtain ⟨d,r,rfl,h1,h2⟩:=hasAllW_cons Ru;obtain rfl:=hasAllW_nil h2;obtain ⟨xs,rfl,h3⟩:=hasW_list h1;obtain ⟨ns,rfl⟩:=items_int h3;have hlen:ns.length≤n:=by
  unfold OpenLaw.pre at hc;have h4:(WTm.not (.lt (.lit (.int (n:Int))) (.len (.arg 0)))).holds [] {args:=[.list (ns.map .int)]}=true:=by have h4:=(holds_andW hc).1;rw [hn] at h4;exact h4
  have h5:=condW_of h4 (w_not (w_lt w_lit (w_len_list (w_arg rfl))));rw [aX] at h5;refine Nat.le_of_not_lt fun q=>?_;have q':(n:Int)<((ns.length:Nat):Int):=by lia
  first
   | (rw [cj q'] at h5;exact absurd h5 (by decide))
   | (simp at h5;lia)
 cases EA with
 | cons w1 w2=>
  cases w2;cases w1 with
  | list ho Rv=>exact ⟨_,_,ns,rfl,rfl,ho,Rq ns _ Rv,hlen⟩
theorem Rw(l:OpenLaw)(args:List WData):l.row.toRowW.claim.post args (.bool true) args=true:=
 postW_of (r:=l.row.toRowW) (X:=(true == true))
  (show WShape.has [] (.bool true) .bool=true by first | rfl | decide | simp [WShape.has,WShape.arms,WShape.armsAll])
  (show (WTm.eq .res (.lit (.bool true))).value [] {args:=args,res:=some (.bool true),after:=args}=some (.bool (true == true)) from w_eq_bool (w_res rfl) w_lit) rfl
theorem Rx{q:Program}{loose:List Str}{XP:(Str→Option Value)→Heap→Prop}{YP:World→Heap→Prop}{d:DefRec}
  (hn:l.most=some n) (yE:d.params.defaults=[])
  (call:∀(w:World) (s₀ s₁:Shared) (mg mb:dh) (fa:Addr) (o:Obj) (pm cd doc:Value) (a:Addr) (vs:List Value) (ns:List Int),
   Ground q loose [] XP w s₀ mg mb s₁.heap→YP w s₁.heap→
   s₁.heap.get? fa=some o→o.data=.func (docDef d.name d.params d.body d.scope pm cd doc)→s₁.heap.CodeRec cd d.name→mg d.name=some (.ref fa)→
   s₁.heap.get? a=some {cls:=.type "list",data:=.seq vs.toArray}→IntsAre vs ns→ns.length≤n→s₁.gens = #[]→
   codeAny (model l.prog w) callerA (.call (.ref fa) ⟨[.ref a],[]⟩) (fun r s'=>r=.ok (.ret (.bool true))∧OldK s₁.heap s'.heap∧s'.os=s₁.os∧AllBare s'.gens) s₁) :
  WalkO q loose XP YP l.row.toRowW d [] (fun f vs=>PySem.call f vs):=by
 intro w s₀ s₁ mg mb G Y fa o pm cd doc dV kV ho hd fS hD yF hg args vals as AS agr hrd EA hlo;obtain rfl:dV=.none:=Dflts.none hD yE;obtain rfl:kV=.none:=Dflts.noKw hD;obtain ⟨a,vs,ns,rfl,rfl,EB,hints,hlen⟩:=Rt hn AS EA;refine enter_call (codeAny_mono (call w s₀ s₁ mg mb fa o pm cd doc a vs ns G Y ho (fd_plain hd) fS yF EB hints hlen hg) fun r s' hq=>?_);obtain ⟨rfl,h2,h3,h4⟩:=hq;exact ⟨.inl ⟨.bool true,.bool true,[],rfl,fun _=>rfl,.bool true,Rw l _,fun _=>⟨List.Pairwise.nil,fun _ hm=>(nomatch hm)⟩⟩,h2,h3,h4⟩
section
variable {prog:Program} {w:World} {A:Around} {E:aR} {s:Shared} {K:Frag}
end
end Att
namespace L2
open PySem PySem.Spec PyProof.Rows
theorem JR:∀{vs:List Value} {ns:List Int},IntsAre vs ns→Vals (ns.map V.int) vs
 | _,_,.nil=>.nil
 | _,_,.cons n t h=>.cons ⟨t,rfl⟩ (JR h)
def EC(H:Hp):Prop:=∀b,H b=none∨∃o xs,H b=some (.cH o (.lst xs))
variable {K:aC} {k:Nat} {a:Addr} {x:Str}
theorem Ry{P:Program}{w:World}{mg mb:dh}{CX:ir}{fa:Addr}{fd:FuncData}{sp:Sp}{s₁:Shared}{vs:List Value}{ns:List Int}
  (KX:K.In s₁.heap) (JS:s₁.heap.Ns mainGlobals mg) (hb:s₁.heap.Ns builtinsNs mb) (Rz:∀x:Str,x ≠ "__name__"→mb x=bootBuiltins x) (RA:s₁.heap.NoLimit) (hg:s₁.gens = #[])
  (ha:s₁.heap.get? a=some {cls:=.type "list",data:=.seq vs.toArray}) (hi:IntsAre vs ns) (hl:ns.length≤sizeLine) (hr:di k callerA)
  (F:∀base:Heap,K.In base→base.Ns mainGlobals mg→aS P w K mg base CX k fa fd [x] sp) (RB:∀(s:Shared) (u:Value),BindsTo s fd ⟨[u],[]⟩ [(x,u)])
  (jY:∀H:Hp,EC H→b5 K H a (ns.map V.int)→sp [.ref a] H (fun v _=>v=.bl true) fun _ _ _=>False)
  (ED:∀H e s',CX [] H s₁ (fun _ _ _=>False) e s'→False) :
  codeAny (model P w) callerA (.call (.ref fa) ⟨[.ref a],[]⟩) (fun r s'=>r=.ok (.ret (.bool true))∧OldK s₁.heap s'.heap∧s'.os=s₁.os∧AllBare s'.gens) s₁:=by
 have rv:=JR hi;have RC:=hi.length
 have core:∀H:Hp,EC H→b5 K H a (ns.map V.int)→cA P w H s₁.heap→(∀b,H b≠none→b=a)→(H a≠none→K.lookup a=none)→
   codeAny (model P w) callerA (.call (.ref fa) ⟨[.ref a],[]⟩) (fun r s'=>r=.ok (.ret (.bool true))∧OldK s₁.heap s'.heap∧s'.os=s₁.os∧AllBare s'.gens) s₁:=by
  intro H hO hS az hA hK;have JT:∀{b:Addr} {o:Obj},s₁.heap.get? b=some o→H b=none→(mQ s₁.heap H).get? b=some o:=fun e n=>Pw e n;have yo:∀{b:Addr} {o:Obj} {es:Array DictEntry} {ep:Nat},s₁.heap.get? b=some o→o.data=.dict es ep→H b=none:=fun{b o es ep} e d=>by
   cases q:H b with
   | none=>rfl
   | some u=>
    have e':b=a:=hA b (by rw [q];simp)
    subst e';rw [ha] at e;cases e;have d':Data.seq vs.toArray _=Data.dict es ep:=d;cases d'
  have AU:∀{b:Addr} {m:dh},s₁.heap.Ns b m→(mQ s₁.heap H).Ns b m:=fun{b m} ⟨o,es,ep,e,d,r⟩=>⟨o,es,ep,JT e (yo e d),d,r⟩;have JU:K.In (mQ s₁.heap H):=fun b o e=>JT (KX b o e) (by
   cases q:H b with
   | none=>rfl
   | some u=>
    have e':b=a:=hA b (by rw [q];simp)
    subst e';rw [hK (by rw [q];simp)] at e;cases e)
  have hM:Mod K mg (mQ s₁.heap H):=⟨JU,AU JS,⟨mb,AU hb,Rz⟩,let ⟨mc,h1,h2⟩:=RA;⟨mc,AU h1,h2⟩⟩
  have e0:qt P w K mg (mQ s₁.heap H) callerA [] s₁ H:=⟨rfl,hM,fun b o e=>Px e,Nat.le_of_eq (Pu _ _),trivial,fun b hb=>absurd (show b∈([]:List Addr) from hb) (by simp),az,.of_eq hg⟩
  refine codeAny_mono ((F _ JU (AU JS)).run callerA [] s₁ H ⟨[.ref a],[]⟩ [.ref a] [.ref a] _ _ hr e0 (RB s₁ (.ref a)) (.cons rfl .nil) (jY H hO hS)) fun r s' h=>?_;cases r with
  | error e=>exact (ED H e s' h).elim
  | ok fl=>
   cases fl with
   | next=>exact False.elim h
   | brk=>exact False.elim h
   | cont=>exact False.elim h
   | ret u=>
    obtain ⟨v,H',os,bare,un,RD,r',q⟩:=h;have q':v=.bl true:=q;subst q';obtain rfl:u=Value.bool true:=r';refine ⟨rfl,OldK.of_keep fun b o e=>?_,os,bare⟩;cases q:H b with
    | none=>exact un.keep b o e q (by intro z;exact absurd (show b∈([]:List Addr) from z) (by simp)) (by simp)
    | some u=>
     rcases hO b with z | ⟨ob,xs,z⟩;·rw [q] at z;cases z
     ·have z2:=un.gA b ob _ z
      obtain ⟨e1,_⟩:=az b _ z;obtain ⟨e2,_⟩:=RD b _ z2;rw [e] at e1;cases e1;exact e2
 cases hk:K.lookup a with
 | some o=>have e:=KX a o hk;rw [ha] at e;cases e;refine core (fun _=>none) (fun _=>.inl rfl) (.inr ⟨_,vs.toArray,_,hk,rfl,rfl,rfl,by rw [cU,RC];exact hl,by simpa using rv⟩) (fun b u z=>by have z':(none:Option HO)=some u:=z;cases z') (fun b z=>absurd rfl z) fun z=>absurd rfl z
 | none=>
  refine core (fun b=>if b=a then some (.cH {cls:=.type "list",data:=.seq vs.toArray} (.lst (ns.map V.int))) else none) (fun b=>?_) (.inl (.inr ⟨{cls:=.type "list",data:=.seq vs.toArray},ar rfl⟩)) (fun b u z=>?_) (fun b z=>?_) fun _=>hk
  ·by_cases hb:b=a
   ·exact .inr ⟨_,_,ar hb⟩
   ·exact .inl (au hb)
  ·by_cases hb:b=a
   ·have z':=(ar hb).symm.trans z
    cases z';subst hb;exact ⟨ha,by rw [aX];exact hl,vs,_,rv,ha⟩
   ·have z':=(au hb).symm.trans z
    cases z'
  ·by_cases hb:b=a
   ·exact hb
   ·exact absurd (au hb) z
abbrev JV {K:aC} {h:Heap} (_:K.In h):PySem.W.Frag:=K
variable {n:Nat}
theorem RE{l:PySem.W.OpenLaw}{q:Program}{loose:List Str}{XP:(Str→Option Value)→Heap→Prop}{YP:World→Heap→Prop}{d:DefRec}{K:Params→PySem.W.Frag}{CX:World→ir}{sp:World→Sp}
  (hn:l.most=some n) (ur:n≤sizeLine) (yE:d.params.defaults=[]) (hr:di k callerA)
  (hY:∀(w:World) (h:Heap),YP w h→(K w.params).In h)
  (F:∀(w:World) (mg:dh) (fa:Addr) (h:Heap),(K w.params).In h→h.Ns mainGlobals mg→mg d.name=some (.ref fa)→
   ∃fd:FuncData,(∀(s:Shared) (u:Value),BindsTo s fd ⟨[u],[]⟩ [(x,u)]) ∧
    ∀base:Heap,(K w.params).In base→base.Ns mainGlobals mg→aS l.prog w (K w.params) mg base (CX w) k fa fd [x] (sp w))
  (jY:∀(w:World) (H:Hp) (a:Addr) (ns:List Int),ns.length≤n→EC H→b5 (K w.params) H a (ns.map V.int)→sp w [.ref a] H (fun v _=>v=.bl true) fun _ _ _=>False)
  (ED:∀(w:World) (H:Hp) (s:Shared) (e:Value) (s':Shared),CX w [] H s (fun _ _ _=>False) e s'→False) :
  PySem.W.WalkO q loose XP YP l.row.toRowW d [] (fun f vs=>PySem.call f vs):=by
 refine Att.Rx hn yE fun w s₀ s₁ mg mb fa o pm cd doc a vs ns G Y ho hd fS yF EB hints hlen hg=>?_;have KX:=hY w _ Y;obtain ⟨fd,hb,hF⟩:=F w mg fa _ KX G.T.g yF;exact Ry KX G.T.g G.T.b G.T.builtins G.T.nolimit hg EB hints (aQ hlen ur) hr hF hb (fun H hO hS=>jY w H a ns hlen hO hS) fun H e s'=>ED w H s₁ e s'
def inClass(s:Stmt)(j:Nat):Stmt:=match s with
 | .ClassDef _ _ _ body _ _ _ _ _ _ _=>body.getD j (.Pass ⟨0,0,0,0⟩)
 | _=>.Pass ⟨0,0,0,0⟩
def jq(s:Stmt):Arguments:=match s with
 | .FunctionDef _ a _ _ _ _ _ _ _ _=>a
 | _=>{posonlyargs:=[],args:=[],vararg:=none,kwonlyargs:=[],kw_defaults:=[],kwarg:=none,defaults:=[]}
def gD(s:Stmt):List Stmt:=match s with
 | .FunctionDef _ _ b _ _ _ _ _ _ _=>b
 | _=>[]
def aG(s:Stmt):Scope:=match s with
 | .FunctionDef _ _ _ _ _ _ sc _ _ _=>sc
 | _=>{kind:=.function,names:=[],isGenerator:=false,isCoroutine:=false}
abbrev bH:ir:=fun _ _ _ _ _ _=>False
abbrev E0:XK:=fun _ _ _=>False
theorem aD{X:Cx}:Passes bH X E0:=fun _ _ _ _ _ _ _ h=>h.elim
structure eE (K:aC) (x qual:Str) (st:Stmt) (f:Addr) (fd:FuncData):Prop where
 ex:∃(oc:Value) (od:Option Addr) (kV doc pm:Value) (an:Option Addr) (ba ct:Value) (fW:Array (Option Value)),
  fd=PySem.W.fnOf x qual (jq st) (gD st) (aG st) .none kV doc pm an ba ct∧K.lookup f=some ⟨oc,od,.func fd,fW⟩∧PySem.W.codeIn K ba qual=true
 kp:PySem.W.keepIn K (.ref f)=true
abbrev ax (K:aC) (x:Str) (st:Stmt) (f:Addr) (fd:FuncData):Prop:=eE K x x st f fd
section
variable {P:Program} {w:World} {K:aC} {mg:dh} {base:Heap}
variable {qual:Str} {st:Stmt} {f:Addr} {fd:FuncData} {N ps:List Str} {sp:Sp}
theorem eE.ok(F:eE K x qual st f fd)(S:aZ N ps (aG st))(len:∀vs H Q E,sp vs H Q E→vs.length=ps.length)
  (kT:∀(ba:Value) (A:Around) (outer:List Env) (s:Shared) (H:Hp) (vs:List V) (Q:VK) (E:XK),di k (A.deeper (envOfC qual (aG st) s.heap.objs.size f ba))→sp vs H Q E→
   ∃t,eN (ji bH P w K mg base N qual (aG st) f ba A outer s H E).lQ (gD st) t∧t {nx:=fun _ H'=>Q .aI H',rt:=Q} (start N vs) H):aS P w K mg base bH (k+1) f fd ps sp:=by
 obtain ⟨oc,od,kV,doc,pm,an,ba,ct,fW,rfl,lk,fS⟩:=F.ex;refine En lk fS S len fun A outer s H vs Q E hr jY=>?_;obtain ⟨t,h,q⟩:=kT ba A outer s H vs Q E hr jY;exact ⟨t,h.lQ,q⟩
theorem eE.bQ(F:eE K x qual st f fd)(S:aZ N ps (aG st))
  (kT:∀(ba:Value) (A:Around) (outer:List Env) (s:Shared) (H:Hp) (vs:List V) (Q:VK) (E:XK),di k (A.deeper (envOfC qual (aG st) s.heap.objs.size f ba))→sp vs H Q E→
   ∃t,eN (ji bH P w K mg base N qual (aG st) f ba A outer s H E).lQ (gD st) t∧t {nx:=fun _ H'=>Q .aI H',rt:=Q} (start N vs) H)
  (len:∀vs H Q E,sp vs H Q E→vs.length=ps.length:=by intro vs H Q E h;repeat first | (obtain ⟨rfl,_⟩:=h;rfl) | (subst h;rfl) | obtain ⟨_,h⟩:=h):aS P w K mg base bH (k+1) f fd ps sp:=F.ok S len kT
theorem eE.binds(F:eE K x qual st f fd)
  (h:∀(kV doc pm:Value) (an:Option Addr) (ba ct:Value) (us:List Value),us.length=ps.length→bindArgs (PySem.W.fnOf x qual (jq st) (gD st) (aG st) .none kV doc pm an ba ct) ⟨us,[]⟩=pure (ps.zip us)):Binds K fd ps []:=by
 obtain ⟨oc,od,kV,doc,pm,an,ba,ct,fW,rfl,lk,fS⟩:=F.ex;exact .all (h kV doc pm an ba ct)
theorem eE.bh(F:eE K x qual st f fd)
  (h:∀(kV doc pm:Value) (an:Option Addr) (ba ct:Value) (us:List Value),us.length=ps.length→bindArgs (PySem.W.fnOf x qual (jq st) (gD st) (aG st) .none kV doc pm an ba ct) ⟨us,[]⟩=pure (ps.zip us):=by intro _ _ _ _ _ _ us hl;rcases us with _ | ⟨_,_ | ⟨_,_ | ⟨_,_ | ⟨_,_ | ⟨_,_ | ⟨_,_ | ⟨_,_⟩⟩⟩⟩⟩⟩⟩ <;> first | rfl | (simp at hl;done)):Binds K fd ps []:=F.binds h
theorem bj{oc:Value}{od an:Option Addr}{fW:Array (Option Value)}{kV doc pm ba ct:Value}(l:K.lookup f=some ⟨oc,od,.func (PySem.W.fnOf x qual (jq st) (gD st) (aG st) .none kV doc pm an ba ct),fW⟩)
  (c:PySem.W.codeIn K ba qual=true) (k:PySem.W.keepIn K (.ref f)=true):eE K x qual st f (PySem.W.fnOf x qual (jq st) (gD st) (aG st) .none kV doc pm an ba ct):=⟨⟨oc,od,kV,doc,pm,an,ba,ct,fW,rfl,l,c⟩,k⟩
end
theorem cB(h:n≤1000):n<sizeLine:=jQ h (by decide)
section
variable {X:Cx}
theorem pv(i:Nat){pos:Pos}(hN:X.N[i]?=some x:=by rfl)(hv:mS X.env.scope x:=by first | exact Or.inl rfl | exact Or.inr (Or.inl rfl) | exact Or.inr (Or.inr rfl))(hd:(x == ("__debug__":Str))=false:=by decide)
  (fS:(x == ("__classdict__":Str))=false:=by decide):PE X (.Name x pos) (IL i):=PK hN hv hd fS
end
variable {A B:Prop}
theorem bM(h:B):if false=true then A else B:=by rw [au de];exact h
theorem dQ(h:A):if true=true then A else B:=by rw [ar rfl];exact h
theorem bS{c:Prop}[Decidable c](h1:c→A)(h2:¬c→B):if c then A else B:=by
 by_cases h:c
 ·rw [ar h]
  exact h1 h
 ·rw [au h]
  exact h2 h
def af(H H':Hp):Prop:=∀b o,H b=some o→H' b=some o
theorem af.refl(H:Hp):af H H:=fun _ _ h=>h
variable {H:Hp}
theorem af.trans{H1 H2:Hp}(a:af H H1)(b:af H1 H2):af H H2:=fun c o h=>b c o (a c o h)
theorem af.seq{H':Hp}{xs:List V}(e:af H H')(h:b5 K H a xs):b5 K H' a xs:=by
 rcases h with (h | ⟨o,h⟩) | h;·exact .inl (.inl (e _ _ h))
 ·exact .inl (.inr ⟨o,e _ _ h⟩)
 ·exact .inr h
end L2
set_option maxHeartbeats 4000000
namespace L2
open PySem PySem.Spec PyProof.Rows
structure AV (P:Program) (w:World) (outer:List Env) (H:Hp) (s:Shared) (H':Hp) (ea C:Addr) (B:Heap) (t:Addr) (s':Shared):Prop where
 os:s'.os=s.os
 bare:AllBare s'.gens
 fl:Heap.FlyingW B outer ea (.ref C) (.ref t) s'.heap
 az:cA P w H' B
 kb:∀b o,s.heap.get? b=some o→H b=none→b∉cG outer→B.get? b=some o
 tb:∀b o,s.heap.get? b=some o→b∉cG outer→∃o',B.get? b=some o'
 sl:∀b o,s.heap.get? b=some o→H b=none→b∈cG outer→∃l,s'.heap.get? b=some {o with slots:=l}
 frh:∀b∈cG outer,H b=none
 RF:∀b o,s.heap.get? b=some o→H b=none→H' b=none
 gK:∀b xs,H b=some (.tup xs)→H' b=some (.tup xs)
 gA:∀b o u,H b=some (.cH o u)→H' b=some (.cH o u)
 gL:∀b ps,H b=some (.mP ps)→∃more,H' b=some (.mP (ps++more))
def dR(P:Program)(w:World):ir:=fun outer H s E e s'=>∃ea C H' B t,e=.ref ea∧AV P w outer H s H' ea C B t s'∧E (.ref C) none H'
section
variable {P:Program} {w:World} {outer:List Env} {H H':Hp} {s s':Shared} {ea C t:Addr} {B:Heap}
def ExcAt(ea C:Addr)(h:Heap):Prop:=∃oe,h.get? ea=some oe∧oe.cls=.ref C∧PySem.W.notCls oe=true
def RG(ea C:Addr):HO:=.ext (ExcAt ea C)
end
section
variable {X:Cx} {pins:aU} {σ:St} {H H':Hp} {s s':Shared} {ea C t:Addr} {B:Heap}
structure uv (X:Cx) (E:XK):Prop where
 jd:X.stack=X.env::X.outer
 fr:X.env.frame=some X.env.locals
 ex:X.ex=[]
 xe:X.xe=fun e s'=>wpAny (model X.prog X.w) X.A (leaving X.env e) (fun _ gZ=>dR X.prog X.w X.outer X.H₀ X.s₀ E e gZ) (fun e' gZ=>dR X.prog X.w X.outer X.H₀ X.s₀ E e' gZ) s'
theorem AW{env:Env}{outer:List Env}{L:Addr}(h:env.frame=some L):cG (env::outer)=L::cG outer:=by unfold cG;rw [z9,h]
variable {E:XK}
theorem AV.leave(L:uv X E)(I:Inv X pins σ H s)(f:AV X.prog X.w X.stack H s H' ea C B t s'){h:Heap}(x:Heap.FlyingW B X.outer ea (.ref C) (.ref t) h)(up:s'.heap.UpToSlots h):AV X.prog X.w X.outer X.H₀ X.s₀ H' ea C B t {s' with heap:=h}:=by
 have nL:∀b o,X.s₀.heap.get? b=some o→b≠X.env.locals:=fun b o e=>d5 (dZ (bU e) I.ok.above);have ns:∀b o,X.s₀.heap.get? b=some o→b∉cG X.outer→b∉cG X.stack:=fun b o e nb z=>by
  rw [L.jd,AW L.fr] at z;rcases dy.mp z with z | z;·exact nL b o e z
  ·exact nb z
 have nx:∀b:Addr,b∉X.ex:=fun b z=>by rw [L.ex] at z;cases z
 refine ⟨f.os.trans I.os,f.bare,x,f.az,fun b o e n nb=>?_,fun b o e nb=>?_,fun b o e n hb=>?_,I.ok.mV,fun b o e n=>?_,fun b xs e=>f.gK b xs (I.base.gK b xs e),fun b o u e=>f.gA b o u (I.base.gA b o u e),fun b ps e=>?_⟩;·exact f.kb b o (I.base.keep b o e n nb (nx b)) (I.base.free b o e n (nx b)) (ns b o e nb)
 ·obtain ⟨o',e'⟩:=I.base.there b o e (nx b)
  exact f.tb b o' e' (ns b o e nb)
 ·obtain ⟨l,q⟩:=I.base.slot b o e n hb (nx b)
  have hs:b∈cG X.stack:=by rw [L.jd,AW L.fr];exact e9 _ hb
  obtain ⟨l2,q2⟩:=f.sl b _ q (I.base.free b o e n (nx b)) hs;obtain ⟨_,o2,q3,nf⟩:=f.fl.2.2.1.mem hs;rw [q2] at q3;cases q3;obtain ⟨l3,q4⟩:=up b _ q2 nf;exact ⟨l3,q4⟩
 ·obtain ⟨o',e'⟩:=I.base.there b o e (nx b)
  exact f.RF b o' e' (I.base.free b o e n (nx b))
 ·obtain ⟨m1,e1⟩:=I.base.gL b ps e
  obtain ⟨m2,e2⟩:=f.gL b _ e1;exact ⟨m1++m2,by rw [e2,Array.append_assoc]⟩
theorem m9:Passes (dR X.prog X.w) X (fun _ _ _=>False):=fun pins σ H s e s' I h=>by obtain ⟨_,_,_,_,_,_,_,q⟩:=h;exact q.elim
theorem oO(L:uv X E):Passes (dR X.prog X.w) X E:=fun pins σ H s e s' I h=>by
 obtain ⟨ea,C,H',B,t,rfl,f,q⟩:=h;rw [L.xe];refine wpAny_leaves_onW (by rw [I.ok.frames,L.jd]) L.fr (by have z:=f.fl;rw [L.jd] at z;exact z) fun h' x up=>?_
 exact ⟨ea,C,H',B,t,rfl,f.leave L I x up,q⟩
end
variable {K:aC} {h:Heap}
theorem RH{C:Addr}{uw:List Value}{newId:String}(cZ:K.In h)(hq:PySem.W.excIn K C uw newId=true) :
  ∃bm N nm qn bs hdct sn sub ab col dd k0 k1 k2 k3 k5 mN,h.get? C=some (excClassObj nm qn C N bs bm hdct sn sub ab col dd k0 k1 k2 k3 k5 newId)∧h.Ns N mN∧mN "__init__"=none∧OwnTail h uw bm∧PySem.W.mroIn K C=fun b=>some ((Value.ref C::bm).contains b):=by
 unfold PySem.W.excIn at hq
 split at hq
 ·rename_i ux cls slt look
  split at hq
  ·rename_i CC rest a0 a1 a2 a3 nn a5 em es
   simp only [xW,kA,Bool.not_eq_true'] at hq;obtain ⟨⟨⟨⟨⟨e1,e2⟩,e3⟩,e4⟩,e5⟩,e6⟩:=hq;subst e1 e2;have RI:PySem.W.mroIn K CC=fun b=>some ((Value.ref CC::rest).contains b):=by
    funext b
    unfold PySem.W.mroIn PySem.W.clsIn;rw [look];simp [em]
   obtain ⟨c1,c2,c3,c4,c5,c6,c7,c8,c9,RJ,c11⟩:=cls;dsimp only at em e3 e5 e6;subst em e3;have RK:slt = #[a0,a1,a2,a3,some (.builtin nn),a5]:=by obtain ⟨ll⟩:=slt;simp only at es;rw [es]
   subst RK;exact ⟨rest,c4,c1,c5,c2,c6,c7,c8,c9,RJ,ux,a0,a1,a2,a3,a5,_,cZ _ _ look,.of_isNs (PySem.W.isNs_of_in cZ e5),PySem.W.nsMap_none_of_in cZ e5 e6,PySem.W.tail_of_in cZ e4,RI⟩
  ·cases hq
 ·cases hq
section
variable {X:Cx} {E:XK} {x:Str} {C:Addr} {np fv pos:Pos} {e:Expr} {es:List Expr} {ta:TA} {B newId RL:String} {uw:List Value}
def RM(C:Addr)(E:XK)(ta:TA):TS:=fun _ σ H=>ta σ H fun vs H1=>vs.length≤sizeLine∧E (.ref C) none H1
theorem qw(L:uv X E)(hc:X.calm=true)(FB:ExcBaseFacts B newId RL uw)(hq:PySem.W.excIn X.K C uw newId=true)(hg:Gl X x)(hm:X.mg x=some (.ref C))(ha:PA X (e::es) ta)
  (hs:starEach (e::es) X.env=(false,eval e X.env)::starEach es X.env:=by rfl) (hp:(backTo fv (starEach es X.env)).any (·.1)=false:=by rfl) (hd:(x == ("__debug__":Str))=false:=by decide) :
  PS X (.Raise (some (.Call (.Name x np) (e::es) [] fv)) none pos) (RM C E ta):=by
 intro pins s σ H D I h;obtain ⟨bm,N,nm,qn,bs,hdct,sn,sub,ab,col,dd,k0,k1,k2,k3,k5,mN,hC,hN,RN,T,_⟩:=RH I.ok.mod.cZ hq
 refine wpAny_Raise_call_subT (C:=C) (nm:=nm) (q:=qn) (N:=N) (bs:=bs) (bm:=bm) (hdct:=hdct) (sn:=sn) (sub:=sub) (ab:=ab) (col:=col) (dd:=dd) (k0:=k0) (k1:=k1) (k2:=k2) (k3:=k3) (k5:=k5) FB (mN:=mN) (T.hasType FB.hasBase) (I.ok.hd hc)
  (by rw [hs];show (false || (backTo fv (starEach es X.env)).any (·.1))=false;rw [hp];rfl) RN (Aw I hg hm ⟨rfl,?_⟩ hd)
 have h1:=ha fv pins s σ H _ I h;rw [hs] at h1 ⊢;refine Calls.evalArgs_plain (aO h1 fun us s2 ⟨vs,H1,I1,r,hl,q⟩=>⟨rfl,by rw [←r.length];exact hl,I1.bk _ _ hC,hN.keeps I1.bk,T.keeps I1.bk,fun h' ea mk=>?_⟩)
 rw [L.xe];have nL:∀b o,X.s₀.heap.get? b=some o→b≠X.env.locals:=fun b o q=>d5 (dZ (bU q) I1.ok.above);have ns:∀b o,X.s₀.heap.get? b=some o→b∉cG X.outer→b∉cG X.stack:=fun b o q nb z=>by
  rw [L.jd,AW L.fr] at z;rcases dy.mp z with z | z;·exact nL b o q z
  ·exact nb z
 have nx:∀b:Addr,b∉X.ex:=fun b z=>by rw [L.ex] at z;cases z
 have ff:s2.heap.FunFrames (PySem.W.hideAll s2.heap (cG X.stack)) (X.env::X.outer):=by have z:=I1.stack;rw [←L.jd];exact PySem.W.funFrames_hide z fun env he a hf=>List.mem_filterMap.mpr ⟨env,he,hf⟩
 refine wpAny_leaves_madeW (base:=PySem.W.hideAll s2.heap (cG X.stack)) (h:=s2.heap) (by rw [I1.ok.frames,L.jd]) L.fr (fun b o q=>PySem.W.of_hideAll _ q) ff mk fun h2 t fl _ _ up=>?_
 refine ⟨ea,C,H1,_,t,rfl,⟨I1.os,I1.bare,fl,fun a o e1=>?_,fun b o e1 n nb=>?_,fun b o e1 nb=>?_,fun b o e1 n hb=>?_,I1.ok.mV,fun b o e1 n=>?_,I1.base.gK,I1.base.gA,I1.base.gL⟩,q⟩
 ·refine (I1.az a o e1).jc (fun b u hb e2=>z8 _ e2 fun z=>?_) (fun _ z=>z) fun _ _ z=>z
  have n0:=I1.qf b z;rcases hb with hb | hb
  ·subst hb
   rw [e1] at n0;cases n0
  ·rw [hb] at n0
   cases n0
 ·exact z8 _ (I1.base.keep b o e1 n nb (nx b)) (ns b o e1 nb)
 ·obtain ⟨o',e2⟩:=I1.base.there b o e1 (nx b)
  exact ⟨o',z8 _ e2 (ns b o e1 nb)⟩
 ·obtain ⟨l,e2⟩:=I1.base.slot b o e1 n hb (nx b)
  have lS:b∈cG X.stack:=by rw [L.jd,AW L.fr];exact e9 _ hb
  obtain ⟨_,o2,e3,nf⟩:=I1.stack.mem lS;rw [e2] at e3;cases e3;obtain ⟨l2,e4⟩:=up b _ (mk.keeps _ _ e2) nf;exact ⟨l2,e4⟩
 ·obtain ⟨o',e2⟩:=I1.base.there b o e1 (nx b)
  exact I1.base.free b o e1 n (nx b)
end
section
variable {X:Cx} {k:Nat} {f C:Addr} {fd:FuncData} {ps:List Str} {sp:Sp} {ft:List V} {ds:List Value} {x m:Str} {p pos apos:Pos} {e o:Expr} {es:List Expr} {ta:TE} {t:TA}
variable {te:TX} {i:Nat} {pos':Pos}
end
section
variable {X:Cx} {pins:aU} {σ:St} {H:Hp} {s:Shared} {ea:Addr}
end
section
variable {M:Model} {A:Around} {E:aR} {h:Heap} {g:Array GenState} {d:Drawn} {t:Nat} {os:OsState} {e:Addr} {oe:Obj} {Q:Bool→Shared→Prop}
variable {nm q nm' q':Str} {C N D N':Addr} {bs bm bs' qx:List Value} {hdct agy:Bool} {sn oP:List Str} {sub agz:List Value} {ab ab':Bool} {col agB:Option Bool} {dd yG:Option Addr} {k0 k1 k2 k3 k5 j0 j1 j2 j3 j5:Option Value} {newId agC:String}
end
section
variable {X:Cx} {body:List Stmt} {b₀:Stmt} {agD:List Stmt} {np agE pos:Pos} {x n:Str} {D:Addr} {tb:TSX} {ts:TS} {uw:List Value} {newId:String} {i:Nat}
end
section
variable {P:Program} {w:World} {K:aC} {mg:dh} {base:Heap}
variable {x qual:Str} {st:Stmt} {f:Addr} {fd:FuncData} {N ps:List Str} {k:Nat} {sp:Sp}
theorem eE.EE(F:eE K x qual st f fd)(S:aZ N ps (aG st))(len:∀vs H Q E,sp vs H Q E→vs.length=ps.length)
  (kT:∀(ba:Value) (A:Around) (outer:List Env) (s:Shared) (H:Hp) (vs:List V) (Q:VK) (E:XK),di k (A.deeper (envOfC qual (aG st) s.heap.objs.size f ba))→sp vs H Q E→
   uv (ji (dR P w) P w K mg base N qual (aG st) f ba A outer s H E) E→
   ∃t,eN (ji (dR P w) P w K mg base N qual (aG st) f ba A outer s H E) (gD st) t∧t {nx:=fun _ H'=>Q .aI H',rt:=Q} (start N vs) H):aS P w K mg base (dR P w) (k+1) f fd ps sp:=by
 obtain ⟨oc,od,kV,doc,pm,an,ba,ct,fW,rfl,lk,fS⟩:=F.ex;exact En lk fS S len fun A outer s H vs Q E hr jY=>kT ba A outer s H vs Q E hr jY ⟨rfl,rfl,rfl,rfl⟩
theorem eE.dH(F:eE K x qual st f fd)(S:aZ N ps (aG st))
  (kT:∀(ba:Value) (A:Around) (outer:List Env) (s:Shared) (H:Hp) (vs:List V) (Q:VK) (E:XK),di k (A.deeper (envOfC qual (aG st) s.heap.objs.size f ba))→sp vs H Q E→
   uv (ji (dR P w) P w K mg base N qual (aG st) f ba A outer s H E) E→
   ∃t,eN (ji (dR P w) P w K mg base N qual (aG st) f ba A outer s H E) (gD st) t∧t {nx:=fun _ H'=>Q .aI H',rt:=Q} (start N vs) H)
  (len:∀vs H Q E,sp vs H Q E→vs.length=ps.length:=by intro vs H Q E h;repeat first | (obtain ⟨rfl,_⟩:=h;rfl) | (subst h;rfl) | obtain ⟨_,h⟩:=h):aS P w K mg base (dR P w) (k+1) f fd ps sp:=F.EE S len kT
end
structure qy (K:aC) (C:Addr):Prop where
 ci:PySem.W.hasDictIn K C=true
 ga:PySem.W.findIn K (.ref C) "__getattribute__"=some (some (.builtin "BaseException.__getattribute__"))
 gn:PySem.W.findIn K (.ref C) "__getattr__"=some none
 ca:PySem.W.findIn K (.ref C) "__class__"=some (some (.builtin "object.__class__"))
 mo:PySem.W.mroIn K C (.type "object")=some true
 mb:PySem.W.mroIn K C (.type "BaseException")=some true
section
variable {prog:Program} {w:World} {A:Around} {E:aR} {h:Heap} {g:Array GenState} {d:Drawn} {t:Nat} {os:OsState} {K:aC} {a C:Addr} {o:Obj}
theorem RO{R:Result→Shared→Prop}(cZ:K.In h)(c:qy K C)(hx:h.get? a=some o)(hc:o.cls=.ref C)(hq:R (.ok (.ret (.ref C))) ⟨h,g,d,t,os⟩) :
  codeAny (model prog w) A (.call (.builtin "getset_descriptor.__get__") ⟨[.builtin "object.__class__",.ref a,.ref C],[]⟩) R ⟨h,g,d,t,os⟩:=by
 have oQ:(⟨h,g,d,t,os⟩:Shared).TypeIs (.builtin "object.__class__") "getset_descriptor":=DM;have L1:=PySem.W.looks_mroIn (M:=model prog w) cZ c.mo;have ow:=F.owner_object_class;refine codeAny_call_builtin F.slot_gs_get.plain F.entry_gs_get (F.slot_gs_get.check _ _ _ _ _ _ _ _ oQ (F.args_gs_get _ _ _) ?_)
 repeat (any_goals (first | assumption | (with_reducible refine xZ hx ?_;rw [hc]) | (rw [ow];with_reducible refine L1.at ?_) | wp_step))
 refine ⟨Code.quiet_builtin _ (by decide +kernel),codeAny_builtin F.entry_object_class ?_⟩
 repeat (any_goals (first | assumption | (with_reducible refine xZ hx ?_;rw [hc]) | wp_step))
variable {tk:Tok}
theorem RP{Q:Fin→Shared→Prop}(cZ:K.In h)(c:qy K C)(hx:h.get? a=some o)(hc:o.cls=.ref C)(hq:Q (.done (.ret (.ref C))) ⟨h,g,d,t,os⟩) :
  wpAny (model prog w) A (Builtin.«object.__getattribute__» ⟨[.ref a,.str "__class__" tk],[]⟩) Q E ⟨h,g,d,t,os⟩:=by
 have oQ:(⟨h,g,d,t,os⟩:Shared).TypeIs (.builtin "object.__class__") "getset_descriptor":=DM;have L1:=Ab (M:=model prog w) cZ c.ca;have f5:=DM;have f6:=F.slot_gs_get.lookup;have f7:=F.slot_gs_set.lookup
 repeat (any_goals (first | assumption | (with_reducible refine xZ hx ?_;rw [hc]) | with_reducible refine L1.at ?_ | wp_step))
 refine RO cZ c hx hc ?_
 repeat (any_goals (first | assumption | wp_step))
theorem RQ{M:Model}{nv:Value}{Q:Unit→Shared→Prop}(cZ:K.In h)(c:qy K C)(hx:h.get? a=some o)(hc:o.cls=.ref C)(hq:Q () ⟨h,g,d,t,os⟩) :
  wpAny M A (checkBuiltinCall "BaseException.__getattribute__" ⟨[.ref a,nv],[]⟩) Q E ⟨h,g,d,t,os⟩:=by
 have hk:builtinKind "BaseException.__getattribute__"=some .slot:=by decide +kernel
 have hs:splitId "BaseException.__getattribute__"=some ("BaseException","__getattribute__"):=by decide +kernel
 have L1:=PySem.W.looks_mroIn (M:=M) cZ c.mb;have ha:=F.args_bexc_ga (.ref a) nv;simp only [checkBuiltinCall,hk,hs];refine b7 ?_;unfold isInstance
 repeat (first | (with_reducible refine xZ hx ?_;rw [hc]) | with_reducible refine L1.at ?_ | wp_step)
 exact hq
theorem RR{fill expr:Bool}{Q:aR}(cZ:K.In h)(c:qy K C)(hx:h.get? a=some o)(hc:o.cls=.ref C)(hq:Q (.ref C) ⟨h,g,d,t,os⟩) :
  wpAny (model prog w) A (getAttrBy (.ref a) (.str "__class__" tk) fill expr) Q E ⟨h,g,d,t,os⟩:=by
 have f3:=F.attrBase_ValueError.ga.bind (.ref a);have z0:(expr && onTheHeap (Value.builtin "BaseException.__getattribute__"))=false:=by cases expr <;> rfl
 have z2:(Value.builtin "BaseException.__getattribute__" == Value.builtin "object.__getattribute__")=false:=by decide +kernel
 have z1:(onTheHeap (Value.ref C) && Value.builtin "BaseException.__getattribute__" == Value.builtin "object.__getattribute__")=false:=by rw [z2];rfl
 have L1:=Ab (M:=model prog w) cZ c.ga;have L2:=Ab (M:=model prog w) cZ c.gn
 repeat (any_goals (first | assumption | (with_reducible refine xZ hx ?_;rw [hc]) | with_reducible refine L1.at ?_ | with_reducible refine L2.at ?_ | wp_step))
 refine codeAny_call_builtin F.attrBase_ValueError.ga.plain F.entry_bexc_ga (RQ cZ c hx hc (RP cZ c hx hc ?_))
 repeat (any_goals (first | assumption | wp_step))
theorem RS{Q:Option Value→Shared→Prop}(cZ:K.In h)(c:qy K C)(hx:h.get? a=some o)(hc:o.cls=.ref C)(hq:Q (some (.ref C)) ⟨h,g,d,t+1,os⟩) :
  wpAny (model prog w) A (getAttr? (.ref a) "__class__") Q E ⟨h,g,d,t,os⟩:=by
 unfold getAttr? getAttrBy?
 repeat (any_goals (first | assumption | with_reducible apply RR cZ c hx hc | wp_step))
theorem RT(c:qy K C):PySem.W.KitX K (.ref a) (.ref C) (ExcAt a C) where
 ty:=fun M h _ k=>by obtain ⟨oe,e1,e2,_⟩:=k;exact e2▸(PySem.W.Looks.ld e1).andThen .now
 it:=fun M h cZ _=>by
  obtain ⟨cd,hc,_⟩:=PySem.W.any_some c.ci;unfold PySem.W.clsIn at hc
  split at hc
  ·rename_i look
   intro A' Q' E' s' k q;unfold isType loadHead;exact b7 (wpAny_loadPart (k _ _ (cZ _ _ look)) (dM q))
  ·cases hc
 ne:=fun h tp dd ai n sl cZ RU=>by
  obtain ⟨cd,hc,_⟩:=PySem.W.any_some c.ci;refine Bool.eq_false_iff.mpr fun q=>?_;have e:C=tp:=Value.ref.inj (kA.mp q);subst e;unfold PySem.W.clsIn at hc
  split at hc
  ·rename_i look
   have z:=(cZ _ _ look).symm.trans RU;cases z
  ·cases hc
 ca:=fun{prog w A E Q s} cZ k z=>by obtain ⟨oe,e1,e2,_⟩:=k;obtain ⟨h,g,d,t,os⟩:=s;exact RS cZ c e1 e2 z
end
def AX(a:Addr)(h:Heap):Prop:=∃o ep,h.get? a=some o∧o.ExactDict∧o.data=.dict #[] ep∧(a == sysModules)=false
theorem AX.AY{a:Addr}(e:AX a h):PySem.W.KitAt a "dict" h:=by obtain ⟨o,_,e,c,_⟩:=e;exact ⟨o,e,c.1⟩
def JW(a:Addr):HO:=.ext (AX a)
inductive yH (K:aC) (H:Hp):V→Value→Prop where
 | of {x:V} {t:Value} (h:jh K H x t):yH K H x t
 | exc {a C:Addr} (e:H a=some (RG a C)) (c:qy K C):yH K H (.ref a) (.ref C)
 | ux {a:Addr} (e:H a=some (JW a)):yH K H (.ref a) (.type "dict")
def JX:V→Value
 | .ty n=>.type n
 | .ref a=>.ref a
 | _=>.none
def RV:V→Bool
 | .ty _=>true
 | .ref _=>true
 | _=>false
def RW(K:aC):List V→Hp→VK→Prop:=fun xs H Q=>∃x c t b,xs=[x,c]∧RV c=true∧yH K H x t∧PySem.W.kitOne K t (JX c)=some b∧Q (.bl b) H
variable {X:Cx}
theorem kU(hK:X.K=K:=by rfl):gO X (.builtin "isinstance") (RW K):=by
 intro pins s σ H xs us Q I r h;subst hK;obtain ⟨x,c,t,b,rfl,hc,ty,e,q⟩:=h;obtain ⟨u,cv,rfl,rx,rc⟩:=vals2 r;have ec:cv=JX c:=by
  cases c with
  | ty n=>exact rc
  | ref a=>exact rc
  | _=>cases hc
 subst ec;cases ty with
 | of ty=>exact QG I rx ty e fun tk=>⟨.bl b,H,I.tok tk,rfl,q⟩
 | @ux a ea=>cases rx;obtain ⟨k,_,_⟩:=(show cP X.prog X.w H s.heap a (.ext (AX a)) from I.az a _ ea);exact i5 PySem.W.kitx_dict I.dG k.AY e (fun z=>nomatch z) fun tk=>⟨.bl b,H,I.tok tk,rfl,q⟩
 | @exc a C ea cc=>cases rx;obtain ⟨k,_,_⟩:=(show cP X.prog X.w H s.heap a (.ext (ExcAt a C)) from I.az a _ ea);exact i5 (RT cc) I.dG k e (fun z=>nomatch z) fun tk=>⟨.bl b,H,I.tok tk,rfl,q⟩
def g7:List V→List V→Bool
 | [],[]=>true
 | x::xs,y::ys=>g6 x y && g7 xs ys
 | _,_=>false
def AZ(K:aC)(neg:Bool):R2:=fun x y H Q=>∃a b xs ys,x=.ref a∧y=.ref b∧dO K H a xs∧dO K H b ys∧xs.all fN=true∧ys.all fN=true∧Q (.bl (if neg then !g7 xs ys else g7 xs ys)) H
theorem EF{A:Around}{s:Shared}:∀{xs ys:List V} {us vs:List Value},Vals xs us→Vals ys vs→xs.all fN=true→ys.all fN=true→
  ∃e:Nat→Bool,(∀j (h1:j<us.length) (h2:j<vs.length),SeqAt.EqAt A s us[j] vs[j] (e j))∧((List.range (min us.length vs.length)).all e && us.length == vs.length)=g7 xs ys
 | [],[],_,_,.nil,.nil,_,_=>⟨fun _=>true,fun j h1=>absurd h1 (mK _),by simp [g7]⟩
 | [],_::_,_,_,.nil,.cons _ _,_,_=>⟨fun _=>true,fun j h1=>absurd h1 (mK _),by simp [g7]⟩
 | _::_,[],_,_,.cons _ _,.nil,_,_=>⟨fun _=>true,fun j _ h2=>absurd h2 (mK _),by simp [g7]⟩
 | x::xs,y::ys,u::us,v::vs,.cons r1 t1,.cons r2 t2,f1,f2=>by
  rw [tY,xW] at f1 f2;obtain ⟨e,h,q⟩:=EF (A:=A) (s:=s) t1 t2 f1.2 f2.2;refine ⟨fun j=>match j with | 0=>g6 x y | k+1=>e k,fun j h1 h2=>?_,?_⟩
  ·cases j with
   | zero=>exact yu r1 r2 f1.1 f2.1
   | succ k=>exact h k (by simpa using h1) (by simpa using h2)
  ·have em:min (u::us).length (v::vs).length=min us.length vs.length+1:=by simp only [e_];lia
   rw [em,DN,tY,List.all_map];show (g6 x y && (List.range (min us.length vs.length)).all e && ((us.length+1) == (vs.length+1)))=(g6 x y && g7 xs ys);rw [←q];have eb:((us.length+1) == (vs.length+1))=(us.length == vs.length):=by rw [ou,kA,kA];lia
   rw [eb,Bool.and_assoc]
theorem RX(hu:X.A.units<cLine):cf X (compareOp .Eq) (AZ X.K false):=by
 intro pins s σ H x y v u Q I rx ry h;obtain ⟨a,b,xs,ys,rfl,rfl,h1,h2,f1,f2,q⟩:=h;cases rx;cases ry;obtain ⟨us,r1,t1,_⟩:=I.tuple h1;obtain ⟨vs,r2,t2,_⟩:=I.tuple h2;obtain ⟨e,he,eq⟩:=EF (A:=X.A.in1) (s:=s) r1 r2 f1 f2;refine SeqAt.eq_tupleAt (e:=e) t1 t2 hu (fun j z1 z2=>by simpa using he j (by simpa using z1) (by simpa using z2)) ⟨.bl (g7 xs ys),H,I,?_,q⟩
 show _=Value.bool (g7 xs ys);rw [←eq];simp
theorem RY(hu:X.A.units<cLine):cf X (compareOp .NotEq) (AZ X.K true):=by
 intro pins s σ H x y v u Q I rx ry h;obtain ⟨a,b,xs,ys,rfl,rfl,h1,h2,f1,f2,q⟩:=h;cases rx;cases ry;obtain ⟨us,r1,t1,_⟩:=I.tuple h1;obtain ⟨vs,r2,t2,_⟩:=I.tuple h2;obtain ⟨e,he,eq⟩:=EF (A:=X.A.in1) (s:=s) r1 r2 f1 f2;refine SeqAt.RcNeAt.tuples (e:=e) t1 t2 hu (fun j z1 z2=>by simpa using he j (by simpa using z1) (by simpa using z2)) _ _ _ _ ⟨.bl (!g7 xs ys),H,I,?_,q⟩
 show _=Value.bool (!g7 xs ys);rw [←eq];simp
theorem boot_isinstance:bootBuiltins "isinstance"=some (.builtin "isinstance"):=by decide +kernel
theorem boot_abs:bootBuiltins "abs"=some (.builtin "abs"):=by decide +kernel
theorem boot_min:bootBuiltins "min"=some (.builtin "min"):=by decide +kernel
theorem boot_max:bootBuiltins "max"=some (.builtin "max"):=by decide +kernel
theorem boot_int:bootBuiltins "int"=some (.type "int"):=by decide +kernel
theorem boot_bool:bootBuiltins "bool"=some (.type "bool"):=by decide +kernel
theorem boot_tuple:bootBuiltins "tuple"=some (.type "tuple"):=by decide +kernel
theorem boot_list:bootBuiltins "list"=some (.type "list"):=by decide +kernel
end L2
namespace My
open PySem L2
def fz(n:Int):Bool:=(List.range 32).all fun e=>decide (e<2) || decide (n<(e:Int)*(e:Int)) || decide (n % (e:Int)≠0)
variable {n d:Int}
theorem JY(h2:n≤997)(hd:2≤d)(hq:d*d≤n)(hm:n % d=0):fz n=false:=by
 have hd2:d<32:=by
  by_cases h:d<32;·exact h
  ·have:32*32≤d*d:=Int.mul_le_mul (by lia) (by lia) (by lia) (by lia)
   lia
 obtain ⟨k,rfl⟩:∃k:Nat,d=(k:Int):=⟨d.toNat,by lia⟩
 cases e:fz n with
 | false=>rfl
 | true=>
  have z:=pX.mp e k (e8.mpr (by lia))
  simp only [Bool.or_eq_true,decide_eq_true_eq] at z;rcases z with (z | z) | z;·lia
  ·lia
  ·exact absurd hm z
theorem RZ(hq:n<d*d)(hd:2≤d)(hm:∀e:Int,2≤e→e<d→n % e≠0):fz n=true:=by
 refine pX.mpr fun k _=>?_;simp only [Bool.or_eq_true,decide_eq_true_eq];by_cases h1:k<2;·exact .inl (.inl h1)
 ·by_cases h2:n<(k:Int)*(k:Int)
  ·exact .inl (.inr h2)
  ·refine .inr (hm k (by lia) ?_)
   by_cases h3:(k:Int)<d;·exact h3
   ·have:d*d≤(k:Int)*(k:Int):=Int.mul_le_mul (by lia) (by lia) (by lia) (by lia)
    lia
inductive Td where
 | a (w:Str)
 | b (w:Str) (n:Int)
def Td.vs:Td→List V
 | .a w=>[.str w]
 | .b w n=>[.str w,.int n]
def Td.yI:Td→Bool
 | .a w=>decide (w="fractions")
 | .b _ _=>false
def Td.j6:Td→Bool
 | .a _=>false
 | .b w n=>decide (w="wheel") && (decide (2≤n) && decide (n≤997) && fz n)
def Td.good(d:Td):Bool:=d.yI || d.j6
def Td.prime:Td→V
 | .a _=>.aI
 | .b _ n=>.int n
end My
namespace L2
open PySem PySem.Spec PyProof.Rows
abbrev Cx.bF (X:Cx) (N:List Str) (scope:Scope) (cl:List (Str×Addr)) (s₃:Shared) (H₃:Hp) (fp:List Addr):Cx:=
 {X with N:=N,s₀:=s₃,H₀:=H₃,env:=compEnvC scope cl s₃.heap.objs.size X.env,outer:=X.stack,stack:=X.stack,ex:=fp,fn:=fun _=>false,pn:=[],xe:=fun _ _=>False}
inductive j7 (X:Cx):List Expr→TT→Prop where
 | nil:j7 X [] (fun _ H Q=>Q true H)
 | one {c:Expr} {t:TT} (h:PT X c t):j7 X [c] t
def jr(wi:TI)(ρ:St→St)(tt:TT)(te:TE):TE:=fun σ H Q=>wi σ H fun J H1=>∀D,H1 D=none→∃W:Nat→Nat→List V→Hp→Prop,(∃m,W 0 m [] (upd H1 D (.lst []))) ∧
 ∀i m ys Hc,W i m ys Hc→Hc D=some (.lst ys)∧((J.stop i Hc∧Q (.ref D) Hc)∨(J.go i Hc∧∀x H',J.eO i Hc x H'→tt (some x::ρ σ) H' fun b H2=>
  if b=true then te (some x::ρ σ) H2 fun y H3=>H3 D=some (.lst ys)∧ys.length<sizeLine∧∃m',m'<m∧W (i+1) m' (ys++[y]) (upd H3 D (.lst (ys++[y]))) else ∃m',m'<m∧W (i+1) m' ys H2))
section
variable {X:Cx} {N:List Str} {scope:Scope} {cl:List (Str×Addr)} {x:Str} {px pos:Pos} {iter elt:Expr} {ifs:List Expr} {wi:TI} {ρ:St→St} {tt:TT} {te:TE}
structure EG (X:Cx) (N:List Str) (scope:Scope) (cl:List (Str×Addr)) (x:Str) (ρ:St→St):Prop where
 qz:closureFor scope X.env=pure cl
 kind:scope.kind=.function
 yJ:∀y∈scope.names,y.2≠.cell
 names:∀y∈scope.names,y.2=.local→scope.names.lookup y.1=some .local
 sub:∀p∈cl,X.env.cells.lookup p.1=some p.2
 has:∀y,((relabel scope X.env).names.lookup y=some .cell∨(relabel scope X.env).names.lookup y=some .free)→∃c,cl.lookup y=some c
 n0:N[0]?=some x
 nd:N.Nodup
 hx:scope.names.lookup x=some .local
 qA:∀(σ:St) (j:Nat) (v:V),(ρ σ)[j]?=some (some v)→∃(i:Nat) (y:Str),N[j+1]?=some y∧X.N[i]?=some y∧σ[i]?=some (some v)∧mS X.env.scope y∧(X.env.kindOf y=some .cell∨X.env.kindOf y=some .free)∧((relabel scope X.env).names.lookup y=some .cell∨(relabel scope X.env).names.lookup y=some .free)
 len:∀σ:St,σ.length=X.N.length→(ρ σ).length+1=N.length
theorem JZ{names:List (Str×NameKind)}(h:(names.all fun q=>(q.2 != .cell && q.2 != .free) || (cl.lookup q.1).isSome)=true) :
  ∀y,(names.lookup y=some .cell∨names.lookup y=some .free)→∃c,cl.lookup y=some c:=fun y hy=>by
 have key:∀k:NameKind,(k != .cell && k != .free)=false→names.lookup y=some k→∃c,cl.lookup y=some c:=fun k hk e=>by have z:=pX.mp h (y,k) (jP e);rw [hk,x4] at z;exact DL.mp z
 rcases hy with e | e;·exact key .cell rfl e
 ·exact key .free rfl e
theorem join_some{o:Option (Option V)}{v:V}(h:some o.join=some (some v)):o=some (some v):=by
 cases o with
 | none=>cases h
 | some o=>cases h;rfl
def A0(X:Cx)(sc:Scope):List Str→List Nat→Prop
 | n::ns,i::is=>(X.N[i]?=some n∧mS X.env.scope n∧(X.env.kindOf n=some .cell∨X.env.kindOf n=some .free)∧((relabel sc X.env).names.lookup n=some .cell∨(relabel sc X.env).names.lookup n=some .free))∧A0 X sc ns is
 | _,[]=>True
 | [],_::_=>False
theorem EH{X:Cx}{sc:Scope}:∀{ns:List Str} {is:List Nat},A0 X sc ns is→∀(σ:St) (j:Nat) (v:V),(is.map fun i=>σ[i]?.join)[j]?=some (some v)→∃(i:Nat) (n:Str),ns[j]?=some n∧X.N[i]?=some n∧σ[i]?=some (some v)∧mS X.env.scope n∧(X.env.kindOf n=some .cell∨X.env.kindOf n=some .free)∧((relabel sc X.env).names.lookup n=some .cell∨(relabel sc X.env).names.lookup n=some .free)
 | _,[],_,_,_,_,e=>by cases e
 | [],_::_,h,_,_,_,_=>h.elim
 | n::_,i::_,h,_,0,_,e=>⟨i,n,rfl,h.1.1,join_some e,h.1.2⟩
 | _::_,_::_,h,σ,j+1,v,e=>EH h.2 σ j v e
theorem eV(is:List Nat)(h1:closureFor scope X.env=pure cl)(h:A0 X scope N.tail is:=by repeat' first | exact True.intro | refine And.intro ⟨rfl,Or.inr (Or.inl rfl),.inl rfl,.inl rfl⟩ ?_)(h2:scope.kind=.function:=by rfl)(h3:∀y∈scope.names,y.2≠.cell:=by decide +kernel)(h4:∀y∈scope.names,y.2=.local→scope.names.lookup y.1=some .local:=by decide +kernel)(h5:∀p∈cl,X.env.cells.lookup p.1=some p.2:=by repeat' first | exact Ad _ | refine t6.mpr ⟨rfl,?_⟩)(h6:((relabel scope X.env).names.all fun q=>(q.2 != .cell && q.2 != .free) || (cl.lookup q.1).isSome)=true:=by rfl)(h7:N[0]?=some x:=by rfl)(h8:N.Nodup:=by decide +kernel)(h9:scope.names.lookup x=some .local:=by rfl)(hr:∀σ:St,ρ σ=is.map fun i=>σ[i]?.join:=by exact fun _=>rfl)(hl:is.length+1=N.length:=by rfl):EG X N scope cl x ρ:=
 ⟨h1,h2,h3,h4,h5,JZ h6,h7,h8,h9,fun σ j v e=>by rw [hr] at e;rw [←List.getElem?_tail];exact EH h σ j v e,fun σ _=>by rw [hr,aX];exact hl⟩
theorem j8(B:EG X N scope cl x ρ)(hc:X.calm=true)(hi:PI X (.Name x px) iter wi)(ht:∀s₃ H₃ fp,j7 (X.bF N scope cl s₃ H₃ fp) ifs tt)(he:∀s₃ H₃ fp,PE (X.bF N scope cl s₃ H₃ fp) elt te)
  (hs:∀x,foldedSetIterable iter X.env x=pure x:=by intro _;rfl):PE X (.ListComp elt [⟨.Name x px,iter,ifs,0⟩] scope pos) (jr wi ρ tt te):=by
 intro pins s σ H Q I h
 rw [eval_ListComp]
 refine x5 (use:=none) rfl hs B.qz B.kind B.names (aO (hi pins s σ H _ I h) fun v s1 h1=>aO h1 fun qk s2 h2=>?_)
 obtain ⟨it,fp,tn,J,H2,rfl,I2,T,fm,f2,q2⟩:=h2
 have nD:H2 s2.heap.objs.size=none:=I2.az.fresh (aN _)
 obtain ⟨W,⟨m0,w0⟩,turn⟩:=q2 _ nD
 refine tV (Ae B.yJ (by intro y hy;simp at hy) (fun h₁ fA fY=>?_) B.kind)
 dsimp only at fA fY ⊢
 generalize hD:s2.heap.objs.size=D at nD w0 turn fA fY ⊢
 generalize fZ:({s2 with heap:=s2.heap.push {cls:=.type "list",dict:=none,data:=.seq ([]:List Value).toArray}}:Shared)=s3
 have I3:Inv X pins σ (upd H2 D (.lst [])) s3:=by
  subst hD fZ
  exact I2.laid (t':=s2.toks) (fun b u e=>cz _ e) (aN _) ⟨cn _,[],_,.nil,fH _ rfl⟩
 have e3:s3.heap=s2.heap.push {cls:=.type "list",dict:=none,data:=.seq ([]:List Value).toArray}:=by rw [←fZ]
 have dS:∀b o,s2.heap.get? b=some o→s3.heap.get? b=some o:=fun b o e=>by rw [e3];exact cz _ e
 rw [←e3] at fA fY ⊢
 have below:∀b o,s3.heap.get? b=some o→b≠s3.heap.objs.size:=fun b o e=>d5 (bU e)
 have cK:∀b o,s3.heap.get? b=some o→h₁.get? b=some o:=fun b o e=>fY.extBut b o (below b o e) (cz _ e)
 have fO:∀b∈fp,∃o,s2.heap.get? b=some o∧∀v,o.data≠.cell v:=T.obj _ _ fm
 have m_:∀b∈fp,b≠D:=fun b hb z=>by
  obtain ⟨o,e,_⟩:=fO b hb
  rw [z,←hD] at e
  exact absurd (bU e) (gJ _)
 have cu:∀y c,cl.lookup y=some c→X.env.cells.lookup y=some c:=fun y c e=>B.sub (y,c) (jP e)
 have ng:=I3.qf
 have dH:(X.bF N scope cl s3 (upd H2 D (.lst [])) fp).Ok:=by
  refine ⟨I.ok.mod,B.kind,I.ok.glob,I.ok.blt,aN _,fun a b c e1 e2=>I.ok.inj a b c (cu a c e1) (cu b c e2),fun y hy=>B.has y hy,(fun _ _ z _=>absurd z de),(fun _=>I.ok.hd hc),I.ok.frames,.inl rfl,fun b hb=>⟨?_,fun y c e z=>?_⟩,fun b o e=>?_,aQ I.ok.gM I3.sz,fun b o e hb=>?_,fun b hb z=>?_,I3.stack,ng⟩
  ·obtain ⟨o,e,_⟩:=fO b hb
   exact below b o (dS b o e)
  ·exact (f2 b hb).2.2.2.2.1 y c (cu y c e) z
  ·exact I3.bs b o e
  ·rcases (f2 b hb).2.2.2.1 with z | z
   ·exact I.ok.mT b o e z
   ·exact absurd (dZ (bU e) (aQ I.ok.gM z)) (gJ _)
  ·rcases dy.mp (I3.qe b z) with z | z
   ·exact (f2 b hb).2.1 z
   ·exact (f2 b hb).2.2.1 z
 have IB:∀tk:Nat,Inv (X.bF N scope cl s3 (upd H2 D (.lst [])) fp) [] (none::ρ σ) (upd H2 D (.lst [])) {s3 with heap:=h₁,toks:=tk}:=fun tk=>by
  refine ⟨dH,rfl,I3.bare,Un.kept cK,⟨_,fA,fun j y v e1 e2 e3=>?_⟩,fun y c e=>?_,?_,fun y c e=>I3.iK y c (cu y c e),(fun p hp=>nomatch hp),I3.az.kept cK,?_⟩
  ·cases j with
   | zero=>cases e2
   | succ j=>
    obtain ⟨i,y',a1,a2,a3,a4,a5,a6⟩:=B.qA σ j v e2
    have lZ:N[j+1]?=some y:=e1
    rw [lZ] at a1
    cases a1
    obtain ⟨m,hn,hl⟩:=I3.loc
    obtain ⟨u,r,l⟩:=hl i y v a2 a3 a4
    refine ⟨u,r,.inr ⟨a6,?_⟩⟩
    obtain ⟨c,ec⟩:=B.has y a6
    rcases l with ⟨k,_⟩ | ⟨_,c',iO,z⟩
    ·rcases a5 with q | q <;> (rw [k] at q;cases q)
    ·have:=cu y c ec
     rw [this] at iO
     cases iO
     obtain ⟨o,ho,hd⟩:=z
     exact ⟨c,ec,o,cK _ _ ho,hd⟩
  ·obtain ⟨v,o,ho,hd⟩:=I3.cell y c (cu y c e)
   exact ⟨v,o,cK _ _ ho,hd⟩
  ·exact I3.az.fresh (aN _)
  ·show (none::ρ σ).length=N.length
   rw [e_]
   exact B.len σ I.len
 have fin:∀{σ':St} {H':Hp} {s':Shared},Inv (X.bF N scope cl s3 (upd H2 D (.lst [])) fp) [] σ' H' s'→Q (.ref D) H'→compPost (model X.prog X.w) X.A X.xe none (EP X pins σ Q) (.ref D) s3.heap.objs.size (.ok .next) s':=fun{σ' H' s'} J q=>by
  obtain ⟨m,hn,_⟩:=J.loc
  refine ⟨m,hn,fun h' eG=>⟨.ref D,H',?_,rfl,q⟩⟩
  have old:∀b o,s3.heap.get? b=some o→b≠s3.heap.objs.size:=below
  have u1:Un (cG X.stack) fp (upd H2 D (.lst [])) H' s3.heap h':=by
   refine ⟨fun b o e n hb hx=>?_,fun b o e n hb hx=>?_,J.base.free,fun b o e hx=>?_,J.base.gK,J.base.gA,J.base.gL⟩
   ·exact (eG.2 b (old b o e)).trans (J.base.keep b o e n hb hx)
   ·obtain ⟨sl,z⟩:=J.base.slot b o e n hb hx
    exact ⟨sl,(eG.2 b (old b o e)).trans z⟩
   ·obtain ⟨o',z⟩:=J.base.there b o e hx
    exact ⟨o',(eG.2 b (old b o e)).trans z⟩
  have ni:cA X.prog X.w H' h':=fun b u e=>by
   refine (J.az b u e).jc (fun c v hc z=>(eG.2 c fun y=>?_).trans z) (fun _ z=>z) fun _ _ z=>z
   have fr:=J.free
   have y':c=s3.heap.objs.size:=y
   rcases hc with hc | hc
   ·rw [←hc,y'] at e
    exact absurd (fr.symm.trans e) (by simp)
   ·rw [y'] at hc
    exact absurd (fr.symm.trans hc) (by simp)
  refine I3.lO (s':={s' with heap:=h'}) (ch:=fp) (J.os) u1 ni J.bare fun b hb=>?_
  obtain ⟨g0,g1,g2,g3,g4,g5⟩:=f2 b hb
  exact ⟨g3,g1,g4,g5⟩
 have eP:∀{H':Hp},(∀b∈fp,H' b=none)→∀b∈fp,kK (X.bF N scope cl s3 (upd H2 D (.lst [])) fp) [] H' b:=fun hn b hb=>by
  refine ⟨hn b hb,?_,?_,.inl hb,fun y c e z=>(f2 b hb).2.2.2.2.1 y c (cu y c e) z,fun p hp=>nomatch hp⟩
  ·obtain ⟨o,e,_⟩:=fO b hb
   exact below b o (dS b o e)
  ·exact dH.mU b hb
 have loop:∀tk:Nat,codeAny (model X.prog X.w) X.A (.compLoop (.ListComp elt [⟨.Name x px,iter,ifs,0⟩] scope pos) 0 (.ref it) (.ref D) (compEnvC scope cl s3.heap.objs.size X.env))
   (compPost (model X.prog X.w) X.A X.xe none (EP X pins σ Q) (.ref D) s3.heap.objs.size) {s3 with heap:=h₁,toks:=tk}:=fun tk=>by
  refine DO (fun n s'=>∃i ys o H',Inv (X.bF N scope cl s3 (upd H2 D (.lst [])) fp) [] (o::ρ σ) H' s'∧tn i s'.heap∧(∀b∈fp,H' b=none)∧W i n ys H') ?_ m0
   ⟨0,[],none,_,IB tk,T.keep _ _ _ fm fun b hb o e=>cK _ _ (dS _ _ e),fun b hb=>by rw [aJ (m_ b hb)];exact (f2 b hb).1,w0⟩
  rintro n s4 ⟨i,ys,o,H4,I4,iP,iQ,w4⟩
  obtain ⟨A1,nk⟩:=turn i n ys H4 w4
  rcases nk with ⟨stop,qn⟩ | ⟨go,step⟩
  ·refine bW (T.done (X.bF N scope cl s3 (upd H2 D (.lst [])) fp) rfl rfl rfl hc i [] s4 _ H4 (fun _ _=>False) I4 (eP iQ) iP stop) (fun r s5 ⟨hr,I5⟩=>?_) fun _ _ z=>z.elim
   subst hr
   exact fin I5 qn
  ·refine bW (T.item (X.bF N scope cl s3 (upd H2 D (.lst [])) fp) rfl rfl rfl hc i [] s4 _ H4 (fun _ _=>False) I4 (eP iQ) iP go) (fun r s5 ⟨u,hr,h5⟩=>?_) fun _ _ z=>z.elim
   subst hr
   have z:letOwnedTupleGo (.Name x px) (.ref it) u=pure ():=rfl
   rw [z] at h5
   show wpAny _ _ ((pure ():Sem Unit) >>= fun _=>assign (.Name x px) (compEnvC scope cl s3.heap.objs.size X.env) u) _ _ s5
   refine b7 (bW h5 (fun _ s5 ⟨y,H5,I5,r5,y5,eQ,kL⟩=>?_) fun _ _ z=>z.elim)
   have kM:=I5.pinned (eP kL) (T.obj _ _ eQ)
   have pg:PG (X.bF N scope cl s3 (upd H2 D (.lst [])) fp) (.Name x px) (bR 0):=bP (i:=0) B.nd B.n0 (.inl (jR B.hx)) (.inr (jR B.hx))
   have again:∀{σ7:St} {H7:Hp} {s7:Shared},Inv (X.bF N scope cl s3 (upd H2 D (.lst [])) fp) ([]++iL fp s5.heap) σ7 H7 s7→Inv (X.bF N scope cl s3 (upd H2 D (.lst [])) fp) [] σ7 H7 s7∧tn (i+1) s7.heap∧∀b∈fp,H7 b=none:=fun{σ7 H7 s7} I7=>by
    refine ⟨I7.oI,T.keep _ _ _ eQ fun b hb o e=>(I7.pin (b,o) (cT _ (cT _ (jW hb e)))).1,fun b hb=>?_⟩
    obtain ⟨o,e,d⟩:=T.obj _ _ eQ b hb
    exact (I7.pin (b,o) (cT _ (cT _ (jW hb e)))).2.1
   refine bW (pg _ s5 _ H5 y u (fun σ2 H6=>σ2=some y::ρ σ∧H6=H5) kM r5 ⟨rfl,rfl⟩) (fun _ s6 ⟨σ6,H6,I6,q6⟩=>?_) fun _ _ z=>z.elim
   obtain ⟨rfl,rfl⟩:=q6
   have nB:=step y _ y5
   have tests:∀{f9:TT},j7 (X.bF N scope cl s3 (upd H2 D (.lst [])) fp) ifs f9→∀{R:Bool→Hp→Prop},f9 (some y::ρ σ) H6 R→wpAny (model X.prog X.w) X.A
     (forIn ifs true fun c r=>if r=true then do let ok ←isTrue c (compEnvC scope cl s3.heap.objs.size X.env) (eval c (compEnvC scope cl s3.heap.objs.size X.env));pure (ForInStep.yield ok) else pure (ForInStep.yield r))
     (fun ok s7=>∃H7,Inv (X.bF N scope cl s3 (upd H2 D (.lst [])) fp) ([]++iL fp s5.heap) (some y::ρ σ) H7 s7∧R ok H7) (fun _ _=>False) s6:=fun{f9} p {R} hR=>by
    cases p with
    | nil=>exact x8 ⟨_,I6,hR⟩
    | one p=>exact x9 (p _ s6 _ _ _ I6 hR)
   refine bW (tests (ht s3 _ fp) nB) (fun ok s7 ⟨H7,I7,q7⟩=>?_) fun _ _ z=>z.elim
   cases ok with
   | false=>
    obtain ⟨m',dB,w7⟩:=q7
    obtain ⟨a1,a2,a3⟩:=again I7
    exact ⟨m',dB,i+1,ys,_,H7,a1,a2,a3,w7⟩
   | true=>
    refine bW (he s3 _ fp _ s7 _ H7 _ I7 q7) (fun ev s8 ⟨z,H8,I8,r8,nC,hz,m',dB,w8⟩=>?_) fun _ _ z=>z.elim
    refine bW (iM (X:=X.bF N scope cl s3 (upd H2 D (.lst [])) fp) _ s8 _ H8 (.ref D) [z] (.ref D) [ev] (fun _ H9=>H9=upd H8 D (.lst (ys++[z]))) I8 rfl (.cons r8 .nil) ⟨D,ys,z,rfl,rfl,nC,hz,rfl⟩) (fun _ s9 ⟨_,H9,I9,_,q9⟩=>?_) fun _ _ z=>z.elim
    subst q9
    obtain ⟨a1,a2,a3⟩:=again I9
    exact ⟨m',dB,i+1,ys++[z],_,_,a1,a2,a3,w8⟩
 have start:=loop (s3.toks+([]:List (Str×Value)).length)
 have es:({s3 with heap:=h₁,toks:=s3.toks+([]:List (Str×Value)).length}:Shared)={s2 with heap:=h₁,toks:=s2.toks+([]:List (Str×Value)).length}:=by rw [←fZ]
 rw [es] at start
 exact x_ start (T.self _ 0 _ _ _ (T.keep _ _ _ fm fun b hb o e=>cK _ _ (dS _ _ e)) start)
end
def eK(i:Int):Prop:=i.natAbs<2 ^ 2048
variable {i:Int}
theorem eK.log(h:eK i):i.natAbs.log2<2048:=by
 by_cases z:i.natAbs=0;·rw [z];decide
 ·exact (Nat.log2_lt z).mpr h
def EI(i j:Int):Prop:=j≠0∧eK j
def EJ(i j:Int):Prop:=eK i∧eK j
theorem EJ.ok{j:Int}(h:EJ i j):IntMulOk i j:=by
 have b:∀{k:Int},eK k→Builtin.Int.intBits k≤2048:=fun{k} hk=>by
  have z:=hk.log;unfold Builtin.Int.intBits
  split <;> lia
 unfold IntMulOk;have e:Builtin.Int.intTooBig ((Builtin.Int.intBits i:Int)+(Builtin.Int.intBits j:Int))=false:=by
  unfold Builtin.Int.intTooBig;have h1:=b h.1;have h2:=b h.2;have h3:(4096:Int)≤bitsLine:=by decide +kernel
  exact dc (by lia)
 intro z;rw [xW] at z;have z2:=z.2;rw [show Builtin.Int.intTooBig ((Builtin.Int.intBits i:Int)+(Builtin.Int.intBits j:Int))=false from e] at z2;cases z2
theorem J0:∀{xs:List V} {us:List Value},xs.length=us.length→(∀(i:Nat) (x:V) (u:Value),xs[i]?=some x→us[i]?=some u→RelV x u)→Vals xs us
 | [],[],_,_=>.nil
 | [],_::_,h,_=>by simp at h
 | _::_,[],h,_=>by simp at h
 | x::xs,u::us,h,k=>.cons (k 0 x u rfl rfl) (J0 (by simpa using h) fun i a b h1 h2=>k (i+1) a b (by simpa using h1) (by simpa using h2))
section
variable {X:Cx}
theorem A2:cf X (binaryOp .FloorDiv) (rI EI fun i j=>.int (i.fdiv j)):=ql fun _ _ _ _ _ _ _ hc q=>floordiv_int hc.1 q (.inl (PyProof.noPylong_of_log2 (dZ hc.2.log (by decide))))
theorem gE:cf X (binaryOp .Mult) (rI EJ fun i j=>.int (i*j)):=ql fun _ _ _ _ _ _ _ hc q=>mul_int q hc.ok
def R0(i j:Int):Prop:=0<j∧eK j
theorem nG:cf X (binaryOp .FloorDiv) (rI R0 fun i j=>.int (i / j)):=ql fun i j _ _ _ _ _ hc q=>floordiv_int (ya hc.1) (by rw [Int.fdiv_eq_ediv_of_nonneg i (Int.le_of_lt hc.1)];exact q) (.inl (PyProof.noPylong_of_log2 (dZ hc.2.log (by decide))))
def allR(K:aC):List V→Hp→VK→Prop:=fun xs H Q=>∃(p:Addr) (bs:List Bool),xs=[.ref p]∧b5 K H p (bs.map V.bl)∧Q (.bl (bs.all id)) H
theorem R3{K:aC}(hc:X.calm=true)(hK:X.K=K:=by rfl):gO X (.builtin "all") (allR K):=by
 intro pins s σ H xs us Q I r h;subst hK;obtain ⟨p,bs,rfl,hq,q⟩:=h;obtain ⟨u,rfl,ru⟩:=vals1 r;cases ru;obtain ⟨ai,rv,pl,hz⟩:=I.list hq;have iR:p≠s.heap.objs.size:=by obtain ⟨o,e,_⟩:=pl.isList;exact d5 (bU e)
 have hl:ai.length=bs.length:=by rw [←rv.length,aX]
 refine call_all_walk (wpAny_pyIter_list pl.isList ?_);refine ⟨s.heap.objs.size,_,_,_,_,_,fun i=>bs.getD i true,rfl,Walks.list (A:=X.A.in1) (show X.A.in1.handled=none from I.ok.hd hc) s.heap.objs.size p iR ai.toArray,⟨⟨_,fH _ rfl,rfl,rfl⟩,pl.isList.push _⟩,fun i v s' Q' E' hv cQ=>?_,fun h' tk hk=>?_⟩
 ·have kN:ai[i]?=some v:=by simpa using hv
  cases eb:bs[i]? with
  | none=>
   have:=rv.none_of (i:=i) (by rw [cC,eb];rfl)
   rw [this] at kN;cases kN
  | some b=>
   obtain ⟨u,hu,ru⟩:=rv.get (i:=i) (x:=V.bl b) (by rw [cC,eb];rfl)
   rw [hu] at kN;cases kN;cases ru;have e:bs.getD i true=b:=by rw [i6,eb];rfl
   have qB:Q' (bs.getD i true) s':=cQ;rw [e] at qB;exact oq qB
 ·refine ⟨.bl (bs.all id),H,I.kept fun b o e=>hk b o (fun z=>?_) (cz _ e),?_,q⟩
  ·exact absurd (bU e) (by rw [dA.mp z];exact gJ _)
  ·show Value.bool _=Value.bool _
   congr 1
   rw [cU,hl];clear hk q rv pl hz hl hq
   induction bs with
   | nil=>rfl
   | cons b bs ih=>rw [e_,DN,tY,List.all_map,tY];show (b && (List.range bs.length).all fun i=>bs.getD i true)=(b && bs.all id);rw [ih]
def R4:List V→Hp→VK→Prop:=fun xs H Q=>∃j:Int,xs=[.int j]∧∀p,H p=none→Q (.ref p) (upd H p (.qa 0 j))
theorem R5:gO X (.type "range") R4:=by intro pins s σ H xs us Q I r h;obtain ⟨j,rfl,q⟩:=h;obtain ⟨u,rfl,ru⟩:=vals1 r;obtain ⟨t,rfl⟩:=ru;refine call_range_1 ⟨.ref s.heap.objs.size,_,I.laid (o:=.qa 0 j) (fun b o e=>cz _ e) (aN _) ⟨_,_,_,fH _ rfl⟩,rfl,q _ (I.az.fresh (aN _))⟩
def uy(n:Nat):List V:=(List.range n).map fun i:Nat=>V.int (i:Int)
def R6:List V→Hp→VK→Prop:=fun xs H Q=>∃p n,xs=[.ref p]∧H p=some (.qa 0 (n:Nat))∧n≤10000∧∀l,H l=none→Q (.ref l) (upd H l (.lst (uy n)))
theorem R7(hc:X.calm=true):gO X (.type "list") R6:=by
 intro pins s σ H xs us Q I r h;obtain ⟨p,n,rfl,hp,hn,q⟩:=h;obtain ⟨u,rfl,ru⟩:=vals1 r;cases ru;obtain ⟨t,u,v,e⟩:=(show cP X.prog X.w H s.heap p (.qa 0 n) from I.az p _ hp);refine call_list_range (n:=n) (I.ok.hd hc) e (small_one (by lia) (by lia) (by lia) (by lia)) (by rw [rangeSize_one];split <;> lia) (by lia) fun h' tk acc c hk hD hit=>?_
 refine ⟨.ref s.heap.objs.size,_,I.laid (o:=.lst (uy n)) (fun b o e=>hk b o e) (aN _) ⟨?_,acc.toList,c,?_,?_⟩,rfl,q _ (I.az.fresh (aN _))⟩
 ·unfold uy
  rw [aX,cN];exact aQ hn (by decide)
 ·refine J0 ?_ fun i x u h1 h2=>?_
  ·unfold uy
   rw [aX,cN,Array.length_toList,hit.1]
  ·have qC:acc[i]?=some u:=by simpa using h2
   obtain ⟨uz,e'⟩:=hit.2 i u qC;unfold uy at h1;rw [cC] at h1;have hi:i<n:=by have z:=(Array.getElem?_eq_some_iff.mp qC).1;rw [hit.1] at z;exact z
   rw [i7 hi] at h1;cases h1;exact ⟨uz,by rw [e'];simp⟩
 ·rw [hD]
end
theorem boot_all:bootBuiltins "all"=some (.builtin "all"):=by decide +kernel
theorem R8:bootBuiltins "range"=some (.type "range"):=by decide +kernel
def EK:Expr→Bool
 | .Starred _ _=>false
 | _=>true
variable {e:Expr} {es:List Expr}
theorem R9{env:Env}(h:EK e=true):starEach (e::es) env=(false,eval e env)::starEach es env:=by cases e <;> first | rfl | cases h
theorem eW{X:Cx}{e:Expr}{es:List Expr}{te:TE}{t:TA}(hs:EK e=true)(ha:PE X e te)(hr:PA X es t):PA X (e::es) (AN te t):=
 QJ ha hr (R9 hs)
variable {X:Cx} {te:TE}
theorem aa{t:TA}(ha:PE X e te)(hr:PA X es t)(hs:EK e=true:=by rfl):PA X (e::es) (AN te t):=eW hs ha hr
theorem A3{X:Cx}{pos:Pos}{i:Nat}{x:Str}{e:Expr}{te:TE}{pos':Pos}(hs:swapsWith e (some (.Name x pos')) pos.line X.env=pure false)(hf:X.fn x=true∨X.env.scope.names.lookup x=some .local)(hN:X.N.Nodup)(hi:X.N[i]?=some x)(hx:Loc X.env.scope x)(he:PE X e te) :
  PS X (.Assign [.Name x pos'] e pos) (mY te (bR i)):=P2 hN hi hx he hs hf
variable {pos pos':Pos} {x:Str}
theorem putL(i:Nat)(hN:X.N.Nodup)(he:PE X e te)(hs:swapsWith e (some (.Name x pos')) pos.line X.env=pure false:=by rfl)(hi:X.N[i]?=some x:=by rfl)(hx:X.env.scope.names.lookup x=some .local:=by rfl) :
  PS X (.Assign [.Name x pos'] e pos) (mY te (bR i)):=A3 hs (.inr hx) hN hi (.inl hx) he
theorem A4(i:Nat)(hN:X.N.Nodup)(he:PE X e te)(hs:swapsWith e (some (.Name x pos')) pos.line X.env=pure false:=by rfl)(hf:X.fn x=true∨X.env.scope.names.lookup x=some .local:=by first | exact .inl rfl | exact .inr rfl | assumption)(hi:X.N[i]?=some x:=by rfl)(hx:X.env.scope.names.lookup x=some .cell:=by rfl) :
  PS X (.Assign [.Name x pos'] e pos) (mY te (bR i)):=A3 hs hf hN hi (.inr hx) he
def R_:V→List V→Hp→VK→Prop:=fun x xs H Q=>∃i:Int,x=.int i∧xs=[]∧Q (.int ((Builtin.Int.intBits i:Nat):Int)) H
theorem Sa:AO X "int.bit_length" R_:=by intro pins s σ H x xs v us Q I rx rv h;obtain ⟨i,rfl,rfl,q⟩:=h;have qv:=rv.zero;subst qv;obtain ⟨t,rfl⟩:=rx;exact call_int_bit_length ⟨.int ((Builtin.Int.intBits i:Nat):Int),H,I.tok _,⟨_,rfl⟩,q⟩
theorem Sb(h:eK i):Builtin.Int.intBits i≤2048:=by
 have z:=h.log;unfold Builtin.Int.intBits
 split <;> lia
end L2
namespace My
open PySem L2
theorem EL(a b:Str):decide (V.str a=V.str b)=decide (a=b):=by
 by_cases h:a=b;·subst h;simp
 ·rw [dc h];exact dc fun e=>h (V.str.inj e)
theorem f_(a b:Int):decide (V.int a=V.int b)=decide (a=b):=by
 by_cases h:a=b;·subst h;simp
 ·rw [dc h];exact dc fun e=>h (V.int.inj e)
variable {K:aC}
theorem qD{T:String}:PySem.W.kitOne K (.type T) (.type T)=some true:=by unfold PySem.W.kitOne;rw [ar (Af _)]
variable {H:Hp}
theorem bf{p:Addr}{o:HO}(h:H p=none):af H (upd H p o):=fun b u e=>by rw [aJ (iJ e h)];exact e
theorem l4(v:V):([(("prime":Str),v)]:List (Str×V)).lookup ("prime":Str)=some v:=by simp [List.lookup]
inductive Any (H:Hp):V→Prop where
 | aI:Any H .aI
 | bl (b:Bool):Any H (.bl b)
 | int (i:Int):Any H (.int i)
 | str (x:Str):Any H (.str x)
 | lst {a:Addr} {xs:List V} (e:H a=some (.lst xs)):Any H (.ref a)
 | tup {a:Addr} {xs:List V} (e:H a=some (.tup xs)):Any H (.ref a)
 | ux {a:Addr} (e:H a=some (JW a)):Any H (.ref a)
def nH:V→Bool
 | .int _=>true
 | _=>false
def nJ:V→Bool
 | .bl _=>true
 | _=>false
def A5(H:Hp):V→Bool
 | .ref a=>(match H a with | some (.tup _)=>true | _=>false)
 | _=>false
variable {v:V}
theorem Any.AY(h:Any H v):∃T:String,yH K H v (.type T)∧PySem.W.kitOne K (.type T) (.type "int")=some (nH v || nJ v)∧PySem.W.kitOne K (.type T) (.type "bool")=some (nJ v) ∧
  PySem.W.kitOne K (.type T) (.type "tuple")=some (A5 H v):=by
 cases h with
 | aI=>exact ⟨"NoneType",.of .aI,rfl,rfl,rfl⟩
 | bl b=>exact ⟨"bool",.of (.bl b),rfl,rfl,rfl⟩
 | int i=>exact ⟨"int",.of (.int i),rfl,rfl,rfl⟩
 | str x=>exact ⟨"str",.of (.str x),rfl,rfl,rfl⟩
 | lst e=>exact ⟨"list",.of (.lst e),rfl,rfl,by unfold A5;dsimp only;rw [e];rfl⟩
 | tup e=>exact ⟨"tuple",.of (.tup e),rfl,rfl,by unfold A5;dsimp only;rw [e];rfl⟩
 | ux e=>exact ⟨"dict",.ux e,rfl,rfl,by unfold A5;dsimp only;rw [e];rfl⟩
theorem J1(h:nJ v=true):nH v=false:=by cases v <;> first | rfl | cases h
theorem oR{m:Str}(e:(m == ("prime":Str))=false):([(("prime":Str),v)]:List (Str×V)).lookup m=none:=by simp [List.lookup,e]
theorem Sd(m n:Nat):Nat.gcd n (m % n)=Nat.gcd m n:=by rw [Nat.gcd_comm n,←Nat.gcd_rec,Nat.gcd_comm]
theorem EM(a:Int):(if a<0 then -a else a)=(a.natAbs:Int):=by split <;> lia
def lowG(a b:Int):Int:=if b<0 then 0-(Int.gcd a b:Int) else (Int.gcd a b:Int)
variable {a b:Int}
theorem EN(h:b≠0):0<Int.gcd a b:=pY _ (lH.mpr h)
theorem Se(h:b≠0)(m:eK b):Int.gcd a b<2 ^ 2048:=jQ (Nat.gcd_le_right _ (lH.mpr h)) m
theorem Sf(h:b≠0)(m:eK b):EI 0 (lowG a b):=by
 have h1:=EN (a:=a) h;have h2:=Se (a:=a) h m;unfold lowG;refine ⟨by split <;> lia,?_⟩
 unfold eK
 split
 ·rw [show (0-(Int.gcd a b:Int)).natAbs=Int.gcd a b by lia];exact h2
 ·rw [yb];exact h2
theorem eK.of_lt{i:Int}(h1:-(10 ^ 70)<i)(h2:i<10 ^ 70):eK i:=by
 have h3:i.natAbs<2 ^ 240:=by lia
 exact dZ h3 (Nat.pow_le_pow_right (by decide) (by decide))
def J2:Sp:=fun vs H Q _=>∃v:V,vs=[v]∧Any H v∧Q (.bl (nH v)) H
def Sg:Sp:=fun vs H Q _=>∃a b:Int,vs=[.int a,.int b]∧eK b∧Q (.int (Int.gcd a b:Int)) H
def Sh:Sp:=fun vs H Q _=>∃n:Int,vs=[.int n]∧2≤n∧n≤997∧Q (.bl (fz n)) H
def Si:Sp:=fun vs H Q _=>∃(p:Addr) (d:Td),vs=[.ref p]∧H p=some (.tup d.vs)∧Q (.bl d.yI) H
def Sj:Sp:=fun vs H Q _=>∃(p:Addr) (d:Td),vs=[.ref p]∧H p=some (.tup d.vs)∧Q (.bl d.j6) H
def Sk(C N:Addr):Sp:=fun vs H Q E=>∃(x dx p:Addr) (d:Td),vs=[.ref x,.ref p]∧H x=some (.ins C dx [])∧H p=some (.tup d.vs) ∧
 (d.good=true→Q .aI (upd H x (.ins C dx [("prime",d.prime)])))∧(d.good=false→E (.ref N) none H)
def dU(C:Addr)(H:Hp)(x:Addr)(q:Int):Prop:=∃dx,H x=some (.ins C dx [("prime",if q=0 then .aI else .int q)])
variable {H':Hp} {q:Int}
theorem dU.mono{C:Addr}{x:Addr}(h:dU C H x q)(s:af H H'):dU C H' x q:=by obtain ⟨dx,e⟩:=h;exact ⟨dx,s _ _ e⟩
def A6(K:aC):Sp:=fun vs H Q _=>∃(a:Addr) (ns:List Int),vs=[.ref a]∧b5 K H a (ns.map V.int)∧ns.length≤63∧∀H',Q (.bl true) H'
theorem J3(xs:List V)(k:Nat):jk xs none (some (k:Int))=xs.take k:=by unfold jk;rw [HT.QV,HT.QW,List.drop_zero,Nat.sub_zero];rw [List.take_eq_take_iff];lia
variable {u:Int}
theorem uA{v:Int}(hu:0<u)(h:0<u*v):0<v:=by
 by_cases z:0<v;·exact z
 ·have y:=t8 (show v≤0 by lia) (show 0≤u by lia)
  rw [h_] at y;lia
theorem oS(h:∀d:Nat,(d:Int)∣a→(d:Int)∣b→d=1):Int.gcd a b=1:=h _ (kB ..) (jS ..)
variable {d:Nat}
theorem oT(h:Int.gcd a b=1)(h1:(d:Int)∣a)(h2:(d:Int)∣b):d=1:=by have z:(d:Int)∣((Int.gcd a b:Nat):Int):=Int.dvd_coe_gcd h1 h2;rw [h] at z;exact Nat.dvd_one.mp (Int.natCast_dvd_natCast.mp z)
variable {c:Int}
theorem qE(h:Int.gcd b c=1)(h1:(d:Int)∣b)(h2:(d:Int)∣a*c):(d:Int)∣a:=by
 have hc:Nat.Coprime d c.natAbs:=by have z:Nat.Coprime b.natAbs c.natAbs:=h;exact Nat.Coprime.coprime_dvd_left (Int.ofNat_dvd_left.mp h1) z
 have z:d∣a.natAbs*c.natAbs:=by rw [←dC];exact Int.ofNat_dvd_left.mp h2
 exact Int.ofNat_dvd_left.mpr (hc.dvd_of_dvd_mul_right z)
theorem uB(h1:Int.gcd a b=1)(h2:Int.gcd a c=1):Int.gcd a (b*c)=1:=by refine oS fun d x y=>?_;exact oT h1 x (qE (a:=b) (b:=a) (c:=c) h2 x y)
theorem iw(h:Int.gcd a b=1):Int.gcd b a=1:=by rw [Int.gcd_comm];exact h
theorem uC(h:Int.gcd a b=1)(h1:c∣a):Int.gcd c b=1:=oS fun d x y=>oT h (kD x h1) y
theorem yK(h:b≠0):Int.gcd (a / (Int.gcd a b:Int)) (b / (Int.gcd a b:Int))=1:=by have z:0<Int.gcd a b:=pY _ (lH.mpr h);exact Int.gcd_ediv_gcd_ediv_gcd z
structure cg (x m:Int):Prop where
 pos:1≤m
 gc:Int.gcd x m=1
variable {x m y n:Int}
theorem Sl(a:cg x m)(b:cg y n) :
  cg ((x / (Int.gcd x n:Int))*(y / (Int.gcd y m:Int))) ((m / (Int.gcd y m:Int))*(n / (Int.gcd x n:Int))) ∧
   (x / (Int.gcd x n:Int))*(y / (Int.gcd y m:Int))*(m*n)=x*y*((m / (Int.gcd y m:Int))*(n / (Int.gcd x n:Int))):=by
 have m0:=a.pos;have n0:=b.pos;have p1:0<Int.gcd x n:=pY _ (lH.mpr (by lia))
 have p2:0<Int.gcd y m:=pY _ (lH.mpr (by lia))
 have c1:=yK (a:=x) (b:=n) (by lia)
 have c2:=yK (a:=y) (b:=m) (by lia)
 obtain ⟨x',ex⟩:=kB (a:=x) (b:=n);obtain ⟨n',en⟩:=jS (a:=x) (b:=n);obtain ⟨y',ey⟩:=kB (a:=y) (b:=m);obtain ⟨m',em⟩:=jS (a:=y) (b:=m);have ac:=a.gc;have bc:=b.gc;generalize Int.gcd x n=g at *;generalize Int.gcd y m=k at *;have g0:(g:Int)≠0:=by lia
 have k0:(k:Int)≠0:=by lia
 have gx:x / (g:Int)=x':=by rw [ex];exact gW _ g0
 have gn:n / (g:Int)=n':=by rw [en];exact gW _ g0
 have gy:y / (k:Int)=y':=by rw [ey];exact gW _ k0
 have gm:m / (k:Int)=m':=by rw [em];exact gW _ k0
 rw [gx,gn] at c1;rw [gy,gm] at c2;rw [gx,gn,gy,gm];have mp:0<m':=by
  have z:0<(k:Int)*m':=by rw [←em];lia
  exact uA (by lia) z
 have np:0<n':=by
  have z:0<(g:Int)*n':=by rw [←en];lia
  exact uA (by lia) z
 have xm:Int.gcd x' m'=1:=uC (iw (uC (iw ac) ⟨k,by rw [em,dD]⟩)) ⟨g,by rw [ex,dD]⟩
 have yn:Int.gcd y' n'=1:=uC (iw (uC (iw bc) ⟨g,by rw [en,dD]⟩)) ⟨k,by rw [ey,dD]⟩
 refine ⟨⟨oB mp np,?_⟩,?_⟩;·exact uB (iw (uB (iw xm) (iw c2))) (iw (uB (iw c1) (iw yn)))
 ·rw [ex,en,ey,em]
  simp only [kG,dD,Ag]
theorem Sm(a:cg x m)(b:cg y n)(h:Int.gcd m n=1):cg (x*n+y*m) (m*n):=by
 have m0:=a.pos;have n0:=b.pos;refine ⟨oB (by lia) (by lia),uB (oS fun d h1 h2=>?_) (oS fun d h1 h2=>?_)⟩
 ·have z:(d:Int)∣x*n:=(Int.dvd_add_left (kD h2 (Ah ..))).mp h1
  exact oT a.gc (qE h h2 z) h2
 ·have z:(d:Int)∣y*m:=(Int.dvd_add_right (kD h2 (Ah ..))).mp h1
  exact oT b.gc (qE (iw h) h2 z) h2
theorem Sn(a:cg x m)(b:cg y n)(g k:Nat)(eg:g=Int.gcd m n)(top:Int)(et:top=x*(n / (g:Int))+y*(m / (g:Int)))(ek:k=Int.gcd top (g:Int)) :
  cg (top / (k:Int)) (m / (g:Int)*(n / (k:Int)))∧top / (k:Int)*(m*n)=(x*n+y*m)*(m / (g:Int)*(n / (k:Int))):=by
 have m0:=a.pos
 have n0:=b.pos
 have gp:0<g:=by rw [eg];exact pY _ (lH.mpr (by lia))
 have kp:0<k:=by rw [ek];exact pY _ (lH.mpr (by lia))
 have c1:=yK (a:=m) (b:=n) (by lia)
 have c2:=yK (a:=top) (b:=(g:Int)) (by lia)
 rw [←eg] at c1
 rw [←ek] at c2
 obtain ⟨m',em⟩:=kB (a:=m) (b:=n)
 obtain ⟨n',en⟩:=jS (a:=m) (b:=n)
 obtain ⟨t',e1⟩:=kB (a:=top) (b:=(g:Int))
 obtain ⟨g',e2⟩:=jS (a:=top) (b:=(g:Int))
 rw [←eg] at em en
 rw [←ek] at e1 e2
 have g0:(g:Int)≠0:=by lia
 have k0:(k:Int)≠0:=by lia
 have dm:m / (g:Int)=m':=by rw [em];exact gW _ g0
 have dn:n / (g:Int)=n':=by rw [en];exact gW _ g0
 have dt:top / (k:Int)=t':=by rw [e1];exact gW _ k0
 have dg:(g:Int) / (k:Int)=g':=by rw [e2];exact gW _ k0
 have dk:n / (k:Int)=g'*n':=by rw [en,e2,kG];exact gW _ k0
 rw [dm,dn] at c1 et
 rw [dt,dg] at c2
 rw [dt,dm,dk]
 have pos:∀{u v:Int},0<u→0<u*v→0<v:=fun hu hz=>uA hu hz
 have mp:0<m':=pos (u:=(g:Int)) (by lia) (by rw [←em];lia)
 have np:0<n':=pos (u:=(g:Int)) (by lia) (by rw [←en];lia)
 have So:0<g':=pos (u:=(k:Int)) (by lia) (by rw [←e2];lia)
 have tm:Int.gcd top m'=1:=oS fun d h1 h2=>by
  rw [et] at h1
  have z:(d:Int)∣x*n':=(Int.dvd_add_left (kD h2 (Ah ..))).mp h1
  exact oT a.gc (qE c1 h2 z) (kD h2 ⟨g,by rw [em,dD]⟩)
 have tn:Int.gcd top n'=1:=oS fun d h1 h2=>by
  rw [et] at h1
  have z:(d:Int)∣y*m':=(Int.dvd_add_right (kD h2 (Ah ..))).mp h1
  exact oT b.gc (qE (iw c1) h2 z) (kD h2 ⟨g,by rw [en,dD]⟩)
 have tt:t'∣top:=⟨k,by rw [e1,dD]⟩
 refine ⟨⟨oB mp (oB So np),uB (uC tm tt) (uB c2 (uC tn tt))⟩,?_⟩
 have q:(k:Int)*t'=x*n'+y*m':=by rw [←e1,et]
 have l:t'*(m*n)=(k:Int)*t'*(m'*(g'*n')*(g:Int)):=by
  rw [em,en]
  conv=>lhs;rw [show (g:Int)*n'=(k:Int)*g'*n' by rw [←e2]]
  simp only [kG,dD,Ag]
 rw [l,q,em,en]
 simp only [Int.add_mul,kG,dD,Ag]
def b8(x:Int):Prop:=x.natAbs≤10 ^ 300
theorem Sq:(10:Nat) ^ 300<2 ^ 2048:=by decide +kernel
theorem b8.mid(h:b8 x):eK x:=jQ h Sq
theorem b8.over{g:Int}(h:b8 x):b8 (x / g):=aQ (DP x g) h
theorem b8.neg(h:b8 x):b8 (-x):=by unfold b8;rw [yc];exact h
theorem b8.gcd(h:b8 y)(z:y≠0):b8 (Int.gcd x y:Int):=by unfold b8;rw [yb];exact aQ (Nat.gcd_le_right _ (lH.mpr z)) h
theorem A7(z:y≠0):(0:Int)<(Int.gcd x y:Int):=by have:=EN (a:=x) z;lia
def Sr:Sp:=fun vs H Q _=>∃(p q:Addr) (x m y n:Int),vs=[.ref p,.ref q]∧H p=some (.tup [.int x,.int m])∧H q=some (.tup [.int y,.int n])∧cg x m∧cg y n∧b8 x∧b8 m∧b8 y∧b8 n ∧
 ∀(r:Addr) (H':Hp) (u d:Int),af H H'→H' r=some (.tup [.int u,.int d])→cg u d→u*(m*n)=(x*n+y*m)*d→Q (.ref r) H'
def Ss:Sp:=fun vs H Q _=>∃(p q:Addr) (x m y n:Int),vs=[.ref p,.ref q]∧H p=some (.tup [.int x,.int m])∧H q=some (.tup [.int y,.int n])∧cg x m∧cg y n∧b8 x∧b8 m∧b8 y∧b8 n ∧
 ∀(r:Addr) (H':Hp) (u d:Int),af H H'→H' r=some (.tup [.int u,.int d])→cg u d→u*(m*n)=(x*n-y*m)*d→Q (.ref r) H'
def Su:Sp:=fun vs H Q _=>∃(p q:Addr) (x m y n:Int),vs=[.ref p,.ref q]∧H p=some (.tup [.int x,.int m])∧H q=some (.tup [.int y,.int n])∧cg x m∧cg y n∧b8 x∧b8 m∧b8 y∧b8 n ∧
 ∀(r:Addr) (H':Hp) (u d:Int),af H H'→H' r=some (.tup [.int u,.int d])→cg u d→u*(m*n)=x*y*d→Q (.ref r) H'
theorem cg.neg(h:cg x m):cg (-x) m:=⟨h.pos,by rw [Int.neg_gcd];exact h.gc⟩
def qF(C:Addr)(fr:Int→Int→Int→Int→Int)(rm:Int→Int→Int):Sp:=fun vs H Q _=>∃(z:Addr) (q:Int) (v u:V),vs=[.ref z,v,u]∧dU C H z q ∧
  ((q=0∧∃(p r:Addr) (x m y n:Int),v=.ref p∧u=.ref r∧H p=some (.tup [.int x,.int m])∧H r=some (.tup [.int y,.int n])∧cg x m∧cg y n∧b8 x∧b8 m∧b8 y∧b8 n ∧
    ∀(r':Addr) (H':Hp) (a d:Int),af H H'→H' r'=some (.tup [.int a,.int d])→cg a d→a*(m*n)=fr x m y n*d→Q (.ref r') H') ∨
   (2≤q∧∃i j:Int,v=.int i∧u=.int j∧0≤i∧i<1000∧Q (.int (rm i j % q)) H))
def aT(p:Int):Prop:=p=0∨(2≤p∧p≤997∧fz p=true)
inductive aV (B:Nat) (H:Hp):Int→V→Int→Int→Prop where
 | a7 {p:Addr} {x m:Int} (e:H p=some (.tup [.int x,.int m])) (l:cg x m) (bx:x.natAbs≤B) (bm:m.natAbs≤B):aV B H 0 (.ref p) x m
 | rem {q i:Int} (h0:0≤i) (h1:i<q) (h2:q≤997):aV B H q (.int i) i 1
theorem aV.mono{B:Nat}(h:aV B H q v x m)(s:af H H'):aV B H' q v x m:=by
 cases h with
 | a7 e l bx bm=>exact .a7 (s _ _ e) l bx bm
 | rem h0 h1 h2=>exact .rem h0 h1 h2
theorem uD{d T B:Int}(l:cg u d)(hB:0<B)(e:u*B=T*d):d≤B∧u.natAbs≤T.natAbs:=by
 have h0:=l.pos;have hd:d∣B:=by
  have z:((d.natAbs:Nat):Int)∣B:=qE (a:=B) (b:=d) (c:=u) (iw l.gc) (Int.natAbs_dvd.mpr (i8 d)) ⟨T*(d / (d.natAbs:Int)),by
   have q:(d.natAbs:Int)=d:=by lia
   rw [q,Int.ediv_self (by lia),gu,dD B u,e,dD]⟩
  exact Int.natAbs_dvd.mp z
 have hle:=Int.le_of_dvd hB hd;refine ⟨hle,?_⟩;have z:u.natAbs*B.natAbs=T.natAbs*d.natAbs:=by rw [←dC,e,dC]
 have z2:T.natAbs*d.natAbs≤T.natAbs*B.natAbs:=Nat.mul_le_mul_left _ (by lia)
 rw [←z] at z2;exact Nat.le_of_mul_le_mul_right z2 (by lia)
theorem EO(h1:2≤q)(h2:q≤997)(hp:fz q=true)(b1:1≤b)(b2:b<q):Int.gcd q b=1:=by
 have gp:0<Int.gcd q b:=pY _ (lH.mpr (by lia))
 by_cases g1:Int.gcd q b=1;·exact g1
 exfalso
 obtain ⟨k,ek⟩:=kB (a:=q) (b:=b);have hb:=Int.le_of_dvd (by lia) (jS (a:=q) (b:=b))
 generalize Int.gcd q b=g at *;have kp:0<k:=uA (u:=(g:Int)) (by lia) (by rw [←ek];lia)
 have k2:k≠1:=fun z=>by rw [z,gu] at ek;lia
 have no:∀d:Int,2≤d→d*d≤q→q % d=0→False:=fun d x y z=>by rw [JY h2 x y z] at hp;cases hp
 by_cases c:(g:Int)≤k;·exact no g (by lia) (by rw [ek];exact t8 c (by lia)) (by rw [ek];exact Int.mul_emod_right ..)
 ·exact no k (by lia) (by rw [ek];exact Int.mul_le_mul_of_nonneg_right (by lia) (by lia)) (by rw [ek];exact Int.mul_emod_left ..)
structure nK (q b last lt now nt:Int):Prop where
 l:∃s,last=lt*b+s*q
 n:∃s,now=nt*b+s*q
 gc:Int.gcd last now=1
 pos:1≤now
 less:now≤last
variable {last nt:Int}
theorem nK.step{lt now:Int}(h:nK q b last lt now nt)(h1:1<now):nK q b now nt (last-last / now*now) (lt-last / now*nt)∧last-last / now*now<now:=by
 obtain ⟨⟨s,es⟩,⟨r,er⟩,c,p,le⟩:=h;have e:last-last / now*now=last % now:=by have z:=DQ last now;rw [dD] at z;lia
 have lt1:=fI last (show 0<now by lia)
 have ge:=fg last (show now≠0 by lia)
 have c':Int.gcd now (last % now)=1:=oS fun d x y=>oT c (by have z:=DQ last now;rw [←z];exact t9 y (kD x (Int.dvd_mul_right ..))) x
 have nz:last % now≠0:=fun z=>by rw [z,Int.gcd_zero_right] at c';lia
 refine ⟨⟨⟨r,er⟩,⟨s-last / now*r,?_⟩,by rw [e];exact c',by lia,by lia⟩,by lia⟩
 generalize last / now=f;rw [es,er,Int.sub_mul,Int.sub_mul,Int.mul_add,kG,kG];lia
theorem nK.done{lt:Int}(h:nK q b last lt 1 nt)(hq:2≤q):(nt % q*b) % q=1:=by
 obtain ⟨s,e⟩:=h.n;have z:nt*b=1+(-s)*q:=by rw [t_];lia
 have y:nt % q*b % q=nt*b % q:=by rw [yd (nt % q) b,Int.emod_emod,←yd]
 rw [y,z,Int.add_mul_emod_self_right];exact pZ (by lia) (by lia)
theorem nK.start(h1:2≤q)(h2:q≤997)(hp:fz q=true)(b1:1≤b)(b2:b<q):nK q b q 0 b 1:=
 ⟨⟨1,by lia⟩,⟨0,by lia⟩,EO h1 h2 hp b1 b2,b1,by lia⟩
end My
namespace L2
open PySem PySem.Spec PyProof.Rows
def J4(K:aC):R2:=fun x y H Q=>(∃a xs i,x=.ref a∧y=.int i∧dO K H a xs∧Q (.bl false) H)∨(∃a xs i,x=.int i∧y=.ref a∧dO K H a xs∧Q (.bl false) H)∨AZ K false x y H Q∨Je x y H Q
theorem ER{X:Cx}(hu:X.A.units<cLine):cf X (compareOp .Eq) (J4 X.K):=by
 intro pins s σ H x y v u Q I rx ry h;rcases h with ⟨a,xs,i,rfl,rfl,h1,q⟩ | ⟨a,xs,i,rfl,rfl,h1,q⟩ | h | h
 ·cases rx
  obtain ⟨t,rfl⟩:=ry;obtain ⟨us,r1,t1,_⟩:=I.tuple h1;exact SeqAt.RcAt.tuple_int i t t1 hu _ _ _ _ ⟨.bl false,H,I,rfl,q⟩
 ·cases ry
  obtain ⟨t,rfl⟩:=rx;obtain ⟨us,r1,t1,_⟩:=I.tuple h1;exact SeqAt.RcAt.int_tuple i t t1 hu _ _ _ _ ⟨.bl false,H,I,rfl,q⟩
 ·exact RX hu pins s σ H x y v u Q I rx ry h
 ·exact eB pins s σ H x y v u Q I rx ry h
end L2
namespace My
open PySem L2
def Sv(N:Addr):Sp:=fun vs H Q E=>∃q b:Int,vs=[.int q,.int b]∧2≤q∧q≤997∧fz q=true∧0≤b∧b<q∧(b=0→E (.ref N) none H)∧(b≠0→∀r:Int,0≤r→r<q→(r*b) % q=1→Q (.int r) H)
def Sx(N:Addr):Sp:=fun vs H Q E=>∃(p q:Addr) (x m y n:Int),vs=[.ref p,.ref q]∧H p=some (.tup [.int x,.int m])∧H q=some (.tup [.int y,.int n])∧cg x m∧cg y n∧b8 x∧b8 m∧b8 y∧b8 n ∧
 (y=0→E (.ref N) none H)∧(y≠0→∀(r:Addr) (H':Hp) (u d:Int),af H H'→H' r=some (.tup [.int u,.int d])→cg u d→u*(m*y)=x*n*d→Q (.ref r) H')
def Sy(N:Addr):Sp:=fun vs H Q E=>∃q i j:Int,vs=[.int q,.int i,.int j]∧2≤q∧q≤997∧fz q=true∧0≤i∧i<q∧0≤j∧j<q∧(j=0→E (.ref N) none H)∧(j≠0→∀r:Int,0≤r→r<q→(r*j) % q=i→Q (.int r) H)
variable {y n:Int}
theorem Sz(l:cg y n)(h:0<y):cg n y:=⟨h,iw l.gc⟩
theorem SA(l:cg y n)(h:y<0):cg (-n) (-y):=⟨by lia,by rw [Int.neg_gcd,Int.gcd_neg];exact iw l.gc⟩
theorem SD{q i j r:Int}(hq:2≤q)(i0:0≤i)(i1:i<q)(h:(r*j) % q=1):(i*r % q*j) % q=i:=by
 have y:i*r % q*j % q=i*(r*j) % q:=by rw [yd (i*r % q) j,Int.emod_emod,←yd,kG]
 rw [y,yd,h,pZ i0 i1,gu,pZ i0 i1]
def ES(C N:Addr):Sp:=fun vs H Q E=>∃(z:Addr) (q:Int) (v u:V),vs=[.ref z,v,u]∧dU C H z q ∧
  ((q=0∧∃(p r:Addr) (x m y n:Int),v=.ref p∧u=.ref r∧H p=some (.tup [.int x,.int m])∧H r=some (.tup [.int y,.int n])∧cg x m∧cg y n∧b8 x∧b8 m∧b8 y∧b8 n ∧
    (y=0→E (.ref N) none H)∧(y≠0→∀(r':Addr) (H':Hp) (a d:Int),af H H'→H' r'=some (.tup [.int a,.int d])→cg a d→a*(m*y)=x*n*d→Q (.ref r') H')) ∨
   (2≤q∧∃i j:Int,v=.int i∧u=.int j∧q≤997∧fz q=true∧0≤i∧i<q∧0≤j∧j<q∧(j=0→E (.ref N) none H)∧(j≠0→∀r:Int,0≤r→r<q→(r*j) % q=i→Q (.int r) H)))
end My
namespace L2
open PySem PySem.Spec PyProof.Rows
structure jt (K:aC) (x qual:Str) (st:Stmt) (i:Int) (f:Addr) (fd:FuncData):Prop where
 ex:∃(oc:Value) (od:Option Addr) (kV doc pm:Value) (an:Option Addr) (ba ct:Value) (fW:Array (Option Value)) (dT:Addr) (tk:Tok) (oU:Value) (j9:Option Addr) (n:Nat) (oV:Array (Option Value)),
  fd=PySem.W.fnOf x qual (jq st) (gD st) (aG st) (.ref dT) kV doc pm an ba ct∧K.lookup f=some ⟨oc,od,.func fd,fW⟩∧PySem.W.codeIn K ba qual=true∧K.lookup dT=some ⟨oU,j9,.seq #[.int i tk] n,oV⟩
 kp:PySem.W.keepIn K (.ref f)=true
section
variable {P:Program} {w:World} {K:aC} {mg:dh} {base:Heap}
variable {x qual:Str} {st:Stmt} {i:Int} {f:Addr} {fd:FuncData} {ps:List Str}
theorem jt.EE{N:List Str}{k:Nat}{sp:Sp}(F:jt K x qual st i f fd)(S:aZ N ps (aG st))(len:∀vs H Q E,sp vs H Q E→vs.length=ps.length)
  (kT:∀(ba:Value) (A:Around) (outer:List Env) (s:Shared) (H:Hp) (vs:List V) (Q:VK) (E:XK),di k (A.deeper (envOfC qual (aG st) s.heap.objs.size f ba))→sp vs H Q E→
   uv (ji (dR P w) P w K mg base N qual (aG st) f ba A outer s H E) E→
   ∃t,eN (ji (dR P w) P w K mg base N qual (aG st) f ba A outer s H E) (gD st) t∧t {nx:=fun _ H'=>Q .aI H',rt:=Q} (start N vs) H):aS P w K mg base (dR P w) (k+1) f fd ps sp:=by
 obtain ⟨oc,od,kV,doc,pm,an,ba,ct,fW,dT,tk,oU,j9,n,oV,rfl,lk,fS,ld⟩:=F.ex;exact En lk fS S len fun A outer s H vs Q E hr jY=>kT ba A outer s H vs Q E hr jY ⟨rfl,rfl,rfl,rfl⟩
theorem A8{dT:Addr}{oc:Value}{od an:Option Addr}{fW:Array (Option Value)}{kV doc pm ba ct:Value}{tk:Tok}{oU:Value}{j9:Option Addr}{n:Nat}{oV:Array (Option Value)}
  (l:K.lookup f=some ⟨oc,od,.func (PySem.W.fnOf x qual (jq st) (gD st) (aG st) (.ref dT) kV doc pm an ba ct),fW⟩)
  (c:PySem.W.codeIn K ba qual=true) (k:PySem.W.keepIn K (.ref f)=true) (ld:K.lookup dT=some ⟨oU,j9,.seq #[.int i tk] n,oV⟩):jt K x qual st i f (PySem.W.fnOf x qual (jq st) (gD st) (aG st) (.ref dT) kV doc pm an ba ct):=
 ⟨⟨oc,od,kV,doc,pm,an,ba,ct,fW,dT,tk,oU,j9,n,oV,rfl,l,c,ld⟩,k⟩
theorem jt.binds(F:jt K x qual st i f fd)
  (h:∀(s:Shared) (dT:Addr) (kV doc pm:Value) (an:Option Addr) (ba ct:Value) (tk:Tok) (o:Obj) (n:Nat) (us:List Value),s.heap.get? dT=some o→o.data=.seq #[.int i tk] n→us.length=ps.length→
   BindsTo s (PySem.W.fnOf x qual (jq st) (gD st) (aG st) (.ref dT) kV doc pm an ba ct) ⟨us,[]⟩ (ps.zip us)):Binds K fd ps []:=by
 obtain ⟨oc,od,kV,doc,pm,an,ba,ct,fW,dT,tk,oU,j9,n,oV,rfl,lk,fS,ld⟩:=F.ex;intro s us X hl;rw [tW] at hl ⊢;exact h s dT kV doc pm an ba ct tk _ n us (X _ _ ld) rfl hl
theorem jt.SE(F:jt K x qual st i f fd)
  (h:∀(s:Shared) (dT:Addr) (kV doc pm:Value) (an:Option Addr) (ba ct:Value) (tk:Tok) (o:Obj) (n:Nat) (us:List Value),s.heap.get? dT=some o→o.data=.seq #[.int i tk] n→us.length+1=ps.length→
   BindsTo s (PySem.W.fnOf x qual (jq st) (gD st) (aG st) (.ref dT) kV doc pm an ba ct) ⟨us,[]⟩ (ps.zip (us++[.int i tk]))):∃v,Vals [V.int i] [v]∧Binds K fd ps [v]:=by
 obtain ⟨oc,od,kV,doc,pm,an,ba,ct,fW,dT,tk,oU,j9,n,oV,rfl,lk,fS,ld⟩:=F.ex;refine ⟨.int i tk,.cons ⟨tk,rfl⟩ .nil,fun s us X hl=>?_⟩;exact h s dT kV doc pm an ba ct tk _ n us (X _ _ ld) rfl (by simpa using hl)
theorem jt.SF{y:Str}(F:jt K x qual st i f fd)
  (h:∀(s:Shared) (dT:Addr) (kV doc pm:Value) (an:Option Addr) (ba ct:Value) (tk:Tok) (o:Obj) (n:Nat) (us ws:List Value),s.heap.get? dT=some o→o.data=.seq #[.int i tk] n→ws.length=1→us.length+1=ps.length→
   BindsTo s (PySem.W.fnOf x qual (jq st) (gD st) (aG st) (.ref dT) kV doc pm an ba ct) ⟨us,[y].zip ws⟩ (ps.zip (us++ws))) :
  ∀(s:Shared) (us ws:List Value),K.In s.heap→ws.length=1→us.length+1=ps.length→BindsTo s fd ⟨us,[y].zip ws⟩ (ps.zip (us++ws)):=by
 obtain ⟨oc,od,kV,doc,pm,an,ba,ct,fW,dT,tk,oU,j9,n,oV,rfl,lk,fS,ld⟩:=F.ex;intro s us ws X hw hl;exact h s dT kV doc pm an ba ct tk _ n us ws (X _ _ ld) rfl hw hl
end
section
variable {X:Cx} {CX:ir} {k:Nat} {f C:Addr} {fd:FuncData} {ps:List Str} {y:Str} {sp:Sp} {E:XK} {m:Str} {pos apos Jw:Pos} {e e' o:Expr} {ta:TE} {t tk:TA}
def A9(K:aC):R2:=fun x y H Q=>AZ K true x y H Q∨Jf x y H Q
theorem uE(hu:X.A.units<cLine):cf X (compareOp .NotEq) (A9 X.K):=by
 intro pins s σ H x y v u Q I rx ry h;rcases h with h | h;·exact RY hu pins s σ H x y v u Q I rx ry h
 ·exact iq pins s σ H x y v u Q I rx ry h
end
end L2
namespace My
open PySem L2
def l5(a b:Int):Int:=a.fdiv (lowG a b)
def l6(a b:Int):Int:=b.fdiv (lowG a b)
theorem SG{a b:Int}(hb:b≠0):cg (l5 a b) (l6 a b)∧l5 a b*b=a*l6 a b∧(l5 a b).natAbs≤a.natAbs∧(l6 a b).natAbs≤b.natAbs:=by
 have gp:=EN (a:=a) hb;have c:=yK (a:=a) hb;obtain ⟨a',ea⟩:=kB (a:=a) (b:=b);obtain ⟨b',eb⟩:=jS (a:=a) (b:=b);unfold l5 l6 lowG;generalize Int.gcd a b=g at *;have g0:(g:Int)≠0:=by lia
 have ga:a / (g:Int)=a':=by rw [ea];exact gW _ g0
 have gb:b / (g:Int)=b':=by rw [eb];exact gW _ g0
 rw [ga,gb] at c;have la:a'.natAbs≤a.natAbs:=by rw [←ga];exact DP ..
 have lb:b'.natAbs≤b.natAbs:=by rw [←gb];exact DP ..
 have cr:a'*b=a*b':=by rw [ea,eb];simp only [kG,dD,Ag]
 by_cases h:b<0
 ·have d1:(0-(g:Int))∣a:=⟨-a',by rw [ea,ua,Int.neg_mul_neg]⟩
  have d2:(0-(g:Int))∣b:=⟨-b',by rw [eb,ua,Int.neg_mul_neg]⟩
  rw [ar h,Ai d1,Ai d2,ua,Int.ediv_neg,Int.ediv_neg,ga,gb];refine ⟨⟨?_,by rw [Int.neg_gcd,Int.gcd_neg];exact c⟩,?_,?_,?_⟩
  ·have z:0 < -b':=uA (u:=(g:Int)) (by lia) (by rw [lI,←eb];lia)
   lia
  ·rw [t_,lI,cr]
  ·rw [yc];exact la
  ·rw [yc];exact lb
 ·rw [au h,Ai ⟨a',ea⟩,Ai ⟨b',eb⟩,ga,gb]
  have z:0<b':=uA (u:=(g:Int)) (by lia) (by rw [←eb];lia)
  exact ⟨⟨by lia,c⟩,cr,la,lb⟩
theorem J5(a:Int):l5 a 1=a∧l6 a 1=1:=by
 unfold l5 l6 lowG;rw [Int.gcd_one_right,au (by decide)]
 exact ⟨Int.fdiv_one a,Int.fdiv_one 1⟩
def SH(N:Addr):Sp:=fun vs H Q E=>∃a b:Int,vs=[.int a,.int b]∧eK b∧(b=0→E (.ref N) none H)∧(b≠0→∀(r:Addr) (H':Hp),af H H'→H' r=some (.tup [.int (l5 a b),.int (l6 a b)])→Q (.ref r) H')
def oW(q b:Int):Prop:=if q=0 then b=0 else b % q=0
def J6(H:Hp)(q:Int)(v:V)(a b:Int):Prop:=
 (q=0∧∃r:Addr,v=.ref r∧H r=some (.tup [.int (l5 a b),.int (l6 a b)]))∨(2≤q∧∃r:Int,v=.int r∧0≤r∧r<q∧(r*(b % q)) % q=a % q)
def SI(C N:Addr):Sp:=fun vs H Q E=>∃(z:Addr) (q a b:Int),vs=[.ref z,.int a,.int b]∧dU C H z q∧aT q∧eK b ∧
 (oW q b→E (.ref N) none H)∧(¬oW q b→∀(v:V) (H':Hp),af H H'→J6 H' q v a b→Q v H')
end My
namespace L2
open PySem PySem.Spec PyProof.Rows
section
variable {X:Cx}
end
end L2
namespace My
open PySem L2
variable {a c:Int}
theorem J7{b:Int}(h:c≠0)(e:a*c=b*c):a=b:=DR h e
variable {q:Int}
theorem SJ{t:Int}(h:Int.gcd q c=1)(d:q∣c-t):Int.gcd q t=1:=by
 refine oS fun e h1 h2=>oT h h1 ?_;have z:=t9 (kD h1 d) h2;rw [show c-t+t=c by lia] at z
 exact z
theorem SK(q2:2≤q)(g:Int.gcd q c=1)(d:q∣a*c):q∣a:=by
 have qq:((q.natAbs:Nat):Int)=q:=by lia
 have z:=qE (a:=a) (b:=q) (c:=c) (d:=q.natAbs) g (by rw [qq];exact i8 q) (by rw [qq];exact d)
 rw [qq] at z;exact z
theorem SM(a q:Int):∃w,a % q+q*w=a:=⟨a / q,DQ a q⟩
section
variable {C N z:Addr} {q:Int} {v u:V} {t b t' b':Int} {H:Hp} {Q:VK} {E:XK}
theorem SN{u d u' d':Int}(l:cg u d)(l':cg u' d')(e:u*d'=u'*d):u=u'∧d=d':=by
 have h1:=l.pos;have h2:=l'.pos;have a:=(uD l (show 0<d' by lia) e).1
 have c:=(uD l' (show 0<d by lia) e.symm).1
 have dd:d=d':=by lia
 subst dd;exact ⟨J7 (show d≠0 by lia) e,rfl⟩
theorem SO(x m:Int):g7 [V.int x,V.int m] [V.int x,V.int m]=true:=by show ((x == x) && ((m == m) && true))=true;simp
end
theorem aV.bG{B:Nat}{H H':Hp}{v:V}{x m:Int}{D:Addr}{ys:List V}(h:aV B H q v x m)(eD:H D=some (.lst ys))(k:∀b o,b≠D→H b=some o→H' b=some o):aV B H' q v x m:=by
 cases h with
 | a7 e l bx bm=>refine .a7 (k _ _ (fun z=>?_) e) l bx bm;rw [z,eD] at e;cases e
 | rem h0 h1 h2=>exact .rem h0 h1 h2
end My
namespace L2
open PySem PySem.Spec PyProof.Rows
structure nM (J:It) (xs:List V) (H1:Hp):Prop where
 go:∀i Hc,af H1 Hc→i<xs.length→J.go i Hc
 eO:∀i Hc x H',af H1 Hc→J.eO i Hc x H'→H'=Hc∧(i<xs.length→xs[i]?=some x)
 stop:∀i Hc,af H1 Hc→xs.length≤i→J.stop i Hc
variable {xs:List V} {H1:Hp}
theorem j_{K:aC}{a:Addr}(h:b5 K H1 a xs):nM (uh K a) xs H1 where
 go:=fun i Hc s hi=>⟨xs,xs[i],s.seq h,by simp [hi]⟩
 eO:=fun i Hc x H' s y=>⟨y.1,fun _=>y.2 xs (s.seq h)⟩
 stop:=fun i Hc s hi=>⟨xs,s.seq h,hi⟩
theorem nN{lo:Int}{n:Nat}:nM (m4 lo n) ((List.range n).map fun i:Nat=>V.int (lo+(i:Int))) H1 where
 go:=fun i Hc s hi=>by
  have hi:i<n:=by simpa using hi
  exact hi
 eO:=fun i Hc x H' s y=>⟨y.1,fun hi=>by
  have hi:i<n:=by simpa using hi
  rw [y.2];simp [hi]⟩
 stop:=fun i Hc s hi=>by
  have hi:n≤i:=by simpa using hi
  exact hi
variable {H:Hp} {D:Addr}
theorem gF{H':Hp}{o:HO}(s:af H H')(n:H D=none):af H (upd H' D o):=fun b u e=>by rw [aJ (iJ e n)];exact s b u e
variable {te:TE} {Q:VK}
theorem J8{J:It}{ρσ:St}(js:nM J xs H1)(nD:H1 D=none)(hn:xs.length<sizeLine)
  (P:Nat→V→Hp→Prop) (mono:∀i y H H' ys,P i y H→H D=some (.lst ys)→(∀b o,b≠D→H b=some o→H' b=some o)→P i y H')
  (step:∀i x,xs[i]?=some x→∀(Hc:Hp) (R:VK),af H1 Hc→(∃ys,Hc D=some (.lst ys))→(∀y H3,af Hc H3→P i y H3→R y H3)→te (some x::ρσ) Hc R)
  (fin:∀ys Hc,af H1 Hc→ys.length=xs.length→(∀i y,ys[i]?=some y→P i y Hc)→Hc D=some (.lst ys)→Q (.ref D) Hc) :
  ∃W:Nat→Nat→List V→Hp→Prop,(∃m,W 0 m [] (upd H1 D (.lst []))) ∧
   ∀i m ys Hc,W i m ys Hc→Hc D=some (.lst ys)∧((J.stop i Hc∧Q (.ref D) Hc)∨(J.go i Hc∧∀x H',J.eO i Hc x H'→
    if true=true then te (some x::ρσ) H' fun y H3=>H3 D=some (.lst ys)∧ys.length<sizeLine∧∃m',m'<m∧W (i+1) m' (ys++[y]) (upd H3 D (.lst (ys++[y]))) else ∃m',m'<m∧W (i+1) m' ys H')):=by
 refine ⟨fun i m ys Hc=>m=xs.length-i∧i≤xs.length∧Hc D=some (.lst ys)∧af H1 Hc∧ys.length=i∧∀j y,ys[j]?=some y→P j y Hc,⟨_,rfl,cn _,ay,gF (af.refl H1) nD,rfl,fun j y e=>by simp at e⟩,?_⟩
 rintro i m ys Hc ⟨rfl,hi,eD,sH,el,hP⟩;refine ⟨eD,?_⟩;by_cases cq:i<xs.length
 ·refine .inr ⟨js.go i Hc sH cq,fun x H' hy=>?_⟩
  obtain ⟨rfl,hx⟩:=js.eO i Hc x H' sH hy;rw [ar rfl];refine step i x (hx cq) _ _ sH ⟨ys,eD⟩ fun y H3 s3 hp=>?_;have e3:=s3 _ _ eD;refine ⟨e3,by lia,xs.length-(i+1),by lia,rfl,cq,ay,gF (sH.trans s3) nD,by simp [el],fun j y' e=>?_⟩
  have bG:∀b o,b≠D→H3 b=some o→upd H3 D (.lst (ys++[y])) b=some o:=fun b o nb e=>by rw [aJ nb];exact e
  by_cases hj:j<i
  ·have e':ys[j]?=some y':=by rw [oy (by lia)] at e;exact e
   refine mono j y' H' _ ys (hP j y' e') eD fun b o nb e=>?_;exact bG b o nb (s3 _ _ e)
  ·have hj:j=i:=by have:=(bZ.mp e).1;simp at this;lia
   subst hj;have e':y'=y:=by rw [ox (by lia),el,Nat.sub_self] at e;simpa using e.symm
   subst e';exact mono _ _ H3 _ ys hp e3 bG
 ·have e:i=xs.length:=by lia
  subst e;exact .inl ⟨js.stop _ Hc sH (aN _),fin ys Hc sH el hP eD⟩
variable {wi:TI} {ρ:St→St} {σ:St}
theorem A_(kW:∀R:It→Hp→Prop,(∀J H1,af H H1→nM J xs H1→R J H1)→wi σ H R)(hn:xs.length<sizeLine)
  (P:Addr→Nat→V→Hp→Prop) (mono:∀D i y H H' ys,P D i y H→H D=some (.lst ys)→(∀b o,b≠D→H b=some o→H' b=some o)→P D i y H')
  (step:∀D i x,xs[i]?=some x→∀(Hc:Hp) (R:VK),af H Hc→(∃ys,Hc D=some (.lst ys))→(∀y H3,af Hc H3→P D i y H3→R y H3)→te (some x::ρ σ) Hc R)
  (fin:∀D ys Hc,af H Hc→ys.length=xs.length→(∀i y,ys[i]?=some y→P D i y Hc)→Hc D=some (.lst ys)→Q (.ref D) Hc):jr wi ρ (fun _ H Q=>Q true H) te σ H Q:=by
 refine kW _ fun J H1 s1 js=>?_;intro D nD;exact J8 (ρσ:=ρ σ) (te:=te) (Q:=Q) js nD hn (P D) (mono D) (fun i x hx Hc R sc=>step D i x hx Hc R (s1.trans sc)) (fun ys Hc sc=>fin D ys Hc (s1.trans sc))
theorem a8{g:TG}{D:Ends}(h:te σ H fun x H1=>g x σ H1 D.nx):mY te g D σ H:=h
theorem oX{a b:TS}{D:Ends}(h:a {D with nx:=fun σ H=>b D σ H} σ H):D9 a b D σ H:=h
section
variable {X:Cx} {N:List Str} {scope:Scope} {cl:List (Str×Addr)} {x:Str} {px pos:Pos} {iter elt:Expr} {ifs:List Expr} {wi:TI} {ρ:St→St} {tt:TT} {te:TE}
theorem l7{y:Str}{py oY:Pos}{i0:Nat}(B:EG X N scope cl x ρ)(hc:X.calm=true)(hN:X.N.Nodup)(yL:X.N[i0]?=some y)(hy:Loc X.env.scope y)(hi:PI X (.Name x px) iter wi)(ht:∀s₃ H₃ fp,j7 (X.bF N scope cl s₃ H₃ fp) ifs tt)(he:∀s₃ H₃ fp,PE (X.bF N scope cl s₃ H₃ fp) elt te)
  (yM:swapsWith (.ListComp elt [⟨.Name x px,iter,ifs,0⟩] scope pos) (some (.Name y py)) oY.line X.env=pure true:=by rfl) (hf:X.fn y=true∨X.env.scope.names.lookup y=some .local:=by first | exact .inl rfl | exact .inr rfl | assumption)
  (hs:∀x,foldedSetIterable iter X.env x=pure x:=by intro _;rfl):PS X (.Assign [.Name y py] (.ListComp elt [⟨.Name x px,iter,ifs,0⟩] scope pos) oY) (mY (jr wi ρ tt te) (bR i0)):=by
 intro pins s σ H D0 I h
 have h:jr wi ρ tt te σ H (fun v H1=>D0.nx (σ.set i0 (some v)) H1):=h
 rw [DS _ _ _ _ yM]
 refine b7 (tU (b7 ?_))
 show wpAny _ X.A (do let _ ←comprehension (.ListComp elt [⟨.Name x px,iter,ifs,0⟩] scope pos) scope X.env _ (newList []) false (eval iter X.env) (some (assign (.Name y py) X.env))) _ _ s
 refine b7 (bW (Q:=fun _ s'=>SP X pins D0 .next s') ?_ (fun _ s' hq=>dM (dM hq)) fun _ _ e=>e)
 refine x5 (use:=some (assign (.Name y py) X.env)) rfl hs B.qz B.kind B.names (aO (hi pins s σ H _ I h) fun v s1 h1=>aO h1 fun qk s2 h2=>?_)
 obtain ⟨it,fp,tn,J,H2,rfl,I2,T,fm,f2,q2⟩:=h2
 have nD:H2 s2.heap.objs.size=none:=I2.az.fresh (aN _)
 obtain ⟨W,⟨m0,w0⟩,turn⟩:=q2 _ nD
 refine tV (Ae B.yJ (by intro y hy;simp at hy) (fun h₁ fA fY=>?_) B.kind)
 dsimp only at fA fY ⊢
 generalize hD:s2.heap.objs.size=D at nD w0 turn fA fY ⊢
 generalize fZ:({s2 with heap:=s2.heap.push {cls:=.type "list",dict:=none,data:=.seq ([]:List Value).toArray}}:Shared)=s3
 have I3:Inv X pins σ (upd H2 D (.lst [])) s3:=by
  subst hD fZ
  exact I2.laid (t':=s2.toks) (fun b u e=>cz _ e) (aN _) ⟨cn _,[],_,.nil,fH _ rfl⟩
 have e3:s3.heap=s2.heap.push {cls:=.type "list",dict:=none,data:=.seq ([]:List Value).toArray}:=by rw [←fZ]
 have dS:∀b o,s2.heap.get? b=some o→s3.heap.get? b=some o:=fun b o e=>by rw [e3];exact cz _ e
 rw [←e3] at fA fY ⊢
 have below:∀b o,s3.heap.get? b=some o→b≠s3.heap.objs.size:=fun b o e=>d5 (bU e)
 have cK:∀b o,s3.heap.get? b=some o→h₁.get? b=some o:=fun b o e=>fY.extBut b o (below b o e) (cz _ e)
 have fO:∀b∈fp,∃o,s2.heap.get? b=some o∧∀v,o.data≠.cell v:=T.obj _ _ fm
 have m_:∀b∈fp,b≠D:=fun b hb z=>by
  obtain ⟨o,e,_⟩:=fO b hb
  rw [z,←hD] at e
  exact absurd (bU e) (gJ _)
 have cu:∀y c,cl.lookup y=some c→X.env.cells.lookup y=some c:=fun y c e=>B.sub (y,c) (jP e)
 have ng:=I3.qf
 have dH:(X.bF N scope cl s3 (upd H2 D (.lst [])) fp).Ok:=by
  refine ⟨I.ok.mod,B.kind,I.ok.glob,I.ok.blt,aN _,fun a b c e1 e2=>I.ok.inj a b c (cu a c e1) (cu b c e2),fun y hy=>B.has y hy,(fun _ _ z _=>absurd z de),(fun _=>I.ok.hd hc),I.ok.frames,.inl rfl,fun b hb=>⟨?_,fun y c e z=>?_⟩,fun b o e=>?_,aQ I.ok.gM I3.sz,fun b o e hb=>?_,fun b hb z=>?_,I3.stack,ng⟩
  ·obtain ⟨o,e,_⟩:=fO b hb
   exact below b o (dS b o e)
  ·exact (f2 b hb).2.2.2.2.1 y c (cu y c e) z
  ·exact I3.bs b o e
  ·rcases (f2 b hb).2.2.2.1 with z | z
   ·exact I.ok.mT b o e z
   ·exact absurd (dZ (bU e) (aQ I.ok.gM z)) (gJ _)
  ·rcases dy.mp (I3.qe b z) with z | z
   ·exact (f2 b hb).2.1 z
   ·exact (f2 b hb).2.2.1 z
 have IB:∀tk:Nat,Inv (X.bF N scope cl s3 (upd H2 D (.lst [])) fp) [] (none::ρ σ) (upd H2 D (.lst [])) {s3 with heap:=h₁,toks:=tk}:=fun tk=>by
  refine ⟨dH,rfl,I3.bare,Un.kept cK,⟨_,fA,fun j y v e1 e2 e3=>?_⟩,fun y c e=>?_,?_,fun y c e=>I3.iK y c (cu y c e),(fun p hp=>nomatch hp),I3.az.kept cK,?_⟩
  ·cases j with
   | zero=>cases e2
   | succ j=>
    obtain ⟨i,y',a1,a2,a3,a4,a5,a6⟩:=B.qA σ j v e2
    have lZ:N[j+1]?=some y:=e1
    rw [lZ] at a1
    cases a1
    obtain ⟨m,hn,hl⟩:=I3.loc
    obtain ⟨u,r,l⟩:=hl i y v a2 a3 a4
    refine ⟨u,r,.inr ⟨a6,?_⟩⟩
    obtain ⟨c,ec⟩:=B.has y a6
    rcases l with ⟨k,_⟩ | ⟨_,c',iO,z⟩
    ·rcases a5 with q | q <;> (rw [k] at q;cases q)
    ·have:=cu y c ec
     rw [this] at iO
     cases iO
     obtain ⟨o,ho,hd⟩:=z
     exact ⟨c,ec,o,cK _ _ ho,hd⟩
  ·obtain ⟨v,o,ho,hd⟩:=I3.cell y c (cu y c e)
   exact ⟨v,o,cK _ _ ho,hd⟩
  ·exact I3.az.fresh (aN _)
  ·show (none::ρ σ).length=N.length
   rw [e_]
   exact B.len σ I.len
 have kX:∀b o,s3.heap.get? b=some o→b≠s3.heap.objs.size:=below
 have fin:∀{σ':St} {H':Hp} {s':Shared},Inv (X.bF N scope cl s3 (upd H2 D (.lst [])) fp) [] σ' H' s'→D0.nx (σ.set i0 (some (.ref D))) H'→compPost (model X.prog X.w) X.A X.xe (some (assign (.Name y py) X.env)) (fun _ s'=>SP X pins D0 .next s') (.ref D) s3.heap.objs.size (.ok .next) s':=fun{σ' H' s'} J q=>by
  obtain ⟨m,hn,_⟩:=J.loc
  have hn:s'.heap.Ns s3.heap.objs.size m:=hn
  have JC:H' s3.heap.objs.size=none:=J.free
  have u1:Un (cG X.stack) fp (upd H2 D (.lst [])) H' s3.heap s'.heap:=by
   refine ⟨fun b o e n hb hx=>J.base.keep b o e n hb hx,fun b o e n hb hx=>J.base.slot b o e n hb hx,J.base.free,fun b o e hx=>J.base.there b o e hx,J.base.gK,J.base.gA,J.base.gL⟩
  have IX:Inv X pins σ H' s':=I3.lO (ch:=fp) (J.os) u1 J.az J.bare fun b hb=>by
   obtain ⟨g0,g1,g2,g3,g4,g5⟩:=f2 b hb
   exact ⟨g3,g1,g4,g5⟩
  have nl:X.env.locals≠s3.heap.objs.size:=by
   obtain ⟨m3,⟨o3,_,_,e3,_⟩,_⟩:=I3.loc
   exact kX _ _ e3
  have nc:∀z c,X.env.cells.lookup z=some c→c≠s3.heap.objs.size:=fun z c e=>by
   obtain ⟨v3,o3,e3,_⟩:=I3.cell z c e
   exact kX _ _ e3
  refine Aa (Au (v:=.ref D) IX hN yL hy rfl (fun gZ kY kZ=>?_) hf)
  obtain ⟨a,kZ,ha⟩:=kZ
  have na:s3.heap.objs.size≠a:=by
   rcases ha with rfl | e
   ·exact fun z=>nl z.symm
   ·exact fun z=>nc _ _ e z.symm
  refine ⟨m,hn.sameBut kZ na,fun h' eG=>⟨σ.set i0 (some (.ref D)),H',?_,q⟩⟩
  have u2:Un (cG X.stack) [s3.heap.objs.size] H' H' gZ.heap h':=by
   refine ⟨fun b o e n hb hx=>(eG.2 b (by simpa using hx)).trans e,fun b o e n hb hx=>⟨o.slots,(eG.2 b (by simpa using hx)).trans e⟩,fun b o e n hx=>n,fun b o e hx=>⟨o,(eG.2 b (by simpa using hx)).trans e⟩,fun b xs z=>z,fun b o u z=>z,fun b ps z=>⟨#[],by simpa using z⟩⟩
  have ni:cA X.prog X.w H' h':=fun b u e=>by
   refine (kY.az b u e).jc (fun c v hc z=>(eG.2 c fun y=>?_).trans z) (fun _ z=>z) fun _ _ z=>z
   have y':c=s3.heap.objs.size:=y
   rcases hc with hc | hc
   ·rw [←hc,y',JC] at e
    cases e
   ·rw [y',JC] at hc
    cases hc
  refine kY.lO (s':={gZ with heap:=h'}) (ch:=[s3.heap.objs.size]) rfl u2 ni kY.bare fun b hb=>?_
  have eb:b=s3.heap.objs.size:=by simpa using hb
  subst eb
  refine ⟨.inr I3.sz,fun z=>nl z.symm,fun z c e=>nc z c e,fun p hp=>?_⟩
  exact kX _ _ (I3.pin p hp).1
 have eP:∀{H':Hp},(∀b∈fp,H' b=none)→∀b∈fp,kK (X.bF N scope cl s3 (upd H2 D (.lst [])) fp) [] H' b:=fun hn b hb=>by
  refine ⟨hn b hb,?_,?_,.inl hb,fun y c e z=>(f2 b hb).2.2.2.2.1 y c (cu y c e) z,fun p hp=>nomatch hp⟩
  ·obtain ⟨o,e,_⟩:=fO b hb
   exact below b o (dS b o e)
  ·exact dH.mU b hb
 have loop:∀tk:Nat,codeAny (model X.prog X.w) X.A (.compLoop (.ListComp elt [⟨.Name x px,iter,ifs,0⟩] scope pos) 0 (.ref it) (.ref D) (compEnvC scope cl s3.heap.objs.size X.env))
   (compPost (model X.prog X.w) X.A X.xe (some (assign (.Name y py) X.env)) (fun _ s'=>SP X pins D0 .next s') (.ref D) s3.heap.objs.size) {s3 with heap:=h₁,toks:=tk}:=fun tk=>by
  refine DO (fun n s'=>∃i ys o H',Inv (X.bF N scope cl s3 (upd H2 D (.lst [])) fp) [] (o::ρ σ) H' s'∧tn i s'.heap∧(∀b∈fp,H' b=none)∧W i n ys H') ?_ m0
   ⟨0,[],none,_,IB tk,T.keep _ _ _ fm fun b hb o e=>cK _ _ (dS _ _ e),fun b hb=>by rw [aJ (m_ b hb)];exact (f2 b hb).1,w0⟩
  rintro n s4 ⟨i,ys,o,H4,I4,iP,iQ,w4⟩
  obtain ⟨A1,nk⟩:=turn i n ys H4 w4
  rcases nk with ⟨stop,qn⟩ | ⟨go,step⟩
  ·refine bW (T.done (X.bF N scope cl s3 (upd H2 D (.lst [])) fp) rfl rfl rfl hc i [] s4 _ H4 (fun _ _=>False) I4 (eP iQ) iP stop) (fun r s5 ⟨hr,I5⟩=>?_) fun _ _ z=>z.elim
   subst hr
   exact fin I5 qn
  ·refine bW (T.item (X.bF N scope cl s3 (upd H2 D (.lst [])) fp) rfl rfl rfl hc i [] s4 _ H4 (fun _ _=>False) I4 (eP iQ) iP go) (fun r s5 ⟨u,hr,h5⟩=>?_) fun _ _ z=>z.elim
   subst hr
   have z:letOwnedTupleGo (.Name x px) (.ref it) u=pure ():=rfl
   rw [z] at h5
   show wpAny _ _ ((pure ():Sem Unit) >>= fun _=>assign (.Name x px) (compEnvC scope cl s3.heap.objs.size X.env) u) _ _ s5
   refine b7 (bW h5 (fun _ s5 ⟨y,H5,I5,r5,y5,eQ,kL⟩=>?_) fun _ _ z=>z.elim)
   have kM:=I5.pinned (eP kL) (T.obj _ _ eQ)
   have pg:PG (X.bF N scope cl s3 (upd H2 D (.lst [])) fp) (.Name x px) (bR 0):=bP (i:=0) B.nd B.n0 (.inl (jR B.hx)) (.inr (jR B.hx))
   have again:∀{σ7:St} {H7:Hp} {s7:Shared},Inv (X.bF N scope cl s3 (upd H2 D (.lst [])) fp) ([]++iL fp s5.heap) σ7 H7 s7→Inv (X.bF N scope cl s3 (upd H2 D (.lst [])) fp) [] σ7 H7 s7∧tn (i+1) s7.heap∧∀b∈fp,H7 b=none:=fun{σ7 H7 s7} I7=>by
    refine ⟨I7.oI,T.keep _ _ _ eQ fun b hb o e=>(I7.pin (b,o) (cT _ (cT _ (jW hb e)))).1,fun b hb=>?_⟩
    obtain ⟨o,e,d⟩:=T.obj _ _ eQ b hb
    exact (I7.pin (b,o) (cT _ (cT _ (jW hb e)))).2.1
   refine bW (pg _ s5 _ H5 y u (fun σ2 H6=>σ2=some y::ρ σ∧H6=H5) kM r5 ⟨rfl,rfl⟩) (fun _ s6 ⟨σ6,H6,I6,q6⟩=>?_) fun _ _ z=>z.elim
   obtain ⟨rfl,rfl⟩:=q6
   have nB:=step y _ y5
   have tests:∀{f9:TT},j7 (X.bF N scope cl s3 (upd H2 D (.lst [])) fp) ifs f9→∀{R:Bool→Hp→Prop},f9 (some y::ρ σ) H6 R→wpAny (model X.prog X.w) X.A
     (forIn ifs true fun c r=>if r=true then do let ok ←isTrue c (compEnvC scope cl s3.heap.objs.size X.env) (eval c (compEnvC scope cl s3.heap.objs.size X.env));pure (ForInStep.yield ok) else pure (ForInStep.yield r))
     (fun ok s7=>∃H7,Inv (X.bF N scope cl s3 (upd H2 D (.lst [])) fp) ([]++iL fp s5.heap) (some y::ρ σ) H7 s7∧R ok H7) (fun _ _=>False) s6:=fun{f9} p {R} hR=>by
    cases p with
    | nil=>exact x8 ⟨_,I6,hR⟩
    | one p=>exact x9 (p _ s6 _ _ _ I6 hR)
   refine bW (tests (ht s3 _ fp) nB) (fun ok s7 ⟨H7,I7,q7⟩=>?_) fun _ _ z=>z.elim
   cases ok with
   | false=>
    obtain ⟨m',dB,w7⟩:=q7
    obtain ⟨a1,a2,a3⟩:=again I7
    exact ⟨m',dB,i+1,ys,_,H7,a1,a2,a3,w7⟩
   | true=>
    refine bW (he s3 _ fp _ s7 _ H7 _ I7 q7) (fun ev s8 ⟨z,H8,I8,r8,nC,hz,m',dB,w8⟩=>?_) fun _ _ z=>z.elim
    refine bW (iM (X:=X.bF N scope cl s3 (upd H2 D (.lst [])) fp) _ s8 _ H8 (.ref D) [z] (.ref D) [ev] (fun _ H9=>H9=upd H8 D (.lst (ys++[z]))) I8 rfl (.cons r8 .nil) ⟨D,ys,z,rfl,rfl,nC,hz,rfl⟩) (fun _ s9 ⟨_,H9,I9,_,q9⟩=>?_) fun _ _ z=>z.elim
    subst q9
    obtain ⟨a1,a2,a3⟩:=again I9
    exact ⟨m',dB,i+1,ys++[z],_,_,a1,a2,a3,w8⟩
 have start:=loop (s3.toks+([]:List (Str×Value)).length)
 have es:({s3 with heap:=h₁,toks:=s3.toks+([]:List (Str×Value)).length}:Shared)={s2 with heap:=h₁,toks:=s2.toks+([]:List (Str×Value)).length}:=by rw [←fZ]
 rw [es] at start
 exact x_ start (T.self _ 0 _ _ _ (T.keep _ _ _ fm fun b hb o e=>cK _ _ (dS _ _ e)) start)
end
section
variable {X:Cx}
end
section
variable {prog:Program} {w:World} {A:Around} {R:Result→Shared→Prop} {s:Shared}
theorem J9{elt target iter:Expr}{ifs:List Expr}{scope:Scope}{pos:Pos}{it acc:Value}{env:Env}(I:Nat→Shared→Prop)
  (turn:∀n s,I n s→wpAny (model prog w) A (pyNext it) (fun r s₁=>match r with
   | none=>R (.ok .next) s₁
   | some v=>wpAny (model prog w) A (letOwnedTupleGo target it v) (fun _ s₁=>wpAny (model prog w) A (assign target env v) (fun _ s₂=>
     wpAny (model prog w) A (forIn ifs true fun c r=>if r=true then do let ok ←isTrue c env (eval c env);pure (ForInStep.yield ok) else pure (ForInStep.yield r)) (fun ok s₃=>
      if ok=true then wpAny (model prog w) A (eval elt env) (fun x s₄=>
       wpAny (model prog w) A (call (.builtin "list.append") [acc,x]) (fun _ s₅=>∃m,m<n∧I m s₅) (notedBy (model prog w) A env fun e s'=>R (.error e) s') s₄) (notedBy (model prog w) A env fun e s'=>R (.error e) s') s₃
      else ∃m,m<n∧I m s₃) (notedBy (model prog w) A env fun e s'=>R (.error e) s') s₂) (notedBy (model prog w) A env fun e s'=>R (.error e) s') s₁) (notedBy (model prog w) A env fun e s'=>R (.error e) s') s₁) (notedBy (model prog w) A env fun e s'=>R (.error e) s') s)
  (n:Nat) (h:I n s):codeAny (model prog w) A (.compLoop (.ListComp elt [⟨target,iter,ifs,0⟩] scope pos) 0 it acc env) R s:=by
 refine codeAny_loop rfl I (fun n s hI=>?_) n h
 show wpAny _ A ((compTurn (.ListComp elt [⟨target,iter,ifs,0⟩] scope pos) 0 it acc env).onRaise (fun x=>do noteFrame x env;theTreesLotGoes x)) _ _ s
 refine wpAny_noted ?_
 rw [compTurn_list]
 refine b7 (tU (b7 (bW (turn n s hI) (fun r s₁ h₁=>?_) fun _ _ h'=>h')))
 cases r with
 | none=>exact dM h₁
 | some v=>
  refine b7 (bW h₁ (fun _ s₁ h₁=>?_) fun _ _ h'=>h')
  refine b7 (bW h₁ (fun _ s₂ h₂=>b7 (bW h₂ (fun ok s₃ h₃=>?_) fun _ _ h'=>h')) fun _ _ h'=>h')
  cases ok with
  | false=>exact dM ⟨rfl,h₃⟩
  | true=>
   exact b7 (b7 (bW h₃ (fun x s₄ h₄=>b7 (bW h₄ (fun _ s₅ h₅=>dM (dM ⟨rfl,h₅⟩)) fun _ _ h'=>h')) fun _ _ h'=>h'))
end
def Ba(K:aC)(wi:TI)(ρ:St→St)(tt:TT)(te:TE):TE:=fun σ H Q=>wi σ H fun J H1=>∀D,H1 D=none→∃W:Nat→Nat→List V→Hp→Prop,(∃m,W 0 m [] (upd H1 D (.lst []))) ∧
 ∀i m ys Hc,W i m ys Hc→Hc D=some (.lst ys)∧((J.stop i Hc∧Q (.ref D) Hc)∨(J.go i Hc∧∀v H',J.eO i Hc v H'→∃T x1 x2,v=.ref T∧dO K H' T [x1,x2]∧tt (some x1::some x2::ρ σ) H' fun b H2=>
  if b=true then te (some x1::some x2::ρ σ) H2 fun y H3=>H3 D=some (.lst ys)∧ys.length<sizeLine∧∃m',m'<m∧W (i+1) m' (ys++[y]) (upd H3 D (.lst (ys++[y]))) else ∃m',m'<m∧W (i+1) m' ys H2))
section
variable {X:Cx} {N:List Str} {scope:Scope} {cl:List (Str×Addr)} {x y:Str} {px py pos tp:Pos} {k4:Nat} {iter elt:Expr} {ifs:List Expr} {wi:TI} {ρ:St→St} {tt:TT} {te:TE}
structure ET (X:Cx) (N:List Str) (scope:Scope) (cl:List (Str×Addr)) (x y:Str) (ρ:St→St):Prop where
 qz:closureFor scope X.env=pure cl
 kind:scope.kind=.function
 yJ:∀y∈scope.names,y.2≠.cell
 names:∀y∈scope.names,y.2=.local→scope.names.lookup y.1=some .local
 sub:∀p∈cl,X.env.cells.lookup p.1=some p.2
 has:∀y,((relabel scope X.env).names.lookup y=some .cell∨(relabel scope X.env).names.lookup y=some .free)→∃c,cl.lookup y=some c
 n0:N[0]?=some x
 n1:N[1]?=some y
 nd:N.Nodup
 hx:scope.names.lookup x=some .local
 hy:scope.names.lookup y=some .local
 qA:∀(σ:St) (j:Nat) (v:V),(ρ σ)[j]?=some (some v)→∃(i:Nat) (y:Str),N[j+1+1]?=some y∧X.N[i]?=some y∧σ[i]?=some (some v)∧mS X.env.scope y∧(X.env.kindOf y=some .cell∨X.env.kindOf y=some .free)∧((relabel scope X.env).names.lookup y=some .cell∨(relabel scope X.env).names.lookup y=some .free)
 len:∀σ:St,σ.length=X.N.length→(ρ σ).length+1+1=N.length
theorem Bb(is:List Nat)(h1:closureFor scope X.env=pure cl)(h:A0 X scope N.tail.tail is:=by repeat' first | exact True.intro | refine And.intro ⟨rfl,Or.inr (Or.inl rfl),.inl rfl,.inl rfl⟩ ?_)(h2:scope.kind=.function:=by rfl)(h3:∀y∈scope.names,y.2≠.cell:=by decide +kernel)(h4:∀y∈scope.names,y.2=.local→scope.names.lookup y.1=some .local:=by decide +kernel)(h5:∀p∈cl,X.env.cells.lookup p.1=some p.2:=by repeat' first | exact Ad _ | refine t6.mpr ⟨rfl,?_⟩)(h6:((relabel scope X.env).names.all fun q=>(q.2 != .cell && q.2 != .free) || (cl.lookup q.1).isSome)=true:=by rfl)(h7:N[0]?=some x:=by rfl)(SQ:N[1]?=some y:=by rfl)(h8:N.Nodup:=by decide +kernel)(h9:scope.names.lookup x=some .local:=by rfl)(SR:scope.names.lookup y=some .local:=by rfl)(hr:∀σ:St,ρ σ=is.map fun i=>σ[i]?.join:=by exact fun _=>rfl)(hl:is.length+1+1=N.length:=by rfl):ET X N scope cl x y ρ:=
 ⟨h1,h2,h3,h4,h5,JZ h6,h7,SQ,h8,h9,SR,fun σ j v e=>by rw [hr] at e;rw [←List.getElem?_tail,←List.getElem?_tail];exact EH h σ j v e,fun σ _=>by rw [hr,aX];exact hl⟩
theorem EU(B:ET X N scope cl x y ρ)(hc:X.calm=true)(hi:PI X (.Tuple [.Name x px,.Name y py] k4 tp) iter wi)(ht:∀s₃ H₃ fp,j7 (X.bF N scope cl s₃ H₃ fp) ifs tt)(he:∀s₃ H₃ fp,PE (X.bF N scope cl s₃ H₃ fp) elt te)
  (hs:∀x,foldedSetIterable iter X.env x=pure x:=by intro _;rfl):PE X (.ListComp elt [⟨.Tuple [.Name x px,.Name y py] k4 tp,iter,ifs,0⟩] scope pos) (Ba X.K wi ρ tt te):=by
 intro pins s σ H Q I h
 rw [eval_ListComp]
 refine x5 (use:=none) rfl hs B.qz B.kind B.names (aO (hi pins s σ H _ I h) fun v s1 h1=>aO h1 fun qk s2 h2=>?_)
 obtain ⟨it,fp,tn,J,H2,rfl,I2,T,fm,f2,q2⟩:=h2
 have nD:H2 s2.heap.objs.size=none:=I2.az.fresh (aN _)
 obtain ⟨W,⟨m0,w0⟩,turn⟩:=q2 _ nD
 refine tV (Ae B.yJ (by intro y hy;simp at hy) (fun h₁ fA fY=>?_) B.kind)
 dsimp only at fA fY ⊢
 generalize hD:s2.heap.objs.size=D at nD w0 turn fA fY ⊢
 generalize fZ:({s2 with heap:=s2.heap.push {cls:=.type "list",dict:=none,data:=.seq ([]:List Value).toArray}}:Shared)=s3
 have I3:Inv X pins σ (upd H2 D (.lst [])) s3:=by
  subst hD fZ
  exact I2.laid (t':=s2.toks) (fun b u e=>cz _ e) (aN _) ⟨cn _,[],_,.nil,fH _ rfl⟩
 have e3:s3.heap=s2.heap.push {cls:=.type "list",dict:=none,data:=.seq ([]:List Value).toArray}:=by rw [←fZ]
 have dS:∀b o,s2.heap.get? b=some o→s3.heap.get? b=some o:=fun b o e=>by rw [e3];exact cz _ e
 rw [←e3] at fA fY ⊢
 have below:∀b o,s3.heap.get? b=some o→b≠s3.heap.objs.size:=fun b o e=>d5 (bU e)
 have cK:∀b o,s3.heap.get? b=some o→h₁.get? b=some o:=fun b o e=>fY.extBut b o (below b o e) (cz _ e)
 have fO:∀b∈fp,∃o,s2.heap.get? b=some o∧∀v,o.data≠.cell v:=T.obj _ _ fm
 have m_:∀b∈fp,b≠D:=fun b hb z=>by
  obtain ⟨o,e,_⟩:=fO b hb
  rw [z,←hD] at e
  exact absurd (bU e) (gJ _)
 have cu:∀y c,cl.lookup y=some c→X.env.cells.lookup y=some c:=fun y c e=>B.sub (y,c) (jP e)
 have ng:=I3.qf
 have dH:(X.bF N scope cl s3 (upd H2 D (.lst [])) fp).Ok:=by
  refine ⟨I.ok.mod,B.kind,I.ok.glob,I.ok.blt,aN _,fun a b c e1 e2=>I.ok.inj a b c (cu a c e1) (cu b c e2),fun y hy=>B.has y hy,(fun _ _ z _=>absurd z de),(fun _=>I.ok.hd hc),I.ok.frames,.inl rfl,fun b hb=>⟨?_,fun y c e z=>?_⟩,fun b o e=>?_,aQ I.ok.gM I3.sz,fun b o e hb=>?_,fun b hb z=>?_,I3.stack,ng⟩
  ·obtain ⟨o,e,_⟩:=fO b hb
   exact below b o (dS b o e)
  ·exact (f2 b hb).2.2.2.2.1 y c (cu y c e) z
  ·exact I3.bs b o e
  ·rcases (f2 b hb).2.2.2.1 with z | z
   ·exact I.ok.mT b o e z
   ·exact absurd (dZ (bU e) (aQ I.ok.gM z)) (gJ _)
  ·rcases dy.mp (I3.qe b z) with z | z
   ·exact (f2 b hb).2.1 z
   ·exact (f2 b hb).2.2.1 z
 have IB:∀tk:Nat,Inv (X.bF N scope cl s3 (upd H2 D (.lst [])) fp) [] (none::none::ρ σ) (upd H2 D (.lst [])) {s3 with heap:=h₁,toks:=tk}:=fun tk=>by
  refine ⟨dH,rfl,I3.bare,Un.kept cK,⟨_,fA,fun j y v e1 e2 e3=>?_⟩,fun y c e=>?_,?_,fun y c e=>I3.iK y c (cu y c e),(fun p hp=>nomatch hp),I3.az.kept cK,?_⟩
  ·cases j with
   | zero=>cases e2
   | succ j=>
   cases j with
   | zero=>cases e2
   | succ j=>
    obtain ⟨i,y',a1,a2,a3,a4,a5,a6⟩:=B.qA σ j v e2
    have lZ:N[j+1+1]?=some y:=e1
    rw [lZ] at a1
    cases a1
    obtain ⟨m,hn,hl⟩:=I3.loc
    obtain ⟨u,r,l⟩:=hl i y v a2 a3 a4
    refine ⟨u,r,.inr ⟨a6,?_⟩⟩
    obtain ⟨c,ec⟩:=B.has y a6
    rcases l with ⟨k,_⟩ | ⟨_,c',iO,z⟩
    ·rcases a5 with q | q <;> (rw [k] at q;cases q)
    ·have:=cu y c ec
     rw [this] at iO
     cases iO
     obtain ⟨o,ho,hd⟩:=z
     exact ⟨c,ec,o,cK _ _ ho,hd⟩
  ·obtain ⟨v,o,ho,hd⟩:=I3.cell y c (cu y c e)
   exact ⟨v,o,cK _ _ ho,hd⟩
  ·exact I3.az.fresh (aN _)
  ·show (none::none::ρ σ).length=N.length
   rw [e_,e_]
   exact B.len σ I.len
 have fin:∀{σ':St} {H':Hp} {s':Shared},Inv (X.bF N scope cl s3 (upd H2 D (.lst [])) fp) [] σ' H' s'→Q (.ref D) H'→compPost (model X.prog X.w) X.A X.xe none (EP X pins σ Q) (.ref D) s3.heap.objs.size (.ok .next) s':=fun{σ' H' s'} J q=>by
  obtain ⟨m,hn,_⟩:=J.loc
  refine ⟨m,hn,fun h' eG=>⟨.ref D,H',?_,rfl,q⟩⟩
  have old:∀b o,s3.heap.get? b=some o→b≠s3.heap.objs.size:=below
  have u1:Un (cG X.stack) fp (upd H2 D (.lst [])) H' s3.heap h':=by
   refine ⟨fun b o e n hb hx=>?_,fun b o e n hb hx=>?_,J.base.free,fun b o e hx=>?_,J.base.gK,J.base.gA,J.base.gL⟩
   ·exact (eG.2 b (old b o e)).trans (J.base.keep b o e n hb hx)
   ·obtain ⟨sl,z⟩:=J.base.slot b o e n hb hx
    exact ⟨sl,(eG.2 b (old b o e)).trans z⟩
   ·obtain ⟨o',z⟩:=J.base.there b o e hx
    exact ⟨o',(eG.2 b (old b o e)).trans z⟩
  have ni:cA X.prog X.w H' h':=fun b u e=>by
   refine (J.az b u e).jc (fun c v hc z=>(eG.2 c fun y=>?_).trans z) (fun _ z=>z) fun _ _ z=>z
   have fr:=J.free
   have y':c=s3.heap.objs.size:=y
   rcases hc with hc | hc
   ·rw [←hc,y'] at e
    exact absurd (fr.symm.trans e) (by simp)
   ·rw [y'] at hc
    exact absurd (fr.symm.trans hc) (by simp)
  refine I3.lO (s':={s' with heap:=h'}) (ch:=fp) (J.os) u1 ni J.bare fun b hb=>?_
  obtain ⟨g0,g1,g2,g3,g4,g5⟩:=f2 b hb
  exact ⟨g3,g1,g4,g5⟩
 have eP:∀{H':Hp},(∀b∈fp,H' b=none)→∀b∈fp,kK (X.bF N scope cl s3 (upd H2 D (.lst [])) fp) [] H' b:=fun hn b hb=>by
  refine ⟨hn b hb,?_,?_,.inl hb,fun y c e z=>(f2 b hb).2.2.2.2.1 y c (cu y c e) z,fun p hp=>nomatch hp⟩
  ·obtain ⟨o,e,_⟩:=fO b hb
   exact below b o (dS b o e)
  ·exact dH.mU b hb
 have loop:∀tk:Nat,codeAny (model X.prog X.w) X.A (.compLoop (.ListComp elt [⟨.Tuple [.Name x px,.Name y py] k4 tp,iter,ifs,0⟩] scope pos) 0 (.ref it) (.ref D) (compEnvC scope cl s3.heap.objs.size X.env))
   (compPost (model X.prog X.w) X.A X.xe none (EP X pins σ Q) (.ref D) s3.heap.objs.size) {s3 with heap:=h₁,toks:=tk}:=fun tk=>by
  refine J9 (fun n s'=>∃i ys o o2 H',Inv (X.bF N scope cl s3 (upd H2 D (.lst [])) fp) [] (o::o2::ρ σ) H' s'∧tn i s'.heap∧(∀b∈fp,H' b=none)∧W i n ys H') ?_ m0
   ⟨0,[],none,none,_,IB tk,T.keep _ _ _ fm fun b hb o e=>cK _ _ (dS _ _ e),fun b hb=>by rw [aJ (m_ b hb)];exact (f2 b hb).1,w0⟩
  rintro n s4 ⟨i,ys,o,o2,H4,I4,iP,iQ,w4⟩
  obtain ⟨A1,nk⟩:=turn i n ys H4 w4
  rcases nk with ⟨stop,qn⟩ | ⟨go,step⟩
  ·refine bW (T.done (X.bF N scope cl s3 (upd H2 D (.lst [])) fp) rfl rfl rfl hc i [] s4 _ H4 (fun _ _=>False) I4 (eP iQ) iP stop) (fun r s5 ⟨hr,I5⟩=>?_) fun _ _ z=>z.elim
   subst hr
   exact fin I5 qn
  ·refine bW (T.item (X.bF N scope cl s3 (upd H2 D (.lst [])) fp) rfl rfl rfl hc i [] s4 _ H4 (fun _ _=>False) I4 (eP iQ) iP go) (fun r s5 ⟨u,hr,h5⟩=>?_) fun _ _ z=>z.elim
   subst hr
   refine bW h5 (fun _ s5 ⟨y0,H5,I5,r5,y5,eQ,kL⟩=>?_) fun _ _ z=>z.elim
   obtain ⟨Tt,x1,x2,e0,EV,nB⟩:=step y0 _ y5
   subst e0
   have kM:=I5.pinned (eP kL) (T.obj _ _ eQ)
   have pg:PG (X.bF N scope cl s3 (upd H2 D (.lst [])) fp) (.Tuple [.Name x px,.Name y py] k4 tp) (Eb X.K 2 (yl (bR 0) (yl (bR 1) Ea))):=
    mX (X:=X.bF N scope cl s3 (upd H2 D (.lst [])) fp) hc (fM (bP (i:=0) B.nd B.n0 (.inl (jR B.hx)) (.inr (jR B.hx))) (fM (bP (i:=1) B.nd B.n1 (.inl (jR B.hy)) (.inr (jR B.hy))) mW))
   have again:∀{σ7:St} {H7:Hp} {s7:Shared},Inv (X.bF N scope cl s3 (upd H2 D (.lst [])) fp) ([]++iL fp s5.heap) σ7 H7 s7→Inv (X.bF N scope cl s3 (upd H2 D (.lst [])) fp) [] σ7 H7 s7∧tn (i+1) s7.heap∧∀b∈fp,H7 b=none:=fun{σ7 H7 s7} I7=>by
    refine ⟨I7.oI,T.keep _ _ _ eQ fun b hb o e=>(I7.pin (b,o) (cT _ (cT _ (jW hb e)))).1,fun b hb=>?_⟩
    obtain ⟨o,e,d⟩:=T.obj _ _ eQ b hb
    exact (I7.pin (b,o) (cT _ (cT _ (jW hb e)))).2.1
   refine bW (pg _ s5 _ H5 (.ref Tt) u (fun σ2 H6=>σ2=some x1::some x2::ρ σ∧H6=H5) kM r5 ⟨Tt,_,rfl,EV,rfl,_,_,rfl,_,_,rfl,rfl,rfl,rfl⟩) (fun _ s6 ⟨σ6,H6,I6,q6⟩=>?_) fun _ _ z=>z.elim
   obtain ⟨rfl,rfl⟩:=q6
   have tests:∀{f9:TT},j7 (X.bF N scope cl s3 (upd H2 D (.lst [])) fp) ifs f9→∀{R:Bool→Hp→Prop},f9 (some x1::some x2::ρ σ) H6 R→wpAny (model X.prog X.w) X.A
     (forIn ifs true fun c r=>if r=true then do let ok ←isTrue c (compEnvC scope cl s3.heap.objs.size X.env) (eval c (compEnvC scope cl s3.heap.objs.size X.env));pure (ForInStep.yield ok) else pure (ForInStep.yield r))
     (fun ok s7=>∃H7,Inv (X.bF N scope cl s3 (upd H2 D (.lst [])) fp) ([]++iL fp s5.heap) (some x1::some x2::ρ σ) H7 s7∧R ok H7) (fun _ _=>False) s6:=fun{f9} p {R} hR=>by
    cases p with
    | nil=>exact x8 ⟨_,I6,hR⟩
    | one p=>exact x9 (p _ s6 _ _ _ I6 hR)
   refine bW (tests (ht s3 _ fp) nB) (fun ok s7 ⟨H7,I7,q7⟩=>?_) fun _ _ z=>z.elim
   cases ok with
   | false=>
    obtain ⟨m',dB,w7⟩:=q7
    obtain ⟨a1,a2,a3⟩:=again I7
    exact ⟨m',dB,i+1,ys,_,_,H7,a1,a2,a3,w7⟩
   | true=>
    refine bW (he s3 _ fp _ s7 _ H7 _ I7 q7) (fun ev s8 ⟨z,H8,I8,r8,nC,hz,m',dB,w8⟩=>?_) fun _ _ z=>z.elim
    refine bW (iM (X:=X.bF N scope cl s3 (upd H2 D (.lst [])) fp) _ s8 _ H8 (.ref D) [z] (.ref D) [ev] (fun _ H9=>H9=upd H8 D (.lst (ys++[z]))) I8 rfl (.cons r8 .nil) ⟨D,ys,z,rfl,rfl,nC,hz,rfl⟩) (fun _ s9 ⟨_,H9,I9,_,q9⟩=>?_) fun _ _ z=>z.elim
    subst q9
    obtain ⟨a1,a2,a3⟩:=again I9
    exact ⟨m',dB,i+1,ys++[z],_,_,_,a1,a2,a3,w8⟩
 have start:=loop (s3.toks+([]:List (Str×Value)).length)
 have es:({s3 with heap:=h₁,toks:=s3.toks+([]:List (Str×Value)).length}:Shared)={s2 with heap:=h₁,toks:=s2.toks+([]:List (Str×Value)).length}:=by rw [←fZ]
 rw [es] at start
 exact x_ start (T.self _ 0 _ _ _ (T.keep _ _ _ fm fun b hb o e=>cK _ _ (dS _ _ e)) start)
end
section
variable {X:Cx}
def anyR(K:aC):List V→Hp→VK→Prop:=fun xs H Q=>∃(p:Addr) (bs:List Bool),xs=[.ref p]∧b5 K H p (bs.map V.bl)∧Q (.bl (bs.any id)) H
theorem SS{K:aC}(hc:X.calm=true)(hK:X.K=K:=by rfl):gO X (.builtin "any") (anyR K):=by
 intro pins s σ H xs us Q I r h;subst hK;obtain ⟨p,bs,rfl,hq,q⟩:=h;obtain ⟨u,rfl,ru⟩:=vals1 r;cases ru;obtain ⟨ai,rv,pl,hz⟩:=I.list hq;have iR:p≠s.heap.objs.size:=by obtain ⟨o,e,_⟩:=pl.isList;exact d5 (bU e)
 have hl:ai.length=bs.length:=by rw [←rv.length,aX]
 refine call_any_walk (wpAny_pyIter_list pl.isList ?_);refine ⟨s.heap.objs.size,_,_,_,_,_,fun i=>bs.getD i false,rfl,Walks.list (A:=X.A.in1) (show X.A.in1.handled=none from I.ok.hd hc) s.heap.objs.size p iR ai.toArray,⟨⟨_,fH _ rfl,rfl,rfl⟩,pl.isList.push _⟩,fun i v s' Q' E' hv cQ=>?_,fun h' tk hk=>?_⟩
 ·have kN:ai[i]?=some v:=by simpa using hv
  cases eb:bs[i]? with
  | none=>
   have:=rv.none_of (i:=i) (by rw [cC,eb];rfl)
   rw [this] at kN;cases kN
  | some b=>
   obtain ⟨u,hu,ru⟩:=rv.get (i:=i) (x:=V.bl b) (by rw [cC,eb];rfl)
   rw [hu] at kN;cases kN;cases ru;have e:bs.getD i false=b:=by rw [i6,eb];rfl
   have qB:Q' (bs.getD i false) s':=cQ;rw [e] at qB;exact oq qB
 ·refine ⟨.bl (bs.any id),H,I.kept fun b o e=>hk b o (fun z=>?_) (cz _ e),?_,q⟩
  ·exact absurd (bU e) (by rw [dA.mp z];exact gJ _)
  ·show Value.bool _=Value.bool _
   congr 1
   rw [cU,hl];clear hk q rv pl hz hl hq
   induction bs with
   | nil=>rfl
   | cons b bs ih=>rw [e_,DN,pW,List.any_map,pW];show (b || (List.range bs.length).any fun i=>bs.getD i false)=(b || bs.any id);rw [ih]
end
theorem boot_any:bootBuiltins "any"=some (.builtin "any"):=by decide +kernel
abbrev Cx.iy (X:Cx) (N:List Str) (scope:Scope) (cl:List (Str×Addr)) (x:Str) (s₃:Shared) (H₃:Hp) (fp:List Addr):Cx:=
 {X with N:=N,s₀:=s₃,H₀:=H₃,env:=compEnvC scope ((x,s₃.heap.objs.size+1)::cl) s₃.heap.objs.size X.env,outer:=X.stack,stack:=X.stack,ex:=fp,fn:=fun y=>y == x,pn:=[],xe:=fun _ _=>False}
section
variable {M:Model} {A:Around} {E:aR} {s:Shared}
theorem SU{scope:Scope}{globals:Addr}{cl:List (Str×Addr)}{qual x:Str}{env:Env}{Q:Env→Shared→Prop}
  (c1:∀n,cellsFrom n scope.names cl=(x,n)::cl) (p1:∀h:Heap,pushCells h scope.names=h.push {cls:=.type "cell",data:=.cell none})
  (hQ:Q (newEnv scope s.heap.objs.size globals ((x,s.heap.objs.size+1)::cl) qual none .none (some env) builtinsNs) {s with heap:=(s.heap.push {cls:=.type "dict",data:=.dict #[]}).push {cls:=.type "cell",data:=.cell none}}) :
  wpAny M A (newFunctionEnv scope globals cl [] qual none .none (some env)) Q E s:=by
 simp only [newFunctionEnv,Option.isSome_some,if_true];refine b7 (wpAny_alloc ?_);refine b7 (wpAny_layCells _ (fun name kind cells=>by cases SV:kind == NameKind.cell <;> simp [SV]) _ _ _ _ ?_)
 rw [show ({s with heap:=s.heap.push {cls:=.type "dict",data:=.dict #[]}}:Shared).heap.objs.size=s.heap.objs.size+1 from Heap.size_push ..,c1,p1];exact b7 (dM (dM hQ))
end
section
variable {X:Cx} {N:List Str} {scope:Scope} {cl:List (Str×Addr)} {x:Str} {px pos:Pos} {iter elt:Expr} {ifs:List Expr} {wi:TI} {ρ:St→St} {tt:TT} {te:TE}
theorem J_{names:List (Str×NameKind)}(h:(names.all fun q=>(q.2 != .cell && q.2 != .free) || ((cl.lookup q.1).isSome || q.1 == x))=true) :
  ∀y,y≠x→(names.lookup y=some .cell∨names.lookup y=some .free)→∃c,cl.lookup y=some c:=fun y hx hy=>by
 have key:∀k:NameKind,(k != .cell && k != .free)=false→names.lookup y=some k→∃c,cl.lookup y=some c:=fun k hk e=>by have z:=pX.mp h (y,k) (jP e);rw [hk,x4,show ((y,k).1 == x)=false from mH.mpr hx,Bool.or_false] at z;exact DL.mp z
 rcases hy with e | e;·exact key .cell rfl e
 ·exact key .free rfl e
structure SW (X:Cx) (N:List Str) (scope:Scope) (cl:List (Str×Addr)) (x:Str) (ρ:St→St):Prop where
 qz:closureFor scope X.env=pure cl
 kind:scope.kind=.function
 SX:∀n,cellsFrom n scope.names cl=(x,n)::cl
 SY:∀h:Heap,pushCells h scope.names=h.push {cls:=.type "cell",data:=.cell none}
 names:∀y∈scope.names,y.2=.local→scope.names.lookup y.1=some .local
 sub:∀p∈cl,X.env.cells.lookup p.1=some p.2
 has:∀y,y≠x→((relabel scope X.env).names.lookup y=some .cell∨(relabel scope X.env).names.lookup y=some .free)→∃c,cl.lookup y=some c
 n0:N[0]?=some x
 nd:N.Nodup
 S0:(relabel scope X.env).names.lookup x=some .cell
 qA:∀(σ:St) (j:Nat) (v:V),(ρ σ)[j]?=some (some v)→∃(i:Nat) (y:Str),N[j+1]?=some y∧X.N[i]?=some y∧σ[i]?=some (some v)∧mS X.env.scope y∧(X.env.kindOf y=some .cell∨X.env.kindOf y=some .free)∧((relabel scope X.env).names.lookup y=some .cell∨(relabel scope X.env).names.lookup y=some .free)
 len:∀σ:St,σ.length=X.N.length→(ρ σ).length+1=N.length
end
def iS(K:aC)(H:Hp):Nat→V→V→Prop
 | 0,v,u=>v=u∧fN v=true
 | n+1,v,u=>(v=u∧fN v=true)∨∃a b xs ys,v=.ref a∧u=.ref b∧((b5 K H a xs∧b5 K H b ys)∨(dO K H a xs∧dO K H b ys))∧xs.length=ys.length∧∀(j:Nat) (x y:V),xs[j]?=some x→ys[j]?=some y→iS K H n x y
theorem Bc{v:V}(h:fN v=true):g6 v v=true:=by
 cases v with
 | aI=>rfl
 | bl b=>show (b == b)=true;simp
 | int i=>show (i == i)=true;simp
 | str x=>show (x == x)=true;simp
 | _=>cases h
theorem all_range(n:Nat):(List.range n).all (fun _=>true)=true:=by simp
section
variable {X:Cx} {pins:aU} {σ:St} {H:Hp} {s:Shared}
theorem Bd(I:Inv X pins σ H s):∀(n:Nat) (A:Around) (v u:V) (a b:Value),iS X.K H n v u→RelV v a→RelV u b→A.units+n<cLine→SeqAt.EqAt A s a b true
 | 0,A,v,u,a,b,h,ra,rb,hu=>by obtain ⟨rfl,hf⟩:=h;have z:=yu (A:=A) (s:=s) ra rb hf hf;rw [Bc hf] at z;exact z
 | n+1,A,v,u,a,b,h,ra,rb,hu=>by
  rcases h with ⟨rfl,hf⟩ | ⟨p,q,xs,ys,rfl,rfl,hs,hl,hi⟩
  ·have z:=yu (A:=A) (s:=s) ra rb hf hf
   rw [Bc hf] at z;exact z
  ·cases ra
   cases rb;by_cases pq:p=q
   ·subst pq
    exact SeqAt.EqAt.same _
   rcases hs with ⟨h1,h2⟩ | ⟨h1,h2⟩
   ·obtain ⟨us,r1,t1,_⟩:=I.list h1
    obtain ⟨vs,r2,t2,_⟩:=I.list h2;have l1:=r1.length;have l2:=r2.length;have z:=SeqAt.RcAt.lists (A:=A) (e:=fun _=>true) t1.isList t2.isList (by simp;lia) (by lia) (fun j z1 z2=>by
     have Be:j<us.length:=by simpa using z1
     have Bf:j<vs.length:=by simpa using z2
     obtain ⟨x,ex⟩:∃x,xs[j]?=some x:=⟨xs[j],by simp [show j<xs.length by lia]⟩
     obtain ⟨y,ey⟩:∃y,ys[j]?=some y:=⟨ys[j],by simp [show j<ys.length by lia]⟩
     obtain ⟨x',kH,rx⟩:=r1.get ex;obtain ⟨y',nO,ry⟩:=r2.get ey;have e1:us.toArray[j]=x':=by simpa using (bZ.mp kH).2
     have e2:vs.toArray[j]=y':=by simpa using (bZ.mp nO).2
     rw [e1,e2];exact Bd I n A.in1 x y x' y' (hi j x y ex ey) rx ry (by rw [Aj];lia))
    rw [all_range] at z;exact SeqAt.EqAt.of_refs pq z
   ·obtain ⟨us,r1,t1,_⟩:=I.tuple h1
    obtain ⟨vs,r2,t2,_⟩:=I.tuple h2;have l1:=r1.length;have l2:=r2.length;have z:=SeqAt.RcAt.tuples (A:=A) (e:=fun _=>true) t1 t2 (by lia) (fun j z1 z2=>by
     have Be:j<us.length:=by simpa using z1
     have Bf:j<vs.length:=by simpa using z2
     obtain ⟨x,ex⟩:∃x,xs[j]?=some x:=⟨xs[j],by simp [show j<xs.length by lia]⟩
     obtain ⟨y,ey⟩:∃y,ys[j]?=some y:=⟨ys[j],by simp [show j<ys.length by lia]⟩
     obtain ⟨x',kH,rx⟩:=r1.get ex;obtain ⟨y',nO,ry⟩:=r2.get ey;have e1:us.toArray[j]=x':=by simpa using (bZ.mp kH).2
     have e2:vs.toArray[j]=y':=by simpa using (bZ.mp nO).2
     rw [e1,e2];exact Bd I n A.in1 x y x' y' (hi j x y ex ey) rx ry (by rw [Aj];lia))
    have e3:(us.toArray.size == vs.toArray.size)=true:=by simp;lia
    rw [all_range,e3] at z;exact SeqAt.EqAt.of_refs pq z
end
section
variable {X:Cx}
def Ka(K:aC)(n:Nat)(r:Bool):R2:=fun x y H Q=>∃a b xs ys,x=.ref a∧y=.ref b∧b5 K H a xs∧b5 K H b ys∧xs.length=ys.length∧(∀(j:Nat) (x y:V),xs[j]?=some x→ys[j]?=some y→iS K H n x y)∧Q (.bl r) H
variable {n:Nat}
theorem S1(hu:X.A.units+64<cLine)(hn:n<60:=by decide):cf X (compareOp .Eq) (Ka X.K n true):=by
 intro pins s σ H x y v u Q I rx ry h;obtain ⟨a,b,xs,ys,rfl,rfl,h1,h2,hl,hi,q⟩:=h;cases rx;cases ry;obtain ⟨us,r1,t1,_⟩:=I.list h1;obtain ⟨vs,r2,t2,_⟩:=I.list h2;have l1:=r1.length;have l2:=r2.length;refine SeqAt.eq_listAt (e:=fun _=>true) t1.isList t2.isList (by simp;lia) (by lia) (fun j z1 z2=>?_) ?_
 ·have Be:j<us.length:=by simpa using z1
  have Bf:j<vs.length:=by simpa using z2
  obtain ⟨x,ex⟩:∃x,xs[j]?=some x:=⟨xs[j],by simp [show j<xs.length by lia]⟩
  obtain ⟨y,ey⟩:∃y,ys[j]?=some y:=⟨ys[j],by simp [show j<ys.length by lia]⟩
  obtain ⟨x',kH,rx⟩:=r1.get ex;obtain ⟨y',nO,ry⟩:=r2.get ey;have e1:us.toArray[j]=x':=by simpa using (bZ.mp kH).2
  have e2:vs.toArray[j]=y':=by simpa using (bZ.mp nO).2
  rw [e1,e2];exact Bd I n X.A.in1 x y x' y' (hi j x y ex ey) rx ry (by rw [Aj];lia)
 ·rw [all_range]
  exact ⟨.bl true,H,I,rfl,q⟩
theorem yN(hu:X.A.units+64<cLine)(hn:n<60:=by decide):cf X (compareOp .NotEq) (Ka X.K n false):=by
 intro pins s σ H x y v u Q I rx ry h;obtain ⟨a,b,xs,ys,rfl,rfl,h1,h2,hl,hi,q⟩:=h;cases rx;cases ry;obtain ⟨us,r1,t1,_⟩:=I.list h1;obtain ⟨vs,r2,t2,_⟩:=I.list h2;have l1:=r1.length;have l2:=r2.length;refine SeqAt.RcNeAt.lists (e:=fun _=>true) t1.isList t2.isList (by simp;lia) (by lia) (fun j z1 z2=>?_) _ _ _ _ ?_
 ·have Be:j<us.length:=by simpa using z1
  have Bf:j<vs.length:=by simpa using z2
  obtain ⟨x,ex⟩:∃x,xs[j]?=some x:=⟨xs[j],by simp [show j<xs.length by lia]⟩
  obtain ⟨y,ey⟩:∃y,ys[j]?=some y:=⟨ys[j],by simp [show j<ys.length by lia]⟩
  obtain ⟨x',kH,rx⟩:=r1.get ex;obtain ⟨y',nO,ry⟩:=r2.get ey;have e1:us.toArray[j]=x':=by simpa using (bZ.mp kH).2
  have e2:vs.toArray[j]=y':=by simpa using (bZ.mp nO).2
  rw [e1,e2];exact Bd I n X.A.in1 x y x' y' (hi j x y ex ey) rx ry (by rw [Aj];lia)
 ·rw [all_range]
  exact ⟨.bl false,H,I,rfl,q⟩
end
section
variable {X:Cx} {N:List Str} {scope:Scope} {cl:List (Str×Addr)} {x:Str} {px pos:Pos} {iter elt:Expr} {ifs:List Expr} {wi:TI} {ρ:St→St} {tt:TT} {te:TE}
theorem Kb{y:Str}{py oY:Pos}{i0:Nat}(B:SW X N scope cl x ρ)(hc:X.calm=true)(hN:X.N.Nodup)(yL:X.N[i0]?=some y)(hy:Loc X.env.scope y)(hi:PI X (.Name x px) iter wi)(ht:∀s₃ H₃ fp,j7 (X.iy N scope cl x s₃ H₃ fp) ifs tt)(he:∀s₃ H₃ fp,PE (X.iy N scope cl x s₃ H₃ fp) elt te)
  (yM:swapsWith (.ListComp elt [⟨.Name x px,iter,ifs,0⟩] scope pos) (some (.Name y py)) oY.line X.env=pure true:=by rfl) (hf:X.fn y=true∨X.env.scope.names.lookup y=some .local:=by first | exact .inl rfl | exact .inr rfl | assumption)
  (hs:∀x,foldedSetIterable iter X.env x=pure x:=by intro _;rfl):PS X (.Assign [.Name y py] (.ListComp elt [⟨.Name x px,iter,ifs,0⟩] scope pos) oY) (mY (jr wi ρ tt te) (bR i0)):=by
 intro pins s σ H D0 I h
 have h:jr wi ρ tt te σ H (fun v H1=>D0.nx (σ.set i0 (some v)) H1):=h
 rw [DS _ _ _ _ yM]
 refine b7 (tU (b7 ?_))
 show wpAny _ X.A (do let _ ←comprehension (.ListComp elt [⟨.Name x px,iter,ifs,0⟩] scope pos) scope X.env _ (newList []) false (eval iter X.env) (some (assign (.Name y py) X.env))) _ _ s
 refine b7 (bW (Q:=fun _ s'=>SP X pins D0 .next s') ?_ (fun _ s' hq=>dM (dM hq)) fun _ _ e=>e)
 refine x5 (use:=some (assign (.Name y py) X.env)) rfl hs B.qz B.kind B.names (aO (hi pins s σ H _ I h) fun v s1 h1=>aO h1 fun qk s2 h2=>?_)
 obtain ⟨it,fp,tn,J,H2,rfl,I2,T,fm,f2,q2⟩:=h2
 have nD:H2 s2.heap.objs.size=none:=I2.az.fresh (aN _)
 obtain ⟨W,⟨m0,w0⟩,turn⟩:=q2 _ nD
 refine tV (SU B.SX B.SY ?_)
 dsimp only
 generalize hD:s2.heap.objs.size=D at nD w0 turn ⊢
 generalize fZ:({s2 with heap:=s2.heap.push {cls:=.type "list",dict:=none,data:=.seq ([]:List Value).toArray}}:Shared)=s3
 have I3:Inv X pins σ (upd H2 D (.lst [])) s3:=by
  subst hD fZ
  exact I2.laid (t':=s2.toks) (fun b u e=>cz _ e) (aN _) ⟨cn _,[],_,.nil,fH _ rfl⟩
 have e3:s3.heap=s2.heap.push {cls:=.type "list",dict:=none,data:=.seq ([]:List Value).toArray}:=by rw [←fZ]
 have dS:∀b o,s2.heap.get? b=some o→s3.heap.get? b=some o:=fun b o e=>by rw [e3];exact cz _ e
 rw [←e3]
 obtain ⟨h₁,eh⟩:∃h₁,h₁=(s3.heap.push {cls:=.type "dict",data:=.dict #[]}).push {cls:=.type "cell",data:=.cell none}:=⟨_,rfl⟩
 rw [←eh]
 have fA:h₁.Ns s3.heap.objs.size (fun _=>none):=by
  rw [eh]
  exact (Heap.Ns.new s3.heap (.type "dict")).keeps fun b o e=>cz _ e
 have S7:(s3.heap.push {cls:=.type "dict",data:=.dict #[]}).objs.size=s3.heap.objs.size+1:=Heap.size_push ..
 have S9:h₁.IsCell (s3.heap.objs.size+1) none:=by
  rw [eh,←S7]
  exact ⟨_,fH _ rfl,rfl⟩
 have below:∀b o,s3.heap.get? b=some o→b≠s3.heap.objs.size:=fun b o e=>d5 (bU e)
 have cK:∀b o,s3.heap.get? b=some o→h₁.get? b=some o:=fun b o e=>by rw [eh];exact cz _ (cz _ e)
 have fO:∀b∈fp,∃o,s2.heap.get? b=some o∧∀v,o.data≠.cell v:=T.obj _ _ fm
 have m_:∀b∈fp,b≠D:=fun b hb z=>by
  obtain ⟨o,e,_⟩:=fO b hb
  rw [z,←hD] at e
  exact absurd (bU e) (gJ _)
 have cu:∀y c,cl.lookup y=some c→X.env.cells.lookup y=some c:=fun y c e=>B.sub (y,c) (jP e)
 have Ke:∀y c,cl.lookup y=some c→c<s3.heap.objs.size:=fun y c e=>by
  obtain ⟨v,o,eo,_⟩:=I3.cell y c (cu y c e)
  exact bU eo
 have lk:∀y c,((x,s3.heap.objs.size+1)::cl).lookup y=some c→(y=x∧c=s3.heap.objs.size+1)∨(y≠x∧cl.lookup y=some c):=fun y c e=>by
  by_cases z:y=x
  ·subst z
   rw [Ak,Af] at e
   exact .inl ⟨rfl,(Option.some.inj e).symm⟩
  ·rw [Ak,mH.mpr z] at e
   exact .inr ⟨z,e⟩
 have Ki:∀y c,y≠x→cl.lookup y=some c→((x,s3.heap.objs.size+1)::cl).lookup y=some c:=fun y c z e=>by
  rw [Ak,mH.mpr z]
  exact e
 have Kj:∀b∈fp,b<s3.heap.objs.size:=fun b hb=>by
  obtain ⟨o,e,_⟩:=fO b hb
  exact bU (dS b o e)
 have ng:=I3.qf
 have dH:(X.iy N scope cl x s3 (upd H2 D (.lst [])) fp).Ok:=by
  refine ⟨I.ok.mod,B.kind,I.ok.glob,I.ok.blt,aN _,fun a b c e1 e2=>?inj,fun y hy=>?has,(fun y c z e=>?qc),(fun _=>I.ok.hd hc),I.ok.frames,.inl rfl,fun b hb=>⟨?_,fun y c e z=>?_⟩,fun b o e=>?_,aQ I.ok.gM I3.sz,fun b o e hb=>?_,fun b hb z=>?_,I3.stack,ng⟩
  case inj=>
   rcases lk a c e1 with ⟨z1,S_⟩ | ⟨_,f1⟩ <;> rcases lk b _ e2 with ⟨z2,ec⟩ | ⟨_,Kk⟩
   ·rw [z1,z2]
   ·have:=Ke _ _ Kk
    rw [S_] at this
    exact absurd this (Nat.not_lt.mpr (mJ _))
   ·have:=Ke _ _ f1
    rw [ec] at this
    exact absurd this (Nat.not_lt.mpr (mJ _))
   ·exact I.ok.inj a b c (cu a c f1) (cu b c Kk)
  case has=>
   by_cases z:y=x
   ·subst z
    exact ⟨_,by rw [show (compEnvC scope ((y,s3.heap.objs.size+1)::cl) s3.heap.objs.size X.env).cells=(y,s3.heap.objs.size+1)::cl from rfl,Ak,Af]⟩
   ·obtain ⟨c,ec⟩:=B.has y z hy
    exact ⟨c,Ki y c z ec⟩
  case qc=>
   have z:y=x:=by simpa using z
   rcases lk y c e with ⟨_,rfl⟩ | ⟨z',_⟩
   ·exact mJ _
   ·exact absurd z z'
  ·obtain ⟨o,e,_⟩:=fO b hb
   exact below b o (dS b o e)
  ·rcases lk y c e with ⟨rfl,rfl⟩ | ⟨_,e⟩
   ·rw [←z] at hb
    exact absurd (Kj _ hb) (Nat.not_lt.mpr (mJ _))
   ·exact (f2 b hb).2.2.2.2.1 y c (cu y c e) z
  ·exact I3.bs b o e
  ·rcases (f2 b hb).2.2.2.1 with z | z
   ·exact I.ok.mT b o e z
   ·exact absurd (dZ (bU e) (aQ I.ok.gM z)) (gJ _)
  ·rcases dy.mp (I3.qe b z) with z | z
   ·exact (f2 b hb).2.1 z
   ·exact (f2 b hb).2.2.1 z
 have IB:∀tk:Nat,Inv (X.iy N scope cl x s3 (upd H2 D (.lst [])) fp) [] (none::ρ σ) (upd H2 D (.lst [])) {s3 with heap:=h₁,toks:=tk}:=fun tk=>by
  refine ⟨dH,rfl,I3.bare,Un.kept cK,⟨_,fA,fun j y v e1 e2 e3=>?_⟩,fun y c e=>?_,?_,fun y c e=>?fC,(fun p hp=>nomatch hp),I3.az.kept cK,?_⟩
  ·cases j with
   | zero=>cases e2
   | succ j=>
    obtain ⟨i,y',a1,a2,a3,a4,a5,a6⟩:=B.qA σ j v e2
    have lZ:N[j+1]?=some y:=e1
    rw [lZ] at a1
    cases a1
    obtain ⟨m,hn,hl⟩:=I3.loc
    obtain ⟨u,r,l⟩:=hl i y v a2 a3 a4
    refine ⟨u,r,.inr ⟨a6,?_⟩⟩
    have yx:y≠x:=fun z=>by
     have n0:=B.n0
     rw [←z] at n0
     have:=(List.getElem?_inj (bZ.mp n0).1 B.nd).mp (n0.trans lZ.symm)
     lia
    obtain ⟨c,ec⟩:=B.has y yx a6
    rcases l with ⟨k,_⟩ | ⟨_,c',iO,z⟩
    ·rcases a5 with q | q <;> (rw [k] at q;cases q)
    ·have:=cu y c ec
     rw [this] at iO
     cases iO
     obtain ⟨o,ho,hd⟩:=z
     exact ⟨c,Ki y c yx ec,o,cK _ _ ho,hd⟩
  case fC=>
   rcases lk y c e with ⟨rfl,rfl⟩ | ⟨_,e⟩
   ·exact I3.az.fresh (mJ _)
   ·exact I3.iK y c (cu y c e)
  ·rcases lk y c e with ⟨rfl,rfl⟩ | ⟨_,e⟩
   ·exact ⟨none,S9⟩
   ·obtain ⟨v,o,ho,hd⟩:=I3.cell y c (cu y c e)
    exact ⟨v,o,cK _ _ ho,hd⟩
  ·exact I3.az.fresh (aN _)
  ·show (none::ρ σ).length=N.length
   rw [e_]
   exact B.len σ I.len
 have kX:∀b o,s3.heap.get? b=some o→b≠s3.heap.objs.size:=below
 have fin:∀{σ':St} {H':Hp} {s':Shared},Inv (X.iy N scope cl x s3 (upd H2 D (.lst [])) fp) [] σ' H' s'→D0.nx (σ.set i0 (some (.ref D))) H'→compPost (model X.prog X.w) X.A X.xe (some (assign (.Name y py) X.env)) (fun _ s'=>SP X pins D0 .next s') (.ref D) s3.heap.objs.size (.ok .next) s':=fun{σ' H' s'} J q=>by
  obtain ⟨m,hn,_⟩:=J.loc
  have hn:s'.heap.Ns s3.heap.objs.size m:=hn
  have JC:H' s3.heap.objs.size=none:=J.free
  have u1:Un (cG X.stack) fp (upd H2 D (.lst [])) H' s3.heap s'.heap:=by
   refine ⟨fun b o e n hb hx=>J.base.keep b o e n hb hx,fun b o e n hb hx=>J.base.slot b o e n hb hx,J.base.free,fun b o e hx=>J.base.there b o e hx,J.base.gK,J.base.gA,J.base.gL⟩
  have IX:Inv X pins σ H' s':=I3.lO (ch:=fp) (J.os) u1 J.az J.bare fun b hb=>by
   obtain ⟨g0,g1,g2,g3,g4,g5⟩:=f2 b hb
   exact ⟨g3,g1,g4,g5⟩
  have nl:X.env.locals≠s3.heap.objs.size:=by
   obtain ⟨m3,⟨o3,_,_,e3,_⟩,_⟩:=I3.loc
   exact kX _ _ e3
  have nc:∀z c,X.env.cells.lookup z=some c→c≠s3.heap.objs.size:=fun z c e=>by
   obtain ⟨v3,o3,e3,_⟩:=I3.cell z c e
   exact kX _ _ e3
  refine Aa (Au (v:=.ref D) IX hN yL hy rfl (fun gZ kY kZ=>?_) hf)
  obtain ⟨a,kZ,ha⟩:=kZ
  have na:s3.heap.objs.size≠a:=by
   rcases ha with rfl | e
   ·exact fun z=>nl z.symm
   ·exact fun z=>nc _ _ e z.symm
  refine ⟨m,hn.sameBut kZ na,fun h' eG=>⟨σ.set i0 (some (.ref D)),H',?_,q⟩⟩
  have u2:Un (cG X.stack) [s3.heap.objs.size] H' H' gZ.heap h':=by
   refine ⟨fun b o e n hb hx=>(eG.2 b (by simpa using hx)).trans e,fun b o e n hb hx=>⟨o.slots,(eG.2 b (by simpa using hx)).trans e⟩,fun b o e n hx=>n,fun b o e hx=>⟨o,(eG.2 b (by simpa using hx)).trans e⟩,fun b xs z=>z,fun b o u z=>z,fun b ps z=>⟨#[],by simpa using z⟩⟩
  have ni:cA X.prog X.w H' h':=fun b u e=>by
   refine (kY.az b u e).jc (fun c v hc z=>(eG.2 c fun y=>?_).trans z) (fun _ z=>z) fun _ _ z=>z
   have y':c=s3.heap.objs.size:=y
   rcases hc with hc | hc
   ·rw [←hc,y',JC] at e
    cases e
   ·rw [y',JC] at hc
    cases hc
  refine kY.lO (s':={gZ with heap:=h'}) (ch:=[s3.heap.objs.size]) rfl u2 ni kY.bare fun b hb=>?_
  have eb:b=s3.heap.objs.size:=by simpa using hb
  subst eb
  refine ⟨.inr I3.sz,fun z=>nl z.symm,fun z c e=>nc z c e,fun p hp=>?_⟩
  exact kX _ _ (I3.pin p hp).1
 have eP:∀{H':Hp},(∀b∈fp,H' b=none)→∀b∈fp,kK (X.iy N scope cl x s3 (upd H2 D (.lst [])) fp) [] H' b:=fun hn b hb=>by
  refine ⟨hn b hb,?_,?_,.inl hb,fun y c e z=>?sc,fun p hp=>nomatch hp⟩
  case sc=>
   rcases lk y c e with ⟨rfl,rfl⟩ | ⟨_,e⟩
   ·rw [←z] at hb
    exact absurd (Kj _ hb) (Nat.not_lt.mpr (mJ _))
   ·exact (f2 b hb).2.2.2.2.1 y c (cu y c e) z
  ·obtain ⟨o,e,_⟩:=fO b hb
   exact below b o (dS b o e)
  ·exact dH.mU b hb
 have loop:∀tk:Nat,codeAny (model X.prog X.w) X.A (.compLoop (.ListComp elt [⟨.Name x px,iter,ifs,0⟩] scope pos) 0 (.ref it) (.ref D) (compEnvC scope ((x,s3.heap.objs.size+1)::cl) s3.heap.objs.size X.env))
   (compPost (model X.prog X.w) X.A X.xe (some (assign (.Name y py) X.env)) (fun _ s'=>SP X pins D0 .next s') (.ref D) s3.heap.objs.size) {s3 with heap:=h₁,toks:=tk}:=fun tk=>by
  refine DO (fun n s'=>∃i ys o H',Inv (X.iy N scope cl x s3 (upd H2 D (.lst [])) fp) [] (o::ρ σ) H' s'∧tn i s'.heap∧(∀b∈fp,H' b=none)∧W i n ys H') ?_ m0
   ⟨0,[],none,_,IB tk,T.keep _ _ _ fm fun b hb o e=>cK _ _ (dS _ _ e),fun b hb=>by rw [aJ (m_ b hb)];exact (f2 b hb).1,w0⟩
  rintro n s4 ⟨i,ys,o,H4,I4,iP,iQ,w4⟩
  obtain ⟨A1,nk⟩:=turn i n ys H4 w4
  rcases nk with ⟨stop,qn⟩ | ⟨go,step⟩
  ·refine bW (T.done (X.iy N scope cl x s3 (upd H2 D (.lst [])) fp) rfl rfl rfl hc i [] s4 _ H4 (fun _ _=>False) I4 (eP iQ) iP stop) (fun r s5 ⟨hr,I5⟩=>?_) fun _ _ z=>z.elim
   subst hr
   exact fin I5 qn
  ·refine bW (T.item (X.iy N scope cl x s3 (upd H2 D (.lst [])) fp) rfl rfl rfl hc i [] s4 _ H4 (fun _ _=>False) I4 (eP iQ) iP go) (fun r s5 ⟨u,hr,h5⟩=>?_) fun _ _ z=>z.elim
   subst hr
   have z:letOwnedTupleGo (.Name x px) (.ref it) u=pure ():=rfl
   rw [z] at h5
   show wpAny _ _ ((pure ():Sem Unit) >>= fun _=>assign (.Name x px) (compEnvC scope ((x,s3.heap.objs.size+1)::cl) s3.heap.objs.size X.env) u) _ _ s5
   refine b7 (bW h5 (fun _ s5 ⟨y,H5,I5,r5,y5,eQ,kL⟩=>?_) fun _ _ z=>z.elim)
   have kM:=I5.pinned (eP kL) (T.obj _ _ eQ)
   have pg:PG (X.iy N scope cl x s3 (upd H2 D (.lst [])) fp) (.Name x px) (bR 0):=bP (i:=0) B.nd B.n0 (.inr B.S0) (.inl (by show (x == x)=true;simp))
   have again:∀{σ7:St} {H7:Hp} {s7:Shared},Inv (X.iy N scope cl x s3 (upd H2 D (.lst [])) fp) ([]++iL fp s5.heap) σ7 H7 s7→Inv (X.iy N scope cl x s3 (upd H2 D (.lst [])) fp) [] σ7 H7 s7∧tn (i+1) s7.heap∧∀b∈fp,H7 b=none:=fun{σ7 H7 s7} I7=>by
    refine ⟨I7.oI,T.keep _ _ _ eQ fun b hb o e=>(I7.pin (b,o) (cT _ (cT _ (jW hb e)))).1,fun b hb=>?_⟩
    obtain ⟨o,e,d⟩:=T.obj _ _ eQ b hb
    exact (I7.pin (b,o) (cT _ (cT _ (jW hb e)))).2.1
   refine bW (pg _ s5 _ H5 y u (fun σ2 H6=>σ2=some y::ρ σ∧H6=H5) kM r5 ⟨rfl,rfl⟩) (fun _ s6 ⟨σ6,H6,I6,q6⟩=>?_) fun _ _ z=>z.elim
   obtain ⟨rfl,rfl⟩:=q6
   have nB:=step y _ y5
   have tests:∀{f9:TT},j7 (X.iy N scope cl x s3 (upd H2 D (.lst [])) fp) ifs f9→∀{R:Bool→Hp→Prop},f9 (some y::ρ σ) H6 R→wpAny (model X.prog X.w) X.A
     (forIn ifs true fun c r=>if r=true then do let ok ←isTrue c (compEnvC scope ((x,s3.heap.objs.size+1)::cl) s3.heap.objs.size X.env) (eval c (compEnvC scope ((x,s3.heap.objs.size+1)::cl) s3.heap.objs.size X.env));pure (ForInStep.yield ok) else pure (ForInStep.yield r))
     (fun ok s7=>∃H7,Inv (X.iy N scope cl x s3 (upd H2 D (.lst [])) fp) ([]++iL fp s5.heap) (some y::ρ σ) H7 s7∧R ok H7) (fun _ _=>False) s6:=fun{f9} p {R} hR=>by
    cases p with
    | nil=>exact x8 ⟨_,I6,hR⟩
    | one p=>exact x9 (p _ s6 _ _ _ I6 hR)
   refine bW (tests (ht s3 _ fp) nB) (fun ok s7 ⟨H7,I7,q7⟩=>?_) fun _ _ z=>z.elim
   cases ok with
   | false=>
    obtain ⟨m',dB,w7⟩:=q7
    obtain ⟨a1,a2,a3⟩:=again I7
    exact ⟨m',dB,i+1,ys,_,H7,a1,a2,a3,w7⟩
   | true=>
    refine bW (he s3 _ fp _ s7 _ H7 _ I7 q7) (fun ev s8 ⟨z,H8,I8,r8,nC,hz,m',dB,w8⟩=>?_) fun _ _ z=>z.elim
    refine bW (iM (X:=X.iy N scope cl x s3 (upd H2 D (.lst [])) fp) _ s8 _ H8 (.ref D) [z] (.ref D) [ev] (fun _ H9=>H9=upd H8 D (.lst (ys++[z]))) I8 rfl (.cons r8 .nil) ⟨D,ys,z,rfl,rfl,nC,hz,rfl⟩) (fun _ s9 ⟨_,H9,I9,_,q9⟩=>?_) fun _ _ z=>z.elim
    subst q9
    obtain ⟨a1,a2,a3⟩:=again I9
    exact ⟨m',dB,i+1,ys++[z],_,_,a1,a2,a3,w8⟩
 have start:=loop s3.toks
 have es:({s3 with heap:=h₁,toks:=s3.toks}:Shared)={s2 with heap:=h₁}:=by rw [←fZ]
 rw [es] at start
 exact x_ start (T.self _ 0 _ _ _ (T.keep _ _ _ fm fun b hb o e=>cK _ _ (dS _ _ e)) start)
end
structure Kl (J:It) (zs:List (V×V)) (H1:Hp):Prop where
 go:∀i Hc,af H1 Hc→i<zs.length→J.go i Hc
 eO:∀i Hc v H',af H1 Hc→J.eO i Hc v H'→∃T x y,v=.ref T∧Hc T=none∧H'=upd Hc T (.tup [x,y])∧(i<zs.length→zs[i]?=some (x,y))
 stop:∀i Hc,af H1 Hc→zs.length≤i→J.stop i Hc
theorem Bg(kW:∀R:It→Hp→Prop,(∀J H1,af H H1→nM J xs H1→R J H1)→wi σ H R)(hn:xs.length<sizeLine)
  (P:Addr→Nat→V→Hp→Prop) (mono:∀D i y H H' ys,P D i y H→H D=some (.lst ys)→(∀b o,b≠D→H b=some o→H' b=some o)→P D i y H')
  (step:∀D i x,xs[i]?=some x→∀(Hc:Hp) (R:VK),af H Hc→(∃ys,Hc D=some (.lst ys))→(∀y H3,af Hc H3→P D i y H3→R y H3)→te (some x::ρ σ) Hc R)
  (fin:∀D ys Hc,H D=none→af H Hc→ys.length=xs.length→(∀(i:Nat) (y:V),ys[i]?=some y→P D i y Hc)→Hc D=some (.lst ys)→Q (.ref D) Hc):jr wi ρ (fun _ H Q=>Q true H) te σ H Q:=by
 refine kW _ fun J H1 s1 js=>?_;intro D nD;have hD:H D=none:=by
  cases e:H D with
  | none=>rfl
  | some o=>rw [s1 _ _ e] at nD;cases nD
 exact J8 (ρσ:=ρ σ) (te:=te) (Q:=Q) js nD hn (P D) (mono D) (fun i x hx Hc R sc=>step D i x hx Hc R (s1.trans sc)) (fun ys Hc sc=>fin D ys Hc hD (s1.trans sc))
section
variable {X:Cx} {K:aC}
theorem iT(hK:X.K=K:=by rfl):yq X (JI K):=by subst hK;exact a9
def Ta(K:aC):List V→Hp→VK→Prop:=fun xs H Q=>∃p ys,xs=[.ref p]∧(b5 K H p ys∨dO K H p ys)∧Q (.int (ys.length:Int)) H
theorem Tb(hK:X.K=K:=by rfl):gO X (.builtin "len") (Ta K):=by subst hK;exact eC
theorem Km{tg l:Expr}{tl:TE}(hl:PE X l tl)(hK:X.K=K:=by rfl):PI X tg l (IZ K tl):=by subst hK;exact d_ hl
def Tc(K:aC):List V→Hp→VK→Prop:=fun xs H Q=>∃p ys,xs=[.ref p]∧(b5 K H p ys∨dO K H p ys)∧∀l,H l=none→Q (.ref l) (upd H l (.lst ys))
theorem Bh(hK:X.K=K:=by rfl):gO X (.type "list") (Tc K):=by subst hK;exact yy
end
end L2
namespace My
open PySem L2
variable {te:TE} {σ:St} {H:Hp}
theorem EW{r:List V→Hp→VK→Prop}{Q:VK}(h:te σ H fun x H1=>r [x] H1 Q):Eo r (AN te qr) σ H Q:=h
variable {D:Ends}
theorem gP(h:te σ H D.rt):IU te D σ H:=h
variable {q:Int}
theorem Te{b c:Int}(hq:aT q)(h1:¬q∣b)(h2:¬q∣c):¬q∣b*c:=fun h=>by
 rcases hq with rfl | ⟨q2,q3,q4⟩
 ·have z:=eS.mp h
  rcases mL.mp z with z | z;·exact h1 (by rw [z];exact i8 0)
  ·exact h2 (by rw [z];exact i8 0)
 ·have k1:=fg c (show q≠0 by lia)
  have k2:=fI c (show 0<q by lia)
  have k3:c % q≠0:=fun z=>h2 (DU z);have g:=EO q2 q3 q4 (show 1≤c % q by lia) k2
  obtain ⟨w,ew⟩:=SM c q;exact h1 (SK q2 (SJ g ⟨-w,by rw [lI];lia⟩) h)
theorem Tf{c:TT}{t u:TS}(h:c σ H fun b H1=>if b=true then t D σ H1 else u D σ H1):IV c t u D σ H:=h
theorem Tg{Q:Bool→Hp→Prop}(h:te σ H fun x H1=>∃c,x=.bl c∧Q c H1):tB te σ H Q:=h
theorem Kn{vs:List V}{b:Bool}(h:∀(i:Nat) (v:V),vs[i]?=some v→v=.bl b):vs=(List.replicate vs.length b).map V.bl:=by
 refine List.ext_getElem? fun i=>?_;rw [cC];by_cases hi:i<vs.length
 ·rw [show vs[i]?=some vs[i] by simp [hi],h i vs[i] (by simp [hi])]
  simp [hi]
 ·rw [List.getElem?_eq_none (by lia),List.getElem?_eq_none (by simp;lia)]
  rfl
theorem Th(n:Nat):(List.replicate n false).any id=false:=by simp
theorem Ti(n:Nat):(List.replicate n true).all id=true:=by simp
variable {H':Hp}
theorem none_of{b:Addr}(s:af H H')(h:H' b=none):H b=none:=by
 cases e:H b with
 | none=>rfl
 | some o=>rw [s _ _ e] at h;cases h
def o1:Int×Int:=(0,1)
theorem getD_at{α:Type}{xs:List α}{d:α}{i:Nat}(hi:i<xs.length):xs.getD i d=xs[i]:=by
 rw [i6,show xs[i]?=some xs[i] by simp [hi]]
 rfl
def a_:Nat→(Nat→Int)→Int
 | 0,_=>0
 | n+1,f=>f 0+a_ n fun i=>f (i+1)
theorem g8:∀{n:Nat} {f g:Nat→Int},(∀i,i<n→f i=g i)→a_ n f=a_ n g
 | 0,f,g,_=>rfl
 | n+1,f,g,h=>by unfold a_;rw [h 0 (by lia),g8 fun i hi=>h (i+1) (by lia)]
theorem qG:∀(n:Nat) (f g:Nat→Int),a_ n (fun i=>f i+g i)=a_ n f+a_ n g
 | 0,f,g=>rfl
 | n+1,f,g=>by show f 0+g 0+a_ n (fun i=>f (i+1)+g (i+1))=(f 0+a_ n fun i=>f (i+1))+(g 0+a_ n fun i=>g (i+1));rw [qG n];lia
theorem k6(c:Int):∀(n:Nat) (f:Nat→Int),c*a_ n f=a_ n fun i=>c*f i
 | 0,f=>by unfold a_;rw [h_]
 | n+1,f=>by unfold a_;rw [Int.mul_add,k6 c n]
theorem yO:∀(n:Nat),a_ n (fun _=>0)=0
 | 0=>rfl
 | n+1=>by unfold a_;rw [yO n];rfl
variable {B:Nat} {v:V}
theorem yP(hB:1≤B){a:Int}(h:J6 H q v a 1)(hq:aT q)(ha:a=0∨a=1):aV B H q v a 1:=by
 rcases h with ⟨rfl,r,rfl,e⟩ | ⟨q2,r,rfl,r0,r1,er⟩
 ·rw [(J5 a).1,(J5 a).2] at e
  exact .a7 e ⟨by decide,Int.gcd_one_right ..⟩ (by rcases ha with rfl | rfl <;> simp [hB]) (by simpa using hB)
 ·have q3:q≤997:=by rcases hq with z | ⟨_,z,_⟩ <;> lia
  rw [pZ (show (0:Int)≤1 by decide) (show (1:Int)<q by lia),gu,pZ r0 r1] at er
  have ea:a % q=a:=pZ (by lia) (by lia)
  rw [ea] at er;subst er;exact .rem r0 r1 q3
theorem Bi(hq:aT q):¬oW q 1:=fun h=>by
 unfold oW at h;rcases hq with rfl | ⟨q2,q3,q4⟩;·rw [ar rfl] at h;lia
 ·rw [au (by lia),pZ (by lia) (by lia)] at h;lia
def qH(B:Nat)(H:Hp)(q:Int)(a:Addr)(ps:cE):Prop:=∃vs:List V,H a=some (.lst vs)∧vs.length=ps.length∧∀(i:Nat) (v:V) (p:Int×Int),vs[i]?=some v→ps[i]?=some p→aV B H q v p.1 p.2
theorem qH.mono{a:Addr}{ps:cE}(h:qH B H q a ps)(s:af H H'):qH B H' q a ps:=by obtain ⟨vs,e,l,k⟩:=h;exact ⟨vs,s _ _ e,l,fun i v p h1 h2=>(k i v p h1 h2).mono s⟩
theorem EX{K:aC}{B':Nat}{u:V}{x m:Int}{R:VK}(hv:aV B H q v x m)(hu:aV B' H q u 0 1)(k:R (.bl (decide (x=0))) H):J4 K v u H R:=by
 cases hv with
 | a7 e l bx bm=>
  cases hu with
  | a7 e' l' _ _=>
   refine .inr (.inr (.inl ⟨_,_,_,_,rfl,rfl,.of e,.of e',rfl,rfl,?_⟩));have z:(g7 [V.int x,V.int m] [V.int 0,V.int 1])=decide (x=0):=by
    show ((x == 0) && ((m == 1) && true))=_;by_cases hx:x=0
    ·subst hx
     have:=l.gc;rw [Int.gcd_zero_left] at this;have:=l.pos;have:m=1:=by lia
     subst this;rfl
    ·rw [dc hx,show (x == 0)=false from mH.mpr hx]
     rfl
   show R (.bl (g7 [V.int x,V.int m] [V.int 0,V.int 1])) H;rw [z];exact k
  | rem h0 h1 h2=>lia
 | rem h0 h1 h2=>
  cases hu with
  | a7=>lia
  | rem Bj uH qC=>
   refine .inr (.inr (.inr ⟨by simp [Eh],?_⟩))
   rw [f_];exact k
end My
namespace L2
open PySem PySem.Spec PyProof.Rows
end L2
namespace My
open PySem L2
def l9(q:Int):Td:=if q=0 then .a "fractions" else .b "wheel" q
theorem Tj{q:Int}(hq:aT q):(l9 q).good=true:=by
 unfold l9;rcases hq with rfl | ⟨h1,h2,h3⟩;·rw [ar rfl];simp [Td.good,Td.yI]
 ·rw [au (by lia)];simp [Td.good,Td.yI,Td.j6,h1,h2,h3]
def Ko(H:Hp)(td:Addr)(q:Int):Prop:=H td=some (.tup (l9 q).vs)
end My
namespace L2
open PySem PySem.Spec PyProof.Rows
theorem Bk{K:aC}{wi:TI}{ρ:St→St}{te:TE}{σ:St}{H:Hp}{Q:VK}{Z:List (V×V)→Hp→Prop}(kW:∀R:It→Hp→Prop,(∀J H1 zs,af H H1→Kl J zs H1→zs.length<sizeLine→Z zs H1→R J H1)→wi σ H R)
  (P:Addr→Nat→V→Hp→Prop) (mono:∀D i y H H' ys,P D i y H→H D=some (.lst ys)→(∀b o,b≠D→H b=some o→H' b=some o)→P D i y H')
  (step:∀zs H1,Z zs H1→af H H1→∀D i x y,zs[i]?=some (x,y)→∀(Hc:Hp) (R:VK),af H1 Hc→(∃ys,Hc D=some (.lst ys))→(∀v H3,af Hc H3→P D i v H3→R v H3)→te (some x::some y::ρ σ) Hc R)
  (fin:∀zs H1,Z zs H1→af H H1→∀D vs Hc,H D=none→af H1 Hc→vs.length=zs.length→(∀(i:Nat) (v:V),vs[i]?=some v→P D i v Hc)→Hc D=some (.lst vs)→Q (.ref D) Hc):Ba K wi ρ (fun _ H Q=>Q true H) te σ H Q:=by
 refine kW _ fun J H1 zs s1 js hn hZ=>?_;intro D nD;have hD:H D=none:=by
  cases e:H D with
  | none=>rfl
  | some o=>rw [s1 _ _ e] at nD;cases nD
 refine ⟨fun i m vs Hc=>m=zs.length-i∧i≤zs.length∧Hc D=some (.lst vs)∧af H1 Hc∧vs.length=i∧∀(j:Nat) (v:V),vs[j]?=some v→P D j v Hc,⟨_,rfl,cn _,ay,gF (af.refl H1) nD,rfl,fun j y e=>by simp at e⟩,?_⟩
 rintro i m vs Hc ⟨rfl,hi,eD,sH,el,hP⟩;refine ⟨eD,?_⟩;by_cases cq:i<zs.length
 ·refine .inr ⟨js.go i Hc sH cq,fun v H' hy=>?_⟩
  obtain ⟨T,x,y,ev,nT,eH,hx⟩:=js.eO i Hc v H' sH hy;subst ev eH;refine ⟨T,x,y,rfl,.of ay,?_⟩;dsimp only;rw [ar rfl];have sT:af Hc (upd Hc T (.tup [x,y])):=fun b o e=>by rw [aJ (iJ e nT)];exact e
  refine step zs H1 hZ s1 D i x y (hx cq) _ _ (sH.trans sT) ⟨vs,sT _ _ eD⟩ fun w H3 s3 hp=>?_;have e3:=s3 _ _ (sT _ _ eD);have bG:∀b o,b≠D→H3 b=some o→upd H3 D (.lst (vs++[w])) b=some o:=fun b o nb e=>by rw [aJ nb];exact e
  refine ⟨e3,by lia,zs.length-(i+1),by lia,rfl,cq,ay,gF (sH.trans (sT.trans s3)) nD,by simp [el],fun j v' e=>?_⟩
  by_cases hj:j<i;·exact mono D j v' Hc _ vs (hP j v' (by rw [oy (by lia)] at e;exact e)) eD fun b o nb e=>bG b o nb (s3 _ _ (sT _ _ e))
  ·have hj:j=i:=by have:=(bZ.mp e).1;simp at this;lia
   subst hj;have e':v'=w:=by rw [ox (by lia),el,Nat.sub_self] at e;simpa using e.symm
   subst e';exact mono D _ _ H3 _ vs hp e3 bG
 ·have e:i=zs.length:=by lia
  subst e;exact .inl ⟨js.stop _ Hc sH (aN _),fin zs H1 hZ s1 D vs Hc hD sH el hP eD⟩
end L2
namespace My
open PySem L2
theorem Kp{a d t b:Int}(l:cg a d)(hb:1≤b)(e:a*b=t*d):a=l5 t b∧d=l6 t b:=by
 have z:=SG (a:=t) (show b≠0 by lia)
 have hd:=l.pos;have hd2:=z.1.pos;refine SN l z.1 ?_;refine J7 (c:=b) (by lia) ?_
 have z2:=z.2.1;grind
end My
namespace L2
open PySem PySem.Spec PyProof.Rows
def uI(K:aC)(l:Addr):It:=
  ⟨fun i H=>∃xs x,b5 K H l xs∧xs[i]?=some x,
   fun i H v H'=>∃T x,H T=none∧v=.ref T∧H'=upd H T (.tup [.int (i:Int),x])∧∀xs,b5 K H l xs→xs[i]?=some x,
   fun i H=>∃xs,b5 K H l xs∧xs.length≤i⟩
variable {K:aC} {l:Addr}
theorem Tn{P:Program}{w:World}{elts:List Expr}{k:Nat}{pos:Pos}{e it:Addr}(Kq:e≠it):Turn P w K (.Tuple elts k pos) (uI K l) [e,it] e
  (fun i h=>(∃old,IsEnum h e it (i:Int) old)∧h.IsListIter it l i) where
 mem:=by simp
 obj:=fun i h st b hb=>by
  obtain ⟨⟨old,he⟩,h1⟩:=st;simp only [dy,ub,or_false] at hb;rcases hb with rfl | rfl;·exact ⟨_,he,fun v z=>by cases z⟩
  ·obtain ⟨o,e,c,d⟩:=h1
   exact ⟨o,e,fun v z=>by rw [d] at z;cases z⟩
 keep:=fun i h h' st k=>by obtain ⟨⟨old,he⟩,h1⟩:=st;exact ⟨⟨old,k _ (by simp) _ he⟩,h1.at fun o e=>k _ (by simp) o e⟩
 item:=by
  intro X hP hw hK hc i pins s σ H E I hf st hg;subst hP hw hK;obtain ⟨⟨old,he⟩,h1⟩:=st;obtain ⟨xs,x,uJ,hx⟩:=hg;obtain ⟨ai,rv,p,_⟩:=I.list uJ;obtain ⟨u,hu,ru⟩:=rv.get hx;refine wpAny_pyNext_enum_item he h1 p.isList (x:=u) (by simpa using hu) Kq fun h' g1 g2 g3 g4 g5=>⟨_,rfl,?_⟩
  refine wpAny_letOwnedTupleGo_enum g1 fun Bl q1 sb=>?_;have Bm:H s.heap.objs.size=none:=I.az.fresh (aN _);have lt:∀b o,s.heap.get? b=some o→b≠s.heap.objs.size:=fun b o e=>d5 (bU e);have keep:∀b o,b∉[e,it]→s.heap.get? b=some o→Bl.get? b=some o:=fun b o nb e=>by simp only [dy,ub,or_false,not_or] at nb;exact sb.extBut _ _ nb.1 (g5 b o nb.1 nb.2 e)
  have elt:e≠s.heap.objs.size:=lt _ _ he;have pT:=sb.extBut _ _ elt.symm g3;have yQ:∀{b:Addr} {o:HO} (e:H b=some o),upd H s.heap.objs.size (.tup [.int (i:Int),x]) b=some o:=fun e=>by rw [aJ (iJ e Bm)];exact e
  have az:cA X.prog X.w (upd H s.heap.objs.size (.tup [.int (i:Int),x])) Bl:=fun b o e=>by
   by_cases hb:b=s.heap.objs.size
   ·subst hb
    rw [ay] at e;cases e;exact ⟨by show 2≤sizeLine;decide,[.int i s.toks,u],.cons ⟨_,rfl⟩ (.cons ru .nil),⟨_,pT,rfl,_,rfl⟩⟩
   ·rw [aJ hb] at e
    refine (I.az b o e).jc (fun c v fk q=>keep c v (fun m=>?_) q) (fun c q=>yQ q) fun c xs q=>yQ q;have nn:=(hf c m).1;rcases fk with rfl | fk;·rw [nn] at e;cases e
    ·rw [nn] at fk;cases fk
  have u1:Un (cG X.stack) [e,it] H (upd H s.heap.objs.size (.tup [.int (i:Int),x])) s.heap Bl:=
   ⟨fun b o e n _ hx=>keep b o hx e,fun b o e n _ hx=>⟨o.slots,keep b o hx e⟩,fun b o e n hx=>by rw [aJ (lt b o e)];exact n,fun b o e hx=>⟨o,keep b o hx e⟩,fun b xs e=>yQ e,fun b o u e=>yQ e,fun b ps e=>⟨#[],by rw [yQ e];simp⟩⟩
  refine ⟨.ref s.heap.objs.size,upd H s.heap.objs.size (.tup [.int (i:Int),x]),I.lO (s':={s with heap:=Bl,toks:=s.toks+1}) (ch:=[e,it]) rfl u1 az I.bare (fun b hb=>?_),rfl,⟨_,x,Bm,rfl,rfl,fun as ha=>by rw [I.IT ha uJ];exact hx⟩,?_,fun b hb=>?_⟩
  ·obtain ⟨f0,f1,f2,f3,f4,f5⟩:=hf b hb
   exact ⟨f3,f1,f4,f5⟩
  ·refine ⟨⟨u,?_⟩,g2.extBut sb.extBut Kq.symm⟩
   have z:((i+1:Nat):Int)=(i:Int)+1:=by lia
   rw [z];exact q1
  ·have nb:b≠s.heap.objs.size:=by
    simp only [dy,ub,or_false] at hb;rcases hb with rfl | rfl;·exact lt _ _ he
    ·obtain ⟨o,e,_⟩:=h1;exact lt _ _ e
   rw [aJ nb];exact (hf b hb).1
 done:=by
  intro X hP hw hK hc i pins s σ H E I hf st hg;subst hP hw hK;obtain ⟨⟨old,he⟩,h1⟩:=st;obtain ⟨xs,uJ,hx⟩:=hg;obtain ⟨ai,rv,p,_⟩:=I.list uJ;have hl:=rv.length;refine wpAny_pyNext_enum_end (I.ok.hd hc) he h1 p.isList (by simp;lia) fun h' g=>⟨rfl,?_⟩
  have keep:∀b o,b∉[e,it]→s.heap.get? b=some o→h'.get? b=some o:=fun b o nb e=>by simp only [dy,ub,or_false,not_or] at nb;exact g b o nb.2 e
  have az:cA X.prog X.w H h':=fun b o e=>by
   refine (I.az b o e).jc (fun c v fk q=>keep c v (fun m=>?_) q) (fun c q=>q) fun c xs q=>q;have nn:=(hf c m).1;rcases fk with rfl | fk;·rw [nn] at e;cases e
   ·rw [nn] at fk;cases fk
  have u1:Un (cG X.stack) [e,it] H H s.heap h':=
   ⟨fun b o e n _ hx=>keep b o hx e,fun b o e n _ hx=>⟨o.slots,keep b o hx e⟩,fun b o e n hx=>n,fun b o e hx=>⟨o,keep b o hx e⟩,fun b xs e=>e,fun b o u e=>e,fun b ps e=>⟨#[],by rw [e];simp⟩⟩
  refine I.lO (s':={s with heap:=h'}) (ch:=[e,it]) rfl u1 az I.bare fun b hb=>?_;obtain ⟨f0,f1,f2,f3,f4,f5⟩:=hf b hb;exact ⟨f3,f1,f4,f5⟩
 self:=fun _ _ _ _ _ st h=>by obtain ⟨⟨old,he⟩,_⟩:=st;exact wpAny_pyIter_enum he h
theorem boot_enumerate:bootBuiltins "enumerate"=some (.type "enumerate"):=by decide +kernel
def To(K:aC)(ta:TA):TI:=fun σ H R=>ta σ H fun vs H1=>∃l,vs=[.ref l]∧(∃xs,b5 K H1 l xs)∧R (uI K l) H1
section
variable {X:Cx}
theorem uK{elts:List Expr}{k:Nat}{AM:Pos}{a:Expr}{ta:TA}{p pos:Pos}(hg:Gl X "enumerate")(hm:X.mg "enumerate"=none)(ha:PA X [a] ta)(hs:starEach [a] X.env=[(false,eval a X.env)]:=by rfl) :
  PI X (.Tuple elts k AM) (.Call (.Name "enumerate" p) [a] [] pos) (To X.K ta):=by
 intro pins s σ H R I h;refine Call_ (qg I hg hm boot_enumerate (xT (aO (ha pos pins s σ H _ I h) fun us s1 ⟨vs,H1,I1,r1,q1⟩=>?_) hs rfl));obtain ⟨l,e,⟨xs,uJ⟩,q⟩:=q1;subst e;obtain ⟨u,rfl,ru⟩:=vals1 r1;cases ru;obtain ⟨ai,rv,p1,_⟩:=I1.list uJ;refine call_enumerate_list p1.isList fun h' z1 z2 z3 z4=>?_;refine wpAny_pyIter_enum (s:={s1 with heap:=h'}) z1 ?_;refine ⟨_,_,_,_,H1,rfl,I1.kept (t':=s1.toks) z4,Tn (Nat.succ_ne_self _),⟨⟨_,z1⟩,z2⟩,fun b hb=>?_,q⟩;have le:s1.heap.objs.size≤b:=by
  simp only [dy,ub,or_false] at hb;rcases hb with rfl | rfl;·exact ye ..
  ·exact aN _
 exact I1.ug le (I1.az.fresh le)
end
theorem Kr{xs:List V}{g:TG}{tb:TS}{D:Ends}{σ:St}{H:Hp}(Pv:Nat→St→Hp→Prop)(h0:Pv 0 σ H)(hl:∀i σ H,Pv i σ H→b5 K H l xs)
  (hs:∀(i:Nat) (x:V) σ H T,xs[i]?=some x→Pv i σ H→H T=none→g (.ref T) σ (upd H T (.tup [.int (i:Int),x])) fun σ2 H2=>tb {D with nx:=Pv (i+1),ct:=Pv (i+1),bk:=D.nx} σ2 H2) (hd:∀σ H,Pv xs.length σ H→D.nx σ H) :
  ∃W:Nat→Nat→St→Hp→Prop,(∃m,W 0 m σ H)∧∀i m σ H,W i m σ H→
   ((uI K l).stop i H∧D.nx σ H)∨((uI K l).go i H∧∃N:St→Hp→Prop,(∀σ' H',N σ' H'→∃m',m'<m∧W (i+1) m' σ' H')∧∀x H',(uI K l).eO i H x H'→g x σ H' fun σ2 H2=>tb {D with nx:=N,ct:=N,bk:=D.nx} σ2 H2):=by
 refine ⟨fun i m σ H=>m=xs.length-i∧i≤xs.length∧Pv i σ H,⟨xs.length,by simp,cn _,h0⟩,?_⟩
 rintro i m σ H ⟨rfl,hi,p⟩;have q1:=hl i σ H p;by_cases cq:i<xs.length
 ·refine .inr ⟨⟨xs,xs[i],q1,by simp [cq]⟩,Pv (i+1),fun σ' H' p'=>⟨xs.length-(i+1),by lia,rfl,cq,p'⟩,fun v H' hy=>?_⟩
  obtain ⟨T,x,nT,rfl,rfl,hx⟩:=hy;exact hs i x σ H T (hx xs q1) p nT
 ·have e:i=xs.length:=by lia
  subst e;exact .inl ⟨⟨xs,q1,aN _⟩,hd σ H p⟩
end L2
namespace My
open PySem L2
theorem uM:∀(n:Nat) (f:Nat→Int),a_ (n+1) f=a_ n f+f n
 | 0,f=>by show f 0+0=0+f 0;lia
 | n+1,f=>by show f 0+a_ (n+1) (fun i=>f (i+1))=(f 0+a_ n fun i=>f (i+1))+f (n+1);rw [uM n];lia
end My
namespace L2
open PySem PySem.Spec PyProof.Rows
section
variable {X:Cx} {tg:Expr}
end
end L2
namespace My
open PySem L2
def Cg(q a b:Int):Prop:=q∣a-b
variable {q:Int}
theorem Cg.refl(a:Int):Cg q a a:=⟨0,by lia⟩
variable {a b:Int}
theorem Cg.of_eq(h:a=b):Cg q a b:=h▸Cg.refl a
theorem Cg.symm(h:Cg q a b):Cg q b a:=by obtain ⟨k,e⟩:=h;exact ⟨-k,by rw [lI];lia⟩
variable {c:Int}
theorem Cg.trans(h1:Cg q a b)(h2:Cg q b c):Cg q a c:=by obtain ⟨k,e⟩:=h1;obtain ⟨l,e'⟩:=h2;exact ⟨k+l,by rw [Int.mul_add];lia⟩
theorem Cg.sub{d:Int}(h1:Cg q a b)(h2:Cg q c d):Cg q (a-c) (b-d):=by obtain ⟨k,e⟩:=h1;obtain ⟨l,e'⟩:=h2;exact ⟨k-l,by rw [Int.mul_sub];lia⟩
theorem Cg.mulL(c:Int)(h:Cg q a b):Cg q (c*a) (c*b):=by obtain ⟨k,e⟩:=h;exact ⟨c*k,by rw [←Int.mul_sub,e];grind⟩
theorem Cg.mulR(c:Int)(h:Cg q a b):Cg q (a*c) (b*c):=by rw [dD a,dD b];exact h.mulL c
theorem qI(q a:Int):Cg q (a % q) a:=⟨-(a / q),by have:=yf a q;rw [lI];lia⟩
def bO(j:Nat)(v:aF):Nat→Nat→Int:=fun i=>if i<j then v i else v (i+1)
def sgn(j:Nat):Int:=if j % 2=0 then 1 else -1
theorem EY(j:Nat):sgn (j+1)=-sgn j:=by
 unfold sgn;by_cases h:j % 2=0;·rw [ar h,au (by lia)]
 ·rw [au h,ar (by lia)];rfl
def aK:List Nat→(Nat→Nat→Int)→Int
 | [],_=>1
 | c::cs,v=>a_ (cs.length+1) fun j=>sgn j*v j c*aK cs (bO j v)
theorem yR(c:Nat)(cs:List Nat)(v:aF):aK (c::cs) v=a_ (cs.length+1) fun j=>sgn j*v j c*aK cs (bO j v):=rfl
theorem Tq{l j:Nat}(h:l≤j)(v:aF):bO l (bO (j+1) v)=bO j (bO l v):=by
 funext i
 unfold bO;by_cases h1:i<l;·rw [ar h1,ar (by lia),ar (by lia),ar h1]
 ·rw [au h1]
  by_cases h2:i<j;·rw [ar h2,au h1,ar (by lia)]
  ·rw [au h2,au (by lia),au (by lia)]
theorem Ks(n:Nat)(f:Nat→Int):a_ n (fun i=>-f i)=-a_ n f:=by
 have:=k6 (-1) n f;rw [show (fun i=>-f i)=fun i=>-1*f i from funext fun i=>by lia,←this]
 lia
theorem Tr(n:Nat)(F:aF):(a_ (n+1) fun j=>a_ n fun l=>F j l)=(a_ n fun j=>a_ (j+1) fun l=>F (j+1) l)+a_ n fun l=>a_ (l+1) fun j=>F j l:=by
 induction n with
 | zero=>rfl
 | succ n ih=>
  rw [uM (n+1) fun j=>a_ (n+1) fun l=>F j l];have e1:(a_ (n+1) fun j=>a_ (n+1) fun l=>F j l)=(a_ (n+1) fun j=>a_ n fun l=>F j l)+a_ (n+1) fun j=>F j n:=by rw [←qG];exact g8 fun j _=>uM n _
  rw [e1,ih,uM n fun j=>a_ (j+1) fun l=>F (j+1) l,uM n fun l=>a_ (l+1) fun j=>F j l];lia
theorem Kt(a b:Nat)(cs:List Nat)(v:aF):aK (a::b::cs) v=-aK (b::a::cs) v:=by
 have ex:∀x y:Nat,aK (x::y::cs) v=(a_ (cs.length+1) fun j=>a_ (j+1) fun l=>sgn (j+1)*sgn l*(v (j+1) x*v l y)*aK cs (bO j (bO l v)))-a_ (cs.length+1) fun j=>a_ (j+1) fun l=>sgn (j+1)*sgn l*(v l x*v (j+1) y)*aK cs (bO j (bO l v)):=fun x y=>by
  have e0:aK (x::y::cs) v=a_ (cs.length+2) fun j=>a_ (cs.length+1) fun l=>sgn j*v j x*(sgn l*bO j v l y*aK cs (bO l (bO j v))):=by rw [yR,e_];refine g8 fun j _=>?_;rw [yR,k6]
  rw [e0,Tr (cs.length+1)];rw [Int.sub_eq_add_neg,←Ks]
  congr 1
  ·refine g8 fun j _=>g8 fun l hl=>?_
   rw [Tq (by lia),show bO (j+1) v l y=v l y by unfold bO;rw [ar (by lia)]]
   grind
  ·refine g8 fun l _=>?_
   rw [←Ks];refine g8 fun j hj=>?_;rw [show bO j v l y=v (l+1) y by unfold bO;rw [au (by lia)],EY]
   grind
 rw [ex a b,ex b a];have f:∀x y:Nat,(a_ (cs.length+1) fun j=>a_ (j+1) fun l=>sgn (j+1)*sgn l*(v l x*v (j+1) y)*aK cs (bO j (bO l v)))=a_ (cs.length+1) fun j=>a_ (j+1) fun l=>sgn (j+1)*sgn l*(v (j+1) y*v l x)*aK cs (bO j (bO l v)):=fun x y=>g8 fun j _=>g8 fun l _=>by rw [dD (v l x)]
 rw [f a b,f b a];lia
theorem uN(c:Nat):∀(cs:List Nat) (v:aF),c∈cs→aK (c::cs) v=0
 | b::cs,v,h=>by
  by_cases e:c=b
  ·subst e
   have:=Kt c c cs v;lia
  ·have h':c∈cs:=by
    rcases dy.mp h with z | z;·exact absurd z e
    ·exact z
   rw [Kt,yR];rw [show (fun j=>sgn j*v j b*aK (c::cs) (bO j v))=fun _=>0 from funext fun j=>by rw [uN c cs _ h',h_],yO]
   rfl
def aP(e:Nat→Int)(R:aF):Nat→Nat→Int
 | 0=>e
 | i+1=>R i
theorem Ku(e:Nat→Int)(R:aF):bO 0 (aP e R)=R:=by
 funext i
 unfold bO;rw [au (by lia)]
 rfl
theorem Kv(i:Nat)(e:Nat→Int)(R:aF):bO (i+1) (aP e R)=aP e (bO i R):=by
 funext j
 unfold bO;cases j with
 | zero=>rw [ar (by lia)];rfl
 | succ j=>
  by_cases h:j<i
  ·rw [ar (by lia)]
   show R j=if j<i then R j else R (j+1)
   rw [ar h]
  ·rw [au (by lia)]
   show R (j+1)=if j<i then R j else R (j+1)
   rw [au h]
theorem ju(k:Nat)(C:List Nat)(e:Nat→Int)(R:aF):aK (k::C) (aP e R)=aK C R*e k+a_ C.length fun i=>R i k*(-(sgn i)*aK C (aP e (bO i R))):=by
 rw [yR,a_];have e0:sgn 0*aP e R 0 k*aK C (bO 0 (aP e R))=aK C R*e k:=by rw [Ku];show 1*e k*aK C R=_;rw [oC,dD]
 rw [e0]
 congr 1
 refine g8 fun i _=>?_;rw [Kv,EY];show -sgn i*R i k*_=_;grind
def uO(C:List Nat)(R:aF):Prop:=∀x:Nat→Int,(∀c∈C,(a_ C.length fun i=>R i c*x i)=0)→∀k,(a_ C.length fun i=>R i k*x i)=0
theorem Ts(R:aF):uO [] R:=fun _ _ _=>rfl
variable {C:List Nat} {R:aF}
theorem Tu{h:Nat→Int}{c:Nat}(sp:uO C R)(d0:aK C R≠0)(p0:aK (c::C) (aP h R)≠0):uO (c::C) (aP h R):=by
 intro x hx k;have ex:∀k,(a_ (c::C).length fun i=>aP h R i k*x i)=h k*x 0+a_ C.length fun i=>R i k*x (i+1):=fun k=>rfl;have hz:∀k,aK C R*(h k*x 0+a_ C.length fun i=>R i k*x (i+1))-x 0*aK (k::C) (aP h R)=a_ C.length fun i=>R i k*(aK C R*x (i+1)-x 0*(-(sgn i)*aK C (aP h (bO i R)))):=fun k=>by
  rw [ju,show (fun i=>R i k*(aK C R*x (i+1)-x 0*(-(sgn i)*aK C (aP h (bO i R)))))=fun i=>aK C R*(R i k*x (i+1)) + -(x 0)*(R i k*(-(sgn i)*aK C (aP h (bO i R)))) from funext fun i=>by grind,qG,←k6,←k6]
  grind
 have z:=sp _ fun c' fk=>by rw [←hz c',←ex c',hx c' (e9 _ fk),uN c' C _ fk];simp
 have z1:∀k,aK C R*(h k*x 0+a_ C.length fun i=>R i k*x (i+1))=x 0*aK (k::C) (aP h R):=fun k=>by have:=hz k;rw [z k] at this;omega
 have x0:x 0=0:=by
  have e:=z1 c;rw [←ex c,hx c hJ,h_] at e;rcases mL.mp e.symm with h | h;·exact h
  ·exact absurd h p0
 have e:=z1 k;rw [x0,gv] at e;rw [ex k,x0];rcases mL.mp e with h | h;·exact absurd h d0
 ·exact h
theorem Tx(sp:uO C R)(e h:Nat→Int)(c k:Nat) :
  aK C R*aK (k::c::C) (aP e (aP h R))=aK (c::C) (aP h R)*aK (k::C) (aP e R)-aK (c::C) (aP e R)*aK (k::C) (aP h R):=by
 have two:∀k,aK (k::c::C) (aP e (aP h R))=aK (c::C) (aP h R)*e k-aK (c::C) (aP e R)*h k+a_ C.length fun i=>R i k*(sgn i*aK (c::C) (aP e (aP h (bO i R)))):=fun k=>by
  rw [ju,e_,a_];have e0:aP h R 0 k*(-(sgn 0)*aK (c::C) (aP e (bO 0 (aP h R))))=-(aK (c::C) (aP e R)*h k):=by rw [Ku];show h k*(-1*_)=_;grind
  rw [e0,show (fun i=>aP h R (i+1) k*(-(sgn (i+1))*aK (c::C) (aP e (bO (i+1) (aP h R)))))=fun i=>R i k*(sgn i*aK (c::C) (aP e (aP h (bO i R)))) from funext fun i=>by rw [Kv,EY,Int.neg_neg];rfl]
  lia
 have hz:∀k,aK C R*aK (k::c::C) (aP e (aP h R))-(aK (c::C) (aP h R)*aK (k::C) (aP e R)-aK (c::C) (aP e R)*aK (k::C) (aP h R))=a_ C.length fun i=>R i k*(aK C R*(sgn i*aK (c::C) (aP e (aP h (bO i R))))-aK (c::C) (aP h R)*(-(sgn i)*aK C (aP e (bO i R)))+aK (c::C) (aP e R)*(-(sgn i)*aK C (aP h (bO i R)))):=fun k=>by
  rw [two k,ju k C e R,ju k C h R];rw [show (fun i=>R i k*(aK C R*(sgn i*aK (c::C) (aP e (aP h (bO i R))))-aK (c::C) (aP h R)*(-(sgn i)*aK C (aP e (bO i R)))+aK (c::C) (aP e R)*(-(sgn i)*aK C (aP h (bO i R)))))=fun i=>(aK C R*(R i k*(sgn i*aK (c::C) (aP e (aP h (bO i R))))) + -(aK (c::C) (aP h R))*(R i k*(-(sgn i)*aK C (aP e (bO i R)))))+aK (c::C) (aP e R)*(R i k*(-(sgn i)*aK C (aP h (bO i R)))) from funext fun i=>by grind,qG,qG,←k6,←k6,←k6]
  grind
 have z:=sp _ fun c' fk=>by rw [←hz c',uN c' (c::C) _ (e9 _ fk),uN c' C _ fk,uN c' C _ fk];simp
 have:=hz k;rw [z k] at this;omega
def l_(C:List Nat)(R:aF)(f:Nat→Int):Nat→Int:=fun k=>aK (k::C) (aP f R)
theorem Tz(R:aF)(f:Nat→Int)(k:Nat):l_ [] R f k=f k:=by show aK [k] (aP f R)=f k;rw [ju];show 1*f k+0=f k;lia
theorem TB(R:aF)(f:Nat→Int){c:Nat}(h:c∈C):l_ C R f c=0:=uN c C _ h
theorem Kw{e:Nat→Int}:∀{C:List Nat} (S:aF),C≠[]→(∀x∈C,e x=0)→aK C (aP e S)=0
 | x::C,S,_,h=>by
  rw [ju,h x hJ,h_,eU];cases C with
  | nil=>rfl
  | cons y C=>rw [show (fun i=>S i x*(-(sgn i)*aK (y::C) (aP e (bO i S))))=fun _=>0 from funext fun i=>by rw [Kw (bO i S) (by simp) fun z hz=>h z (e9 _ hz)];simp,yO]
theorem TC(sp:uO C R)(f h:Nat→Int)(c k:Nat):l_ C R h c*l_ C R f k-l_ C R f c*l_ C R h k=aK C R*l_ (c::C) (aP h R) f k:=(Tx sp f h c k).symm
def iz:Nat→Nat
 | 0=>1
 | n+1=>(n+1)*iz n
theorem Kx{M:Nat}:∀(n:Nat) (f:Nat→Int),(∀i,i<n→(f i).natAbs≤M)→(a_ n f).natAbs≤n*M
 | 0,_,_=>by show (0:Int).natAbs≤_;simp
 | n+1,f,h=>by rw [uM,Nat.succ_mul];exact aQ (Int.natAbs_add_le ..) (Nat.add_le_add (Kx n f fun i hi=>h i (by lia)) (h n (by lia)))
theorem EZ{B:Nat}:∀(C:List Nat) (v:aF),(∀i c,(v i c).natAbs≤B)→(aK C v).natAbs≤iz C.length*B ^ C.length
 | [],_,_=>by show (1:Int).natAbs≤1*B ^ 0;simp
 | c::C,v,h=>by
  rw [yR];refine aQ (Kx (M:=B*(iz C.length*B ^ C.length)) _ _ fun j _=>?_) (Nat.le_of_eq ?_)
  ·rw [dC,dC]
   have s1:(sgn j).natAbs=1:=by unfold sgn;split <;> rfl
   rw [s1,Nat.one_mul];refine fJ (h j c) (EZ C _ fun i c'=>?_);unfold bO
   split
   ·exact h _ _
   ·exact h _ _
  ·rw [e_,iz,Nat.pow_succ]
   rw [Nat.mul_assoc,Nat.mul_left_comm B,Nat.mul_comm B]
theorem uP(hq:aT q):¬q∣1:=fun h=>by
 rcases hq with rfl | ⟨h2,_⟩
 ·have:=eS.mp h
  lia
 ·have:=Int.le_of_dvd (by decide) h
  lia
theorem yS{u x:Int}(hq:aT q)(nu:¬q∣u)(h:Cg q (u*x) 0):Cg q x 0:=by unfold Cg at h ⊢;rw [lJ] at h ⊢;exact p4 fun nx=>Te hq nu nx h
end My
namespace L2
open PySem PySem.Spec PyProof.Rows
theorem TF{xs ys:List Int}(h:xs.length=ys.length):((List.range xs.length).all fun j=>g6 (.int (xs.getD j 0)) (.int (ys.getD j 0)))=decide (xs=ys):=by
 by_cases e:xs=ys
 ·subst e
  rw [cj rfl,pX];intro j _;exact Bc rfl
 ·rw [dc e]
  cases z:((List.range xs.length).all fun j=>g6 (.int (xs.getD j 0)) (.int (ys.getD j 0))) with
  | false=>rfl
  | true=>refine absurd (fK h fun j h1 h2=>?_) e;have:=pX.mp z j (e8.mpr h1);have this:(xs.getD j 0 == ys.getD j 0)=true:=this;rw [kA,i6,i6] at this;simpa [h1,h2] using this
end L2
namespace My
open PySem L2
def jv(B:Nat)(H:Hp)(q:Int)(a:Addr)(ah:dF):Prop:=∃vs:List V,H a=some (.lst vs)∧vs.length=ah.length∧∀(i:Nat) (v:V) (ps:cE),vs[i]?=some v→ah[i]?=some ps→∃r:Addr,v=.ref r∧qH B H q r ps
theorem jv.mono{B:Nat}{H H':Hp}{q:Int}{a:Addr}{ah:dF}(h:jv B H q a ah)(s:af H H'):jv B H' q a ah:=by obtain ⟨vs,e,l,k⟩:=h;exact ⟨vs,s _ _ e,l,fun i v ps h1 h2=>by obtain ⟨r,e1,e2⟩:=k i v ps h1 h2;exact ⟨r,e1,e2.mono s⟩⟩
def TH(N:Addr):Sp:=fun vs H Q E=>∃(a:Addr) (q:Int) (B:Nat) (ah:dF) (m:Nat),vs=[.ref a]∧jv B H q a ah∧1≤ah.length∧ah.length≤40∧(∀ps∈ah,ps.length=m)∧∀H',af H H'→Q (.int (m:Int)) H'
def TJ(N:Addr):Sp:=fun vs H Q E=>∃(a:Addr) (q:Int) (B:Nat) (ah:dF) (m:Nat),vs=[.ref a]∧jv B H q a ah∧1≤ah.length∧ah.length≤40∧(∀ps∈ah,ps.length=m)∧(m≠ah.length→∀H',af H H'→E (.ref N) none H')∧(m=ah.length→∀H',af H H'→Q (.int (m:Int)) H')
def atT(ah:dF)(i j:Nat):Int×Int:=(ah.getD i []).getD j o1
end My
namespace L2
open PySem PySem.Spec PyProof.Rows
end L2
namespace My
open PySem L2
theorem TK{x m a b:Int}(l:cg x m)(e:x*b=a*m):m∣b:=by
 have h:m∣x*b:=⟨a,by rw [e,dD]⟩
 have g:Int.gcd m x=1:=by rw [Int.gcd_comm];exact l.gc
 have h2:m.natAbs∣x.natAbs*b.natAbs:=by rw [←dC];exact Int.natAbs_dvd_natAbs.mpr h
 exact Int.natAbs_dvd_natAbs.mp (Nat.Coprime.dvd_of_dvd_mul_left g h2)
end My
namespace L2
open PySem PySem.Spec PyProof.Rows
section
variable {X:Cx}
end
end L2
namespace My
open PySem L2
end My
namespace L2
open PySem PySem.Spec PyProof.Rows
end L2
namespace My
open PySem L2
theorem jw{wi:TI}{ρ:St→St}{te:TE}{σ:St}{H:Hp}{Q:VK}{xs:List V}{n:Nat}(hl:xs.length=n)(kW:∀R:It→Hp→Prop,(∀J H1,af H H1→nM J xs H1→R J H1)→wi σ H R)(hn:n<sizeLine)
  (P:Addr→Nat→Addr→Hp→Prop) (mono:∀D i y H H' ys,P D i y H→y≠D→H D=some (.lst ys)→(∀b o,b≠D→H b=some o→H' b=some o)→P D i y H')
  (step:∀D (i:Nat) (x:V),xs[i]?=some x→∀(Hc:Hp) (R:VK),af H Hc→(∃ys,Hc D=some (.lst ys))→(∀y H3,af Hc H3→Hc y=none→(∃o,H3 y=some o)→P D i y H3→R (.ref y) H3)→te (some x::ρ σ) Hc R)
  (fin:∀D (A:Nat→Addr) Hc,H D=none→af H Hc→(∀i j,i<n→j<n→A i=A j→i=j)→(∀i,i<n→P D i (A i) Hc∧A i≠D)→Hc D=some (.lst ((List.range n).map fun i=>V.ref (A i)))→Q (.ref D) Hc):jr wi ρ (fun _ H Q=>Q true H) te σ H Q:=by
 refine kW _ fun J H1 s1 js=>?_;intro D nD;have hD:H D=none:=by
  cases e:H D with
  | none=>rfl
  | some o=>rw [s1 _ _ e] at nD;cases nD
 refine ⟨fun i m ys Hc=>m=n-i∧i≤n∧Hc D=some (.lst ys)∧af H1 Hc∧∃A:Nat→Addr,ys=(List.range i).map (fun j=>V.ref (A j))∧(∀a b,a<i→b<i→A a=A b→a=b)∧∀j,j<i→P D j (A j) Hc∧A j≠D∧∃o,Hc (A j)=some o,⟨_,rfl,cn _,ay,gF (af.refl H1) nD,fun _=>D,rfl,(fun a b h=>by lia),fun j h=>by lia⟩,?_⟩
 rintro i m ys Hc ⟨rfl,hi,eD,sH,A,rfl,inj,hA⟩;refine ⟨eD,?_⟩;by_cases cq:i<n
 ·refine .inr ⟨js.go i Hc sH (by lia),fun x H' hy=>?_⟩
  obtain ⟨rfl,hx⟩:=js.eO i Hc x H' sH hy;rw [ar rfl];refine step D i x (hx (by lia)) _ _ (s1.trans sH) ⟨_,eD⟩ fun y H3 s3 ny ⟨o,ho⟩ hp=>?_
  have e3:=s3 _ _ eD;have yD:y≠D:=fun e=>by rw [e,eD] at ny;cases ny
  have bG:∀b o,b≠D→H3 b=some o→upd H3 D (.lst ((List.range i).map (fun j=>V.ref (A j))++[.ref y])) b=some o:=fun b o nb e=>by rw [aJ nb];exact e
  have nA:∀j,j<i→A j≠y:=fun j hj e=>by obtain ⟨_,_,o',h'⟩:=hA j hj;rw [e,ny] at h';cases h'
  refine ⟨e3,by simp;lia,n-(i+1),by lia,rfl,cq,ay,gF (sH.trans s3) nD,fun j=>if j=i then y else A j,?_,fun a b ha hb e=>?_,fun j hj=>?_⟩
  ·rw [lK,i9]
   congr 1
   ·refine iG fun j hj=>?_
    dsimp only;rw [au (by have:=e8.mp hj;lia)]
   ·simp
  ·dsimp only at e
   by_cases z1:a=i
   ·by_cases z2:b=i
    ·lia
    ·rw [ar z1,au z2] at e
     exact absurd e.symm (nA b (by lia))
   ·by_cases z2:b=i
    ·rw [au z1,ar z2] at e
     exact absurd e (nA a (by lia))
    ·rw [au z1,au z2] at e
     exact inj a b (by lia) (by lia) e
  ·dsimp only
   by_cases z:j=i
   ·rw [ar z,z]
    exact ⟨mono D i y H3 _ _ hp yD e3 bG,yD,o,bG _ _ yD ho⟩
   ·rw [au z]
    obtain ⟨h1,h2,o',h3⟩:=hA j (by lia)
    exact ⟨mono D j (A j) H' _ _ h1 h2 eD (fun b o nb e=>bG b o nb (s3 _ _ e)),h2,o',bG _ _ h2 (s3 _ _ h3)⟩
 ·have e:i=n:=by lia
  subst e;exact .inl ⟨js.stop _ Hc sH (by lia),fin D A Hc hD (s1.trans sH) inj (fun j hj=>⟨(hA j hj).1,(hA j hj).2.1⟩) eD⟩
open PySem PySem.W PyProof.Rows
section
variable {n:Nat} {c:Nat→Int}
end
end My
namespace Tm
open PySem PySem.W PyProof.Rows
section
variable {prog:Program} {w:World} {A:Around} {E:aR} {s:Shared} {κ:SortKind} {key:Keyed→Int} {Ok:Keyed→Prop}
end
section
variable {prog:Program} {w:World} {A:Around} {E:aR} {s:Shared} {κ:SortKind} {key:Keyed→Int} {Ok:Keyed→Prop}
section
end
end
section
variable {key:Keyed→Int}
end
section
variable {prog:Program} {w:World} {A:Around} {E:aR} {s:Shared} {κ:SortKind} {key:Keyed→Int} {Ok:Keyed→Prop}
end
section
variable {prog:Program} {w:World} {A:Around} {E:aR} {s:Shared} {κ:SortKind} {key:Keyed→Int} {Ok:Keyed→Prop}
variable {arr:Array Keyed} {pend:Array (Nat×Nat×Nat)} {g:Nat}
end
section
variable {prog:Program} {w:World} {A:Around} {E:aR} {s:Shared} {κ:SortKind} {key:Keyed→Int} {Ok:Keyed→Prop} {arr:Array Keyed} {pend:Array (Nat×Nat×Nat)} {g:Nat}
end
section
variable {prog:Program} {w:World} {A:Around} {E:aR} {s:Shared} {κ:SortKind} {key:Keyed→Int} {Ok:Keyed→Prop} {arr:Array Keyed} {pend:Array (Nat×Nat×Nat)} {g:Nat}
end
section
variable {prog:Program} {w:World} {A:Around} {E:aR} {s:Shared} {κ:SortKind} {key:Keyed→Int} {Ok:Keyed→Prop} {arr:Array Keyed} {pend:Array (Nat×Nat×Nat)} {g:Nat}
end
section
variable {key:Keyed→Int} {arr agH:Array Keyed}
end
section
variable {prog:Program} {w:World} {A:Around} {E:aR} {s:Shared} {κ:SortKind} {key:Keyed→Int} {Ok:Keyed→Prop} {arr:Array Keyed} {pend:Array (Nat×Nat×Nat)} {g:Nat}
end
end Tm
namespace My
open PySem PySem.W PyProof.Rows Tm
section
variable {prog:Program} {w:World} {A:Around} {E:aR} {s:Shared}
end
open PySem PySem.W PyProof.Rows
section
variable {prog:Program} {w:World} {A:Around} {E:aR} {s:Shared}
end
end My
namespace L2
open PySem PySem.W PyProof.Rows My
end L2
namespace My
open PySem L2
def TL(K:aC):R2:=fun x y H Q=>∃a b xs,x=.ref a∧y=.ref b∧b5 K H a xs∧H b=some (.lst [])∧Q (.bl (!xs.isEmpty)) H
variable {X:Cx}
theorem TM(hu:X.A.units+64<cLine):cf X (compareOp .NotEq) (TL X.K):=by
 intro pins s σ H x y v u Q I rx ry h;obtain ⟨a,b,xs,rfl,rfl,h1,h2,q⟩:=h;cases rx;cases ry;obtain ⟨us,r1,t1,_⟩:=I.list h1;obtain ⟨vs,r2,t2,_⟩:=I.list (b5.of h2);have l1:=r1.length;have l2:=r2.length;cases xs with
 | nil=>
  refine SeqAt.RcNeAt.lists (e:=fun _=>true) t1.isList t2.isList (by simp at l1 l2 ⊢;lia) (by lia) (fun j z1 z2=>?_) _ _ _ _ ?_
  ·simp at l1
   have:us=[]:=List.length_eq_zero_iff.mp l1.symm;subst this;simp at z1
  ·rw [all_range]
   exact ⟨.bl false,H,I,rfl,q⟩
 | cons w ws=>
  refine SeqAt.RcNeAt.lists_lengths t1.isList t2.isList ?_ (by lia) _ _ _ _ ⟨.bl true,H,I,rfl,q⟩
  simp at l1 l2 ⊢;lia
def cR(H:Hp)(vs:List V)(L:cE):Prop:=vs.length=L.length∧∀(k:Nat) (v:V) (p:Int×Int),vs[k]?=some v→L[k]?=some p→∃b,v=.ref b∧H b=some (.tup [.int p.1,.int p.2])
theorem cR.nil(H:Hp):cR H [] []:=⟨rfl,fun k v p h=>by simp at h⟩
variable {H H':Hp} {L:cE}
theorem cR.mono{vs:List V}(h:cR H vs L)(s:af H H'):cR H' vs L:=⟨h.1,fun k v p h1 h2=>by obtain ⟨b,e,g⟩:=h.2 k v p h1 h2;exact ⟨b,e,s _ _ g⟩⟩
variable {xs:List V}
theorem cR.bG{vs:List V}{r:Addr}(h:cR H vs L)(e:H r=some (.lst xs))(k:∀b o,b≠r→H b=some o→H' b=some o):cR H' vs L:=⟨h.1,fun i v p h1 h2=>by obtain ⟨b,eb,g⟩:=h.2 i v p h1 h2;refine ⟨b,eb,k b _ (fun z=>?_) g⟩;rw [z,e] at g;cases g⟩
def E2(H:Hp)(t:Addr)(n:Nat)(L:cE):Prop:=∃(lt:Addr) (us:List V),H t=some (.tup [.int (n:Int),.ref lt])∧H lt=some (.tup us)∧cR H us L
theorem cR.cat{us zs:List V}{M:cE}(h:cR H us L)(g:cR H zs M):cR H (us++zs) (L++M):=⟨by simp [h.1,g.1],fun k v p h1 h2=>by
 have hl:=h.1;by_cases z:k<us.length
 ·rw [oy z] at h1
  rw [oy (by lia)] at h2
  exact h.2 k v p h1 h2
 ·rw [ox (by lia)] at h1
  rw [ox (by lia),show k-L.length=k-us.length by lia] at h2
  exact g.2 _ v p h1 h2⟩
variable {K:aC}
theorem Bn(hu:X.A.units<cLine)(hK:X.K=K:=by rfl):cf X (compareOp .NotEq) (A9 K):=by subst hK;exact uE hu
theorem oZ{B B':Nat}{q:Int}{v u:V}{x m:Int}{R:VK}(hv:aV B H q v x m)(hu:aV B' H q u 0 1)(k:R (.bl (!decide (x=0))) H):A9 K v u H R:=by
 cases hv with
 | a7 e l bx bm=>
  cases hu with
  | a7 e' l' _ _=>
   refine .inl ⟨_,_,_,_,rfl,rfl,.of e,.of e',rfl,rfl,?_⟩;have z:(g7 [V.int x,V.int m] [V.int 0,V.int 1])=decide (x=0):=by
    show ((x == 0) && ((m == 1) && true))=_;by_cases hx:x=0
    ·subst hx
     have:=l.gc;rw [Int.gcd_zero_left] at this;have:=l.pos;have:m=1:=by lia
     subst this;rfl
    ·rw [dc hx,show (x == 0)=false by simp [hx],Bool.false_and]
   rw [z];simpa using k
  | rem h0 h1 _=>lia
 | rem h0 h1 h2=>
  cases hu with
  | a7 _ _ _ _=>lia
  | rem _ _ _=>
   refine .inr ⟨rfl,?_⟩;rw [show decide (V.int x=V.int 0)=decide (x=0) by simp]
   exact k
theorem Ky{wi:TI}{ρ:St→St}{tt:TT}{te:TE}{σ:St}{Q:VK}(pr:Nat→Bool)(kW:∀R:It→Hp→Prop,(∀J,nM J xs H→R J H)→wi σ H R)(hn:xs.length<sizeLine)
  (P:Addr→Nat→V→Hp→Prop) (mono:∀D i y H H' ys,P D i y H→H D=some (.lst ys)→(∀b o,b≠D→H b=some o→H' b=some o)→P D i y H')
  (test:∀(i:Nat) (x:V),xs[i]?=some x→∀(Hc:Hp) (R:Bool→Hp→Prop),af H Hc→R (pr i) Hc→tt (some x::ρ σ) Hc R)
  (step:∀D (i:Nat) (x:V),xs[i]?=some x→∀(Hc:Hp) (R:VK),af H Hc→(∃ys,Hc D=some (.lst ys))→(∀y H3,af Hc H3→P D i y H3→R y H3)→te (some x::ρ σ) Hc R)
  (fin:∀D ys Hc,H D=none→af H Hc→ys.length=((List.range xs.length).filter pr).length→(∀(k i:Nat) (y:V),ys[k]?=some y→((List.range xs.length).filter pr)[k]?=some i→P D i y Hc)→Hc D=some (.lst ys)→Q (.ref D) Hc):jr wi ρ tt te σ H Q:=by
 refine kW _ fun J js=>?_;intro D nD;refine ⟨fun i m ys Hc=>m=xs.length-i∧i≤xs.length∧Hc D=some (.lst ys)∧af H Hc∧ys.length=((List.range i).filter pr).length∧∀(k i':Nat) (y:V),ys[k]?=some y→((List.range i).filter pr)[k]?=some i'→P D i' y Hc,⟨_,rfl,cn _,ay,gF (af.refl H) nD,rfl,fun k i y h=>by simp at h⟩,?_⟩
 rintro i m ys Hc ⟨rfl,hi,eD,sH,ly,hP⟩;refine ⟨eD,?_⟩;by_cases cq:i<xs.length
 ·refine .inr ⟨js.go i Hc sH cq,fun x H' hy=>?_⟩
  obtain ⟨rfl,hx⟩:=js.eO i Hc x H' sH hy;refine test i x (hx cq) _ _ sH ?_;have fs:(List.range (i+1)).filter pr=(List.range i).filter pr++(if pr i=true then [i] else []):=by
   rw [lK,List.filter_append]
   congr 1
   cases e:pr i <;> simp [e]
  have fl:((List.range i).filter pr).length≤i:=aQ (DV _ _) (by simp)
  cases e:pr i with
  | true=>
   rw [ar rfl];refine step D i x (hx cq) _ _ sH ⟨_,eD⟩ fun y H3 s3 hp=>?_;have e3:=s3 _ _ eD;have bG:∀b o,b≠D→H3 b=some o→upd H3 D (.lst (ys++[y])) b=some o:=fun b o nb e=>by rw [aJ nb];exact e
   refine ⟨e3,by lia,xs.length-(i+1),by lia,rfl,cq,ay,gF (sH.trans s3) nD,?_,fun k i' y' h1 h2=>?_⟩
   ·rw [fs,e,ar rfl,fe,fe,ly]
    rfl
   ·rw [fs,e,ar rfl] at h2
    by_cases z:k<ys.length
    ·rw [oy z] at h1
     rw [oy (by lia)] at h2
     refine mono D i' y' H' _ ys (hP k i' y' h1 h2) eD fun b o nb e=>bG b o nb (s3 _ _ e)
    ·have hk:=(bZ.mp h1).1
     rw [fe,oA] at hk;obtain rfl:k=ys.length:=by lia
     rw [ox (aN _),Nat.sub_self] at h1;rw [ox (by lia),show ys.length-((List.range i).filter pr).length=0 by lia] at h2
     cases h1;cases h2;exact mono D _ _ H3 _ ys hp e3 bG
  | false=>
   rw [au (by simp)]
   refine ⟨xs.length-(i+1),by lia,rfl,cq,eD,sH,?_,fun k i' y' h1 h2=>?_⟩
   ·rw [fs,e,au (by simp),tW]
    exact ly
   ·rw [fs,e,au (by simp),tW] at h2
    exact hP k i' y' h1 h2
 ·have e:i=xs.length:=by lia
  subst e;exact .inl ⟨js.stop _ Hc sH (aN _),fin D ys Hc nD sH ly hP eD⟩
def ma(n:Nat)(f:Nat→Nat→Bool)(i:Nat):List (Int×Int):=((List.range (n-(i+1))).filter fun k=>f i (i+1+k)).map fun k=>((i:Int),((i+1+k:Nat):Int))
def fB(n:Nat)(f:Nat→Nat→Bool):Nat→List (Int×Int)
 | 0=>[]
 | i+1=>fB n f i++ma n f i
variable {n i:Nat} {f:Nat→Nat→Bool}
theorem TN{p:Int×Int}(h:p∈ma n f i):∃j,i<j∧j<n∧f i j=true∧p=((i:Int),(j:Int)):=by obtain ⟨k,hk,rfl⟩:=i_.mp h;obtain ⟨h1,h2⟩:=pS.mp hk;have:=e8.mp h1;exact ⟨i+1+k,by lia,by lia,h2,rfl⟩
theorem TQ{j:Nat}(h1:i<j)(h2:j<n)(h3:f i j=true):((i:Int),(j:Int))∈ma n f i:=by
 refine i_.mpr ⟨j-(i+1),pS.mpr ⟨e8.mpr (by lia),?_⟩,?_⟩
 ·show f i (i+1+(j-(i+1)))=true
  rw [show i+1+(j-(i+1))=j by lia]
  exact h3
 ·rw [show i+1+(j-(i+1))=j by lia]
theorem mem_of{n:Nat}{f:Nat→Nat→Bool}{p:Int×Int}:∀{k:Nat},p∈fB n f k→∃i j,i<k∧i<j∧j<n∧f i j=true∧p=((i:Int),(j:Int))
 | 0,h=>by cases h
 | k+1,h=>by
  rcases fG.mp h with h | h
  ·obtain ⟨i,j,h1,h2⟩:=mem_of h
   exact ⟨i,j,by lia,h2⟩
  ·obtain ⟨j,h1⟩:=TN h
   exact ⟨k,j,by lia,h1⟩
theorem Bo{n:Nat}{f:Nat→Nat→Bool}{i j:Nat}(h1:i<j)(h2:j<n)(h3:f i j=true):∀{k:Nat},i<k→((i:Int),(j:Int))∈fB n f k
 | k+1,h=>by
  by_cases z:i=k
  ·subst z
   exact cT _ (TQ h1 h2 h3)
  ·exact mI _ (Bo h1 h2 h3 (by lia))
def jx(ah:dF)(i j:Nat):Bool:=!decide (((ah.getD i []).getD j o1).1=0)
def cy(ah:dF)(i j:Nat):Bool:=jx ah i j || jx ah j i
def TR(C:Addr):Sp:=fun vs H Q _=>∃(z a:Addr) (q:Int) (B:Nat) (ah:dF) (n i:Nat),vs=[.ref z,.ref a,.int (i:Int)]∧dU C H z q∧aT q∧jv B H q a ah∧ah.length=n∧n≤40∧(∀ps∈ah,ps.length=n)∧i<n ∧
 ∀(r:Addr) (us:List V) (H':Hp),af H H'→H r=none→H' r=some (.lst us)→cR H' us (ma n (cy ah) i)→Q (.ref r) H'
def TU(C N:Addr):Sp:=fun vs H Q E=>∃(z a:Addr) (q:Int) (B:Nat) (ah:dF) (m:Nat),vs=[.ref z,.ref a]∧dU C H z q∧aT q∧jv B H q a ah∧1≤ah.length∧ah.length≤40∧(∀ps∈ah,ps.length=m) ∧
 (m≠ah.length→∀H',af H H'→E (.ref N) none H') ∧
 (m=ah.length→∀(t:Addr) (H':Hp),af H H'→H t=none→E2 H' t m (fB m (cy ah) m)→Q (.ref t) H')
end My
namespace L2
open PySem PySem.Spec PyProof.Rows
section
variable {X:Cx} {pins:aU} {σ:St} {H:Hp} {s:Shared}
end
end L2
namespace My
open PySem L2
theorem TV{q:Int}:(l9 q).prime=if q=0 then V.aI else .int q:=by
 unfold l9
 split <;> rfl
end My
namespace L2
open PySem PySem.Spec PyProof.Rows
def E3(o:Obj):Nat:=match o.data with
 | .dict _ ep=>ep
 | _=>0
def uQ(a:Addr)(o:Obj)(aq:List (Key×V)):It:=
 ⟨fun i H=>H a=some (.cH o (.dK aq))∧i<aq.length,fun i H x H'=>H'=H∧∃kv,aq[i]?=some kv∧x=kV kv.1,fun i H=>H a=some (.cH o (.dK aq))∧aq.length≤i⟩
variable {k:Key}
theorem TY{v:Value}(h:p9 k v=true):RelV (kV k) v:=by
 rcases lL h with ⟨i,t,rfl,rfl⟩ | ⟨x,t,rfl,rfl⟩;·exact ⟨t,rfl⟩
 ·exact ⟨t,rfl⟩
theorem Kz{aq:List (Key×V)}{vs:List (Key×Value)}:∀{i:Nat} {kv:Key×V},KV aq vs→aq[i]?=some kv→∃v,vs[i]?=some (kv.1,v)
 | _,_,.nil,h=>by simp at h
 | 0,kv,.cons (b:=b) r _,h=>by simp at h;subst h;obtain ⟨k,v⟩:=b;have e:_=k:=r.1;exact ⟨v,by rw [e];rfl⟩
 | i+1,kv,.cons _ t,h=>by simp at h;obtain ⟨v,e⟩:=Kz t h;exact ⟨v,by simpa using e⟩
section
variable {X:Cx} {pins:aU} {σ:St} {H:Hp} {s:Shared}
theorem Inv.E5{a:Addr}{o:Obj}{aq:List (Key×V)}(I:Inv X pins σ H s)(h:H a=some (.cH o (.dK aq))):∃vs,KV aq vs∧s.heap.DictAt (iH X.prog X.w) a vs (E3 o):=by obtain ⟨g,_,_,vs,r,o',es,ep,g',c,d,rest⟩:=(show cP X.prog X.w H s.heap a (.cH o (.dK aq)) from I.az a _ h);rw [g] at g';cases g';refine ⟨vs,r,o,es,g,c,?_,rest⟩;rw [d];unfold E3;rw [d]
end
variable {P:Program} {w:World}
theorem TZ{K:aC}{tg:Expr}(a it:Addr)(o:Obj)(aq:List (Key×V)):Turn P w K tg (uQ a o aq) [it] it (fun i h=>h.IsKeyIter it a i aq.length (E3 o)) where
 mem:=by simp
 obj:=fun i h st b hb=>by
  have e:b=it:=by simpa using hb
  subst e;obtain ⟨o,e,c,d⟩:=st;exact ⟨o,e,fun v z=>by rw [d] at z;cases z⟩
 keep:=fun i h h' st k=>by obtain ⟨o,e,c,d⟩:=st;exact ⟨o,k it (by simp) o e,c,d⟩
 item:=by
  intro X hP hw hK hc i pins s σ H E I hf st hg;subst hP hw hK;obtain ⟨eH,hi⟩:=hg;obtain ⟨vs,r,hm⟩:=I.E5 eH;have lr:aq.length=vs.length:=Paired.length r;have ek:aq[i]?=some aq[i]:=by simp [hi]
  obtain ⟨v,ev⟩:=Kz r ek;obtain ⟨f0,f1,f2,f3,f4,f5⟩:=hf it (by simp)
  rw [lr] at st;refine wpAny_pyNext_dict_item st hm ev fun key h' hk il sb=>?_;have I1:Inv X pins σ H {s with heap:=h'}:=I.turned (t':=s.toks) (fun b o hb e=>(sb.2 b hb).trans e) f0 f1 f3 f4 f5;obtain ⟨o',e,c,d⟩:=id il;rw [←lr] at il;exact ⟨key,rfl,ym (s:={s with heap:=h'}) e c d (by decide) ⟨kV aq[i].1,H,I1,TY hk,⟨rfl,_,ek,rfl⟩,il,fun b hb=>(hf b hb).1⟩⟩
 done:=by
  intro X hP hw hK hc i pins s σ H E I hf st hg;subst hP hw hK;obtain ⟨eH,hi⟩:=hg;obtain ⟨vs,r,hm⟩:=I.E5 eH;have lr:aq.length=vs.length:=Paired.length r;obtain ⟨f0,f1,f2,f3,f4,f5⟩:=hf it (by simp)
  rw [lr] at st;exact wpAny_pyNext_dict_end (I.ok.hd hc) st hm (by simp;lia) fun h' eb=>⟨rfl,I.turned (t':=s.toks) (fun b o hb e=>eb b o hb e) f0 f1 f3 f4 f5⟩
 self:=fun _ _ _ _ _ st h=>wpAny_pyIter_keyiter st h
section
variable {X:Cx} {tg:Expr}
def T5(tl:TE):TI:=fun σ H R=>tl σ H fun x H1=>∃a aq,x=.ref a∧((H1 a=some (.dK aq)∧∀o,R (uQ a o aq) (upd H1 a (.cH o (.dK aq))))∨∃o,H1 a=some (.cH o (.dK aq))∧R (uQ a o aq) H1)
theorem T6{l:Expr}{tl:TE}(hl:PE X l tl):PI X tg l (T5 tl):=by
 intro pins s σ H R I h;refine aO (hl pins s σ H _ I h) fun v s1 ⟨x,H1,I1,r1,q1⟩=>?_;obtain ⟨a,aq,e,q⟩:=q1;subst e;cases r1;have main:∀{H2:Hp} {o:Obj},Inv X pins σ H2 s1→H2 a=some (.cH o (.dK aq))→R (uQ a o aq) H2→wpAny (model X.prog X.w) X.A (pyIter (.ref a)) (AB X pins σ tg R) X.xe s1:=fun{H2 o} I2 eH q=>by
  obtain ⟨vs,r,hm⟩:=I2.E5 eH;obtain ⟨_,_,sys,_⟩:=(show cP X.prog X.w H2 s1.heap a (.cH o (.dK aq)) from I2.az a _ eH);have lr:aq.length=vs.length:=Paired.length r;refine wpAny_pyIter_dict sys hm ?_;refine ⟨s1.heap.objs.size,[s1.heap.objs.size],_,_,H2,rfl,I2.kept (t':=s1.toks) fun b o e=>cz _ e,TZ a _ o aq,⟨_,fH _ rfl,rfl,by rw [lr];rfl⟩,fun b hb=>?_,q⟩
  have e:b=s1.heap.objs.size:=by simpa using hb
  subst e;exact I2.ug (aN _) (I2.az.fresh (aN _))
 rcases q with ⟨eH,q⟩ | ⟨o,eH,q⟩
 ·obtain ⟨hz,sys,vs,r,o,es,ep,g,c,d,rest⟩:=(show cP X.prog X.w H1 s1.heap a (.dK aq) from I1.az a _ eH)
  refine main (H2:=upd H1 a (.cH o (.dK aq))) ?_ ay (q o);exact I1.write (t':=s1.toks) (x:=a) (e:=a) (by rw [eH];exact trivial) (.inl rfl) (fun b u _ e=>e) ⟨o,g⟩ ⟨g,hz,sys,vs,r,o,es,ep,g,c,d,rest⟩
 ·exact main I1 eH q
end
section
variable (P:Program) (w:World)
end
section
variable {P:Program} {w:World} {H H':Hp} {h h':Heap} {a:Addr} {o:HO}
end
section
variable {P:Program} {w:World} {H:Hp} {h h':Heap} {x e:Addr} {o':HO}
end
section
variable {fs DZ ex kH:List Addr} {H H1 H2:Hp} {h h1 h2 h':Heap} {a x e:Addr} {o:HO}
end
section
variable {X:Cx} {pins:aU} {σ:List (Option V)} {H H':Hp} {s:Shared} {h':Heap}
end
section
variable {X:Cx}
variable {a b:Expr} {ta tb:TE} {pos:Pos}
variable {tA yk:TT} {rest:List Expr}
end
section
variable {X:Cx} {pins:aU} {σ:St} {H:Hp} {s:Shared} {a:Addr} {xs ys:List V}
end
section
variable {X:Cx} {pins:aU} {σ:St} {H:Hp} {s:Shared} {E:aR}
end
section
variable {X:Cx} {st:Stmt} {rest:List Stmt} {t u:TS} {e:Expr} {te:TE} {pos:Pos}
end
section
variable {X:Cx} {pos:Pos}
end
section
variable {X:Cx} {pos:Pos}
end
section
variable {X:Cx} {tg:Expr}
end
section
variable {X:Cx} {a b c:Expr} {ta tb tc:TE} {pos:Pos}
end
section
variable {X:Cx} {a b c:Expr} {ta tb tc:TE} {pos:Pos}
end
section
variable {prog:Program} {w:World} {A:Around} {E:aR} {s:Shared} {K:aC} {x dx C f:Addr} {mA:dh} {name:Str} {v:Value}
end
section
variable {P:Program} {w:World} {H H':Hp} {h h':Heap} {a C dx:Addr} {fs DZ:List (Str×V)}
end
section
variable {X:Cx} {pins:aU} {σ:St} {H:Hp} {s:Shared} {a C dx:Addr} {fs:List (Str×V)} {f:Str} {v:V} {A:Around} {E:aR}
end
section
variable {X:Cx} {o e value:Expr} {f:Str} {pos pos' AM:Pos} {ta tv:TE}
end
section
variable {X:Cx} {pins:aU} {σ:St} {H:Hp} {s:Shared} {A:Around} {E:aR} {Q:aR} {c:Value} {b:Bool}
end
section
variable {X:Cx} {e:Expr} {es:List Expr} {te:TE} {t:TA} {pos:Pos}
end
section
variable {X:Cx} {pins:aU} {σ:St} {H:Hp} {s s':Shared}
end
section
variable {X:Cx} {CX:ir} {k:Nat} {f C:Addr} {fd:FuncData} {ps:List Str} {sp:Sp} {ft:List V} {ds:List Value} {E:XK} {x m:Str} {p pos apos:Pos} {e o:Expr} {es:List Expr} {ta:TE} {t:TA}
end
section
variable {X:Cx} {CX:ir} {k:Nat} {f C:Addr} {fd:FuncData} {ps ks:List Str} {sp:Sp} {E:XK} {x m:Str} {p pos apos Jw:Pos} {e o:Expr} {es:List Expr} {QR:List Keyword} {te ta:TE} {t tk:TA} {nm:Option Str}
variable {g:List Value→List Value→List Value} {gV:List V→List V→List V}
end
section
variable {X:Cx} {x:Str} {p pos:Pos} {e:Expr} {es:List Expr} {t:TA} {id T:String} {r:List V→Hp→VK→Prop}
end
section
variable {κ:Type} [DecidableEq κ]
def qJ(aq:List (κ×V))(k:κ):Option V:=(aq.find? fun kv=>decide (kv.1=k)).map (·.2)
def putK(aq:List (κ×V))(k:κ)(v:V):List (κ×V):=
 if (aq.any fun kv=>decide (kv.1=k))=true then aq.map (fun kv=>if kv.1=k then (kv.1,v) else kv) else aq++[(k,v)]
variable {p:κ×V}
theorem KA{r:List (κ×V)}{k:κ}(e:p.1=k):qJ (p::r) k=some p.2:=by simp [qJ,Al,e]
theorem KC{r:List (κ×V)}{k:κ}(e:¬p.1=k):qJ (p::r) k=qJ r k:=by simp [qJ,Al,e]
theorem KD(k:κ):∀aq:List (κ×V),(aq.any fun kv=>decide (kv.1=k))=(qJ aq k).isSome
 | []=>rfl
 | p::r=>by
  rw [pW];by_cases e:p.1=k;·simp only [KA e,cj e,Bool.true_or,Option.isSome_some]
  ·rw [KC e,dc e,x4];exact KD k r
theorem KG(aq:List (κ×V))(k:κ)(v:V):(putK aq k v).length≤aq.length+1:=by
 unfold putK
 split
 ·rw [aX];lia
 ·rw [fe,e_,List.length_nil];lia
theorem jb.T7{o:Option V}{u:Option Value}(r:jb o u):o.isSome=u.isSome:=by
 cases o with
 | none=>cases u with
  | none=>rfl
  | some _=>exact (show False from r).elim
 | some _=>cases u with
  | none=>exact (show False from r).elim
  | some _=>rfl
variable {aq:List (κ×V)}
theorem KV.any{vs:List (κ×Value)}(r:KV aq vs)(k:κ):(aq.any fun kv=>decide (kv.1=k))=vs.any fun kv=>decide (kv.1=k):=by
 unfold KV at r
 induction r with
 | nil=>rfl
 | cons h t ih=>rw [pW,pW,ih,h.1]
variable {y:V} {u:Value}
theorem KV.E6{vs:List (κ×Value)}(r:KV aq vs)(k:κ)(ry:RelV y u) :
  KV (aq.map fun kv=>if kv.1=k then (kv.1,y) else kv) (vs.map fun kv=>if kv.1=k then (kv.1,u) else kv):=by
 unfold KV at r ⊢
 induction r with
 | nil=>exact .nil
 | @cons p q ps qs h t ih=>
  rw [cX,cX];refine .cons ?_ ih;obtain ⟨h1,h2⟩:=h;by_cases e:p.1=k;·rw [ar e,ar (h1.symm.trans e)];exact ⟨h1,ry⟩
  ·rw [au e,au (fun z=>e (h1.trans z))];exact ⟨h1,h2⟩
theorem KV.put{vs:List (κ×Value)}(r:KV aq vs)(k:κ)(ry:RelV y u):KV (putK aq k y) (stored vs k u):=by
 unfold putK stored;rw [r.any k];by_cases e:(vs.any fun kv=>decide (kv.1=k))=true;·rw [ar e,ar e];exact r.E6 k ry
 ·rw [au e,au e];exact Paired.snoc r ⟨rfl,ry⟩
theorem KV.length{vs:List (κ×Value)}(r:KV aq vs):aq.length=vs.length:=Paired.length r
end
variable {u:Value}
theorem KH(r:RelV (kV k) u):(iH P w).is k u=true:=by
 cases k with
 | inl i=>obtain ⟨t,e⟩:=(show ∃t,u=Value.int i t from r);subst e;exact Pn P w i t
 | inr x=>obtain ⟨t,e⟩:=(show ∃t,u=Value.str x t from r);subst e;exact Po P w x t
theorem KN{P:Program}{w:World}:∀{ks:List Key} {us:List Value},Vals (ks.map kV) us→ItemsAre (iH P w) ks us
 | [],_,r=>by rw [List.map_nil] at r;cases r;exact .nil
 | k::ks,_,r=>by
  rw [cX] at r;cases r with
  | cons h t=>exact .cons (KH h) (KN t)
abbrev KT (H:Hp):List (List Key×V)→List (List Key×Addr×Value)→Prop:=Paired fun p q=>p.1=q.1∧H q.2.1=some (.tup (p.1.map kV))∧RelV p.2 q.2.2
variable {H:Hp} {aq:List (List Key×V)} {xs:List (List Key×Addr×Value)}
theorem KT.val(r:KT H aq xs)(k:List Key):jb (qJ aq k) ((atKey xs k).map (·.2)):=by
 induction r with
 | nil=>exact True.intro
 | @cons p q ps qs h t ih=>
  obtain ⟨h1,_,h2⟩:=h;by_cases e:p.1=k
  ·have e':q.1=k:=h1.symm.trans e
   have b:atKey (q::qs) k=some q.2:=by simp [atKey,Al,e']
   rw [KA e,b];exact h2
  ·have e':¬q.1=k:=fun z=>e (h1.trans z)
   have b:atKey (q::qs) k=atKey qs k:=by simp [atKey,Al,e']
   rw [KC e,b];exact ih
variable {y:V}
theorem KT.E6(r:KT H aq xs)(k:List Key)(ry:RelV y u) :
  KT H (aq.map fun kv=>if kv.1=k then (kv.1,y) else kv) (xs.map (putAt k u)):=by
 induction r with
 | nil=>exact .nil
 | @cons p q ps qs h t ih=>
  rw [cX,cX];refine .cons ?_ ih;obtain ⟨h1,h2,h3⟩:=h;unfold putAt;by_cases e:p.1=k;·rw [ar e,ar (h1.symm.trans e)];exact ⟨h1,h2,ry⟩
  ·rw [au e,au (fun z=>e (h1.trans z))];exact ⟨h1,h2,h3⟩
theorem KT.put(r:KT H aq xs)(k:List Key){b:Addr}(hb:H b=some (.tup (k.map kV)))(ry:RelV y u) :
  KT H (putK aq k y) (storedH xs k b u):=by
 have e:(aq.any fun kv=>decide (kv.1=k))=(atKey xs k).isSome:=by rw [KD,(r.val k).T7,Option.isSome_map]
 unfold putK storedH;rw [e];by_cases q:(atKey xs k).isSome=true;·rw [ar q,ar q];exact r.E6 k ry
 ·rw [au q,au q];exact Paired.snoc r ⟨rfl,hb,ry⟩
theorem KT.keeps{H':Hp}(r:KT H aq xs)(ht:∀b ys,H b=some (.tup ys)→H' b=some (.tup ys)):KT H' aq xs:=
 Paired.DY r fun _ _ z=>⟨z.1,ht _ _ z.2.1,z.2.2⟩
section
variable {P:Program} {w:World} {H:Hp} {h:Heap} {a:Addr}
theorem KO{u:HO}(ok:cA P w H h)(e:Rd H a u):cP P w H h a u:=e.ok ok
theorem T8{aq:List (Key×V)}(ok:cA P w H h)(e:Rd H a (.dK aq)):aq.length≤sizeLine∧(a == sysModules)=false∧∃vs,KV aq vs∧h.DictOf (iH P w) a vs:=
 show cP P w H h a (.dK aq) from KO ok e
theorem T9{aq:List (Key×V)}(ok:cA P w H h)(e:H a=some (.dK aq)):aq.length≤sizeLine∧(a == sysModules)=false∧∃vs,KV aq vs∧h.DictOf (iH P w) a vs:=T8 ok (.inl e)
theorem KP{ks:List Key}(ok:cA P w H h)(e:H a=some (.tup (ks.map kV))):(tupleKind (iH P w)).is h ks a:=by obtain ⟨_,ai,r,o,h1,h2,n,h3⟩:=(show cP P w H h a (.tup (ks.map kV)) from ok a _ e);exact ⟨o,ai.toArray,n,h1,h2,h3,by simpa using KN r⟩
theorem T_(ok:cA P w H h)(e:Rd H a (.dT aq)):aq.length≤sizeLine∧(a == sysModules)=false ∧
  ∃xs,KT H aq xs∧h.DictOfH (tupleKind (iH P w)) a xs:=by
 obtain ⟨z,y,xs,r,o,es,ep,h1,h2,h3,h4,h5⟩:=(show cP P w H h a (.dT aq) from KO ok e);refine ⟨z,y,xs,r,o,es,ep,h1,h2,h3,h4,fun x hx=>?_,h5⟩;have all:∀{l:List (List Key×V)} {m:List (List Key×Addr×Value)},KT H l m→∀x∈m,(tupleKind (iH P w)).is h x.1 x.2.1:=by
  intro l m q
  induction q with
  | nil=>intro x hx;exact nomatch hx
  | @cons p q ps qs hq t ih=>
   intro x hx;rcases dy.mp hx with e | hx
   ·subst e
    exact KP ok (by rw [←hq.1];exact hq.2.1)
   ·exact ih x hx
 exact all r x hx
theorem Ua(ok:cA P w H h)(e:H a=some (.dT aq)):aq.length≤sizeLine∧(a == sysModules)=false ∧
  ∃xs,KT H aq xs∧h.DictOfH (tupleKind (iH P w)) a xs:=T_ ok (.inl e)
end
def E7(H:Hp)(a:Addr)(y v:V)(H':Hp):Prop:=
 (∃aq k,H a=some (.dK aq)∧y=kV k∧aq.length<sizeLine∧H'=upd H a (.dK (putK aq k v))) ∨
 ∃aq k b,H a=some (.dT aq)∧y=.ref b∧H b=some (.tup (k.map kV))∧aq.length<sizeLine∧H'=upd H a (.dT (putK aq k v))
section
variable {X:Cx} {pins:aU} {σ:St} {H:Hp} {s:Shared} {a:Addr} {y v:V} {u r:Value} {o:Option V} {A:Around} {E:aR}
theorem Inv.big(I:Inv X pins σ H s):sysModules<s.heap.objs.size:=by have h:mainGlobals<s.heap.objs.size:=(I.mod.glob.keeps I.bk).lt;exact Nat.lt_trans (by decide) h
variable {h':Heap}
theorem KQ{t':Nat}{ob:HO}(I:Inv X pins σ H s)(mu:yh (H a))(hs:Heap.SameBut a s.heap h')(he:∃q,h'.get? a=some q)(new:cP X.prog X.w (upd H a ob) h' a ob) :
  Inv X pins σ (upd H a ob) {s with heap:=h',toks:=t'}:=
 I.write (x:=a) (e:=a) mu (.inl rfl) (fun b q hb z=>(hs.2 b hb).trans z) he new
variable {H':Hp}
theorem Ub{aq:List (Key×V)}{vs:List (Key×Value)}(z:aq.length≤sizeLine)(hd:(a == sysModules)=false)(rel:KV aq vs)(dd:h'.DictOf (iH P w) a vs) :
  cP P w H' h' a (.dK aq):=⟨z,hd,vs,rel,dd⟩
theorem Uc{Q:Unit→Shared→Prop}(hu:A.units+1<cLine)(I:Inv X pins σ H s)(g:E7 H a y v H')(ry:RelV y u)(rv:RelV v r)(h:∀s',Inv X pins σ H' s'→Q () s') :
  wpAny (model X.prog X.w) A (setItem (.ref a) u r) Q E s:=by
 rcases g with ⟨aq,k,e,ey,l,eH⟩ | ⟨aq,k,b,e,ey,eb,l,eH⟩
 ·subst ey eH
  obtain ⟨z,hd,vs,rel,dd⟩:=T9 I.az e;have hz:vs.length≤sizeLine:=by rw [←rel.length];exact z
  have hl:(putK aq k v).length≤sizeLine:=by have:=KG aq k v;lia
  refine wpAny_setItem_pairs (hsz:=hz) (KH ry) dd fun h' yG hs=>h _ ?_;have he:∃q,h'.get? a=some q:=let ⟨q,_,_,hq,_⟩:=yG;⟨q,hq⟩
  exact KQ I (by rw [e];exact True.intro) hs he (Ub hl hd (rel.put k rv) yG)
 ·subst ey eH
  cases (show u=Value.ref b from ry);obtain ⟨z,hd,xs,rel,dd⟩:=Ua I.az e;have hz:xs.length≤sizeLine:=by rw [←Paired.length rel];exact z
  have hl:(putK aq k v).length≤sizeLine:=by have:=KG aq k v;lia
  refine wpAny_setItem_heap (hsz:=hz) (tupleKind_room_in1 hu) (KP I.az eb) dd fun h' yG hs=>h _ ?_;obtain ⟨q,es,ep,hq,h2,h3,h4,_,h5⟩:=yG;refine KQ I (by rw [e];exact True.intro) hs ⟨q,hq⟩ ⟨hl,hd,_,(rel.put k eb rv).keeps fun c ys ec=>?_,q,es,ep,hq,h2,h3,h4,h5⟩
  rw [aJ (Pq ec e (fun z=>nomatch z))];exact ec
end
section
variable {X:Cx} {pins:aU} {σ:St} {H:Hp} {s:Shared} {a:Addr} {aq:List (Key×V)} {k:Key} {u:Value} {A:Around} {E:aR}
end
def Ud(td ty tv:TE):TS:=fun D σ H=>tv σ H fun v H1=>td σ H1 fun x H2=>ty σ H2 fun y H3=>∃a H4,x=.ref a∧E7 H3 a y v H4∧D.nx σ H4
section
variable {X:Cx} {o i e value:Expr} {pos pos' AM:Pos} {td ty tv:TE}
theorem E8(hu:X.A.units+1<cLine)(ho:PE X o td)(hi:PE X i ty)(hv:PE X value tv)(hs:swapsWith value (some (.Subscript o i pos')) pos.line X.env=pure false) :
  PS X (.Assign [.Subscript o i pos'] value pos) (Ud td ty tv):=by
 intro pins s σ H D I h;refine wpAny_Assign_Subscript (aO (hv pins s σ H _ I h) fun r s1 ⟨v,H1,I1,rv,q1⟩=>aO (ho pins s1 σ H1 _ I1 q1) fun u s2 ⟨x,H2,I2,rx,q2⟩=>aO (hi pins s2 σ H2 _ I2 q2) fun iv s3 ⟨y,H3,I3,ry,a,H4,ex,g,q3⟩=>?_) hs;subst ex;obtain rfl:u=Value.ref a:=rx;exact Uc hu I3 g ry rv fun s4 I4=>⟨σ,H4,I4,q3⟩
end
theorem Ue(h:Heap)(hb:sysModules<h.objs.size):cP P w H (h.push {cls:=.type "dict",data:=.dict #[]}) h.objs.size (.dK []):=
 ⟨cn _,mH.mpr (Ne.symm (d5 hb)),[],.nil,Heap.DictOf.new h⟩
def Ug:TE:=fun _ H Q=>∀p,H p=none→Q (.ref p) (upd H p (.dK []))
section
variable {X:Cx} {pos:Pos}
theorem Uh:PE X (.Dict [] [] pos) Ug:=fun pins s σ H Q I h=>wpAny_Dict_empty ⟨.ref s.heap.objs.size,_,I.laid (a:=s.heap.objs.size) (o:=.dK []) (t':=s.toks) (fun _ _ q=>cz _ q) (aN _) (Ue s.heap I.big),rfl,h _ (I.az.fresh (aN _))⟩
end
section
variable {X:Cx} {pins:aU} {σ:St} {H:Hp} {s:Shared} {a:Addr} {y d:V} {u r:Value} {o:Option V} {A:Around} {E:aR}
end
section
variable {X:Cx} {o e f:Expr} {apos fv:Pos} {td ty tx:TE}
end
section
variable {X:Cx} {pins:aU} {σ:St} {H:Hp} {s:Shared} {a:Addr} {aq:List (Key×V)} {A:Around} {E:aR}
end
section
variable {X:Cx} {pins:aU} {σ:St} {H:Hp} {s:Shared} {a:Addr} {y:V} {u:Value} {A:Around} {E:aR}
end
end L2
namespace Att
open PySem PySem.W PySem.Calls PyProof.Rows
section
variable {prog:Program} {w:World} {A:Around} {E:aR} {s:Shared} {K:Frag}
end
end Att
namespace L2
open PySem PySem.Spec PyProof.Rows
section
variable {P:Program} {w:World} {K:aC} {mg:dh} {base:Heap}
end
section
variable {X:Cx}
end
section
variable {κ:Type} [DecidableEq κ]
end
theorem KS:∀{us:List Value} {ns:List Int},IntsAre us ns→Vals (ns.map V.int) us
 | _,_,.nil=>.nil
 | _,_,.cons a u r=>.cons ⟨u,rfl⟩ (KS r)
def Ui:List V→Hp→VK→Prop:=fun xs H Q=>∃(a:Addr) (zs:List Int),xs=[.ref a]∧H a=some (.lst (zs.map V.int))∧zs.length<64∧∀(ws:List Int) (D:Addr),ws.Perm zs→ws.Pairwise (·≤·)→H D=none→Q (.ref D) (upd H D (.lst (ws.map V.int)))
theorem E9{X:Cx}:gO X (.builtin "sorted") Ui:=by
 intro pins s σ H xs us Q I r h;obtain ⟨a,zs,rfl,ha,h64,k⟩:=h;obtain ⟨u,rfl,ru⟩:=vals1 r;cases ru;obtain ⟨ai,rv,pl,hz⟩:=I.list (.of ha);have hl:=rv.length;rw [aX] at hl;refine sorted_ints pl.isList (intsAre_of rv) (by lia) fun out KU a1 a2 a3=>?_
 obtain ⟨e,he⟩:=sortedAll_at s.heap ai out;refine ⟨.ref (s.heap.objs.size+1),_,I.laid (t':=s.toks) (o:=.lst (KU.map .int)) (fun _ _=>sortedAll_old) (mJ _) ⟨?_,out.toList,e,KS a1,?_⟩,rfl,k KU _ a2 a3 (I.az.fresh (mJ _))⟩
 ·rw [aX,a2.length_eq]
  rw [sizeLine_eq];lia
 ·simpa using he
end L2
namespace My
open PySem L2
def dk(ks:List Nat):List (Key×V):=ks.map fun k:Nat=>((Sum.inl (k:Int):Key),V.bl true)
def fP(ks:List Nat)(k:Nat):List Nat:=if k∈ks then ks else ks++[k]
theorem Uj{a b:Nat}:((Sum.inl (a:Int):Key)=Sum.inl (b:Int))↔a=b:=by
 constructor
 ·intro h
  have:=Sum.inl.inj h;lia
 ·rintro rfl;rfl
theorem Uk(ks:List Nat):(dk ks).length=ks.length:=aX _
theorem Ul(ks:List Nat)(k:Nat):((dk ks).any fun kv=>decide (kv.1=(Sum.inl (k:Int):Key)))=decide (k∈ks):=by
 rw [ou,List.any_eq_true,oE];constructor
 ·rintro ⟨kv,h1,h2⟩
  obtain ⟨j,hj,rfl⟩:=i_.mp h1;have:=Uj.mp (dN h2);subst this;exact hj
 ·intro h
  exact ⟨_,i_.mpr ⟨k,h,rfl⟩,cj rfl⟩
theorem Um(ks:List Nat)(k:Nat):putK (dk ks) (Sum.inl (k:Int):Key) (V.bl true)=dk (fP ks k):=by
 unfold putK fP;rw [Ul];by_cases h:k∈ks
 ·rw [ar (cj h),ar h]
  unfold dk;rw [ic];refine iG fun j _=>?_;show (if _ then _ else _)=_
  split <;> rfl
 ·rw [au (by rw [oE];exact h),au h]
  unfold dk;rw [i9];rfl
variable {ks:List Nat} {k j:Nat}
theorem Bp:j∈fP ks k↔j∈ks∨j=k:=by
 unfold fP;by_cases h:k∈ks
 ·rw [ar h]
  constructor;·exact .inl
  ·rintro (e | rfl)
   ·exact e
   ·exact h
 ·rw [au h,fG,dA]
theorem Uo(h:ks.Nodup):(fP ks k).Nodup:=by
 unfold fP;by_cases m:k∈ks;·rw [ar m];exact h
 ·rw [au m]
  refine uc.mpr ⟨h,(by simp),fun a ha b hb=>?_⟩
  rw [dA] at hb;subst hb;rintro rfl;exact m ha
def iA(n:Nat)(ks:List Nat):Prop:=ks.Nodup∧∀k∈ks,k<n
theorem iA.nil(n:Nat):iA n []:=⟨List.nodup_nil,fun _ h=>by cases h⟩
variable {n:Nat}
theorem iA.add(h:iA n ks)(hk:k<n):iA n (fP ks k):=⟨Uo h.1,fun j hj=>by
 rcases Bp.mp hj with e | rfl;·exact h.2 j e
 ·exact hk⟩
theorem KY:∀{n:Nat} {ks:List Nat},ks.Nodup→(∀k∈ks,k<n)→ks.length≤n
 | 0,ks,_,h=>by
  cases ks with
  | nil=>exact aN _
  | cons a r=>exact absurd (h a (hJ ..)) (mK _)
 | n+1,ks,nd,h=>by
  have e:=KY (n:=n) (ks:=ks.erase n) (nd.erase n) (fun k hk=>by have m:=(List.Nodup.mem_erase_iff nd).mp hk;have:=h k m.2;have:=m.1;lia)
  by_cases hm:n∈ks
  ·have:=List.length_erase_of_mem hm
   lia
  ·rw [List.erase_of_not_mem hm] at e
   lia
theorem iA.len(h:iA n ks):ks.length≤n:=KY h.1 h.2
structure eL (H:Hp) (D:Addr) (n:Nat) (ds:Nat→Addr) (un:Nat→Prop) (f:Nat→List Nat):Prop where
 lst:H D=some (.lst ((List.range n).map fun i=>V.ref (ds i)))
 inj:∀i j,i<n→j<n→ds i=ds j→i=j
 ne:∀i,i<n→ds i≠D
 at':∀i,i<n→un i→H (ds i)=some (.dK (dk (f i)))
 pl:∀i,i<n→iA n (f i)
def cL(f:Nat→List Nat)(i:Nat)(ks:List Nat):Nat→List Nat:=fun j=>if j=i then ks else f j
variable {H:Hp} {D:Addr} {ds:Nat→Addr} {f:Nat→List Nat} {i:Nat}
theorem eL.put{un:Nat→Prop}(h:eL H D n ds un f)(hi:i<n)(hj:j<n)(ui:un i)(hn:n≤1000) :
  E7 H (ds i) (.int (j:Int)) (.bl true) (upd H (ds i) (.dK (dk (fP (f i) j))))∧eL (upd H (ds i) (.dK (dk (fP (f i) j)))) D n ds un (cL f i (fP (f i) j)):=by
 refine ⟨.inl ⟨dk (f i),Sum.inl (j:Int),h.at' i hi ui,rfl,?_,by rw [Um]⟩,?_,h.inj,h.ne,fun k hk uk=>?_,fun k hk=>?_⟩
 ·rw [Uk]
  have:=(h.pl i hi).len;exact jQ this (jQ hn (by rw [sizeLine_eq];decide))
 ·rw [aJ (Ne.symm (h.ne i hi))]
  exact h.lst
 ·unfold cL
  by_cases e:k=i
  ·subst e
   rw [ar rfl,ay]
  ·rw [au e,aJ (fun z=>e (h.inj k i hk hi z))]
   exact h.at' k hk uk
 ·unfold cL
  by_cases e:k=i;·rw [ar e];exact (h.pl i hi).add hj
  ·rw [au e];exact h.pl k hk
theorem eL.ix{un:Nat→Prop}(h:eL H D n ds un f)(hi:i<n):jn ((List.range n).map fun i=>V.ref (ds i)) (i:Int)=some (V.ref (ds i)):=
 jo (by rw [cC,i7 hi];rfl)
def yT(n:Nat)(L:cE):Prop:=∀p∈L,0≤p.1∧p.1<(n:Int)∧0≤p.2∧p.2<(n:Int)
def iU(n:Nat)(L:cE)(f:Nat→List Nat):Prop:=∀i j:Nat,i<n→(j∈f i↔((i:Int),(j:Int))∈L∨((j:Int),(i:Int))∈L)
theorem iU.nil(n:Nat):iU n [] (fun _=>[]):=fun i j _=>by simp
theorem iU.more{L:cE}(h:iU n L f)(hi:i<n)(hj:j<n):iU n (L++[((i:Int),(j:Int))]) (cL (cL f i (fP (f i) j)) j (fP (cL f i (fP (f i) j) j) i)):=fun a b ha=>by
 have e1:∀x y:Nat,y∈cL f i (fP (f i) j) x↔y∈f x∨(x=i∧y=j):=fun x y=>by
  unfold cL;by_cases e:x=i
  ·subst e
   rw [ar rfl,Bp];simp
  ·rw [au e]
   simp [e]
 have e2:b∈cL (cL f i (fP (f i) j)) j (fP (cL f i (fP (f i) j) j) i) a↔b∈cL f i (fP (f i) j) a∨(a=j∧b=i):=by
  unfold cL;by_cases e:a=j
  ·subst e
   rw [ar rfl,Bp];simp
  ·rw [au e]
   simp [e]
 rw [e2,e1,h a b ha];simp only [fG,dA,Prod.mk.injEq];constructor
 ·rintro ((e | e) | ⟨rfl,rfl⟩)
  ·rcases e with e | e
   ·exact .inl (.inl e)
   ·exact .inr (.inl e)
  ·exact .inl (.inr ⟨by lia,by lia⟩)
  ·exact .inr (.inr ⟨rfl,rfl⟩)
 ·rintro ((e | ⟨e1,e2⟩) | (e | ⟨e1,e2⟩))
  ·exact .inl (.inl (.inl e))
  ·exact .inl (.inr ⟨by lia,by lia⟩)
  ·exact .inl (.inl (.inr e))
  ·exact .inr ⟨by lia,by lia⟩
def Up:Sp:=fun vs H Q _=>∃(t:Addr) (n:Nat) (L:cE),vs=[.ref t]∧E2 H t n L∧yT n L∧n≤1000 ∧
 ∀(H':Hp) (D:Addr) (ds:Nat→Addr) (f:Nat→List Nat),af H H'→H D=none→(∀i,i<n→H (ds i)=none)→eL H' D n ds (fun _=>True) f→iU n L f→Q (.ref D) H'
end My
namespace L2
open PySem PySem.Spec PyProof.Rows
def Uq(K:aC):R2:=fun x y H Q=>∃(a b:Addr) (xs ys:List Int),x=.ref a∧y=.ref b∧b5 K H a (xs.map V.int)∧b5 K H b (ys.map V.int)∧Q (.bl (decide (xs=ys))) H
theorem Ur{X:Cx}(hu:X.A.units+64<cLine):cf X (compareOp .Eq) (Uq X.K):=by
 intro pins s σ H x y v u Q I rx ry h;obtain ⟨a,b,xs,ys,rfl,rfl,h1,h2,q⟩:=h;cases rx;cases ry;obtain ⟨us,r1,t1,_⟩:=I.list h1;obtain ⟨vs,r2,t2,_⟩:=I.list h2;have l1:=r1.length;have l2:=r2.length;rw [aX] at l1 l2;by_cases hl:xs.length=ys.length
 ·refine SeqAt.RcAt.lists (e:=fun j=>g6 (.int (xs.getD j 0)) (.int (ys.getD j 0))) t1.isList t2.isList (by simp;lia) (by lia) (fun j z1 z2=>?_) _ _ _ _ ?_
  ·have Be:j<us.length:=by simpa using z1
   have Bf:j<vs.length:=by simpa using z2
   have ex:(xs.map V.int)[j]?=some (.int (xs.getD j 0)):=by rw [cC,i6];simp [show j<xs.length by lia]
   have ey:(ys.map V.int)[j]?=some (.int (ys.getD j 0)):=by rw [cC,i6];simp [show j<ys.length by lia]
   obtain ⟨x',kH,rx⟩:=r1.get ex;obtain ⟨y',nO,ry⟩:=r2.get ey;have e1:us.toArray[j]=x':=by simpa using (bZ.mp kH).2
   have e2:vs.toArray[j]=y':=by simpa using (bZ.mp nO).2
   rw [e1,e2];exact yu rx ry rfl rfl
  ·rw [show us.toArray.size=xs.length by simp;lia,TF hl]
   exact ⟨.bl (decide (xs=ys)),H,I,rfl,q⟩
 ·rw [dc (fun e=>hl (by rw [e]))] at q
  refine SeqAt.RcAt.lists_lengths t1.isList t2.isList ?_ (by lia) _ _ _ _ ⟨.bl false,H,I,rfl,q⟩
  simp;lia
end L2
namespace My
open PySem L2
def iN(k:Nat):Int:=(k:Int)
def nQ(zs:List Int)(n:Nat):Prop:=zs.Perm ((List.range n).map iN)
instance (zs:List Int) (n:Nat):Decidable (nQ zs n):=by unfold nQ;exact inferInstance
theorem Us(n:Nat):((List.range n).map iN).Pairwise (·≤·):=by rw [List.pairwise_map];exact List.Pairwise.imp (fun h=>by unfold iN;lia) List.pairwise_lt_range
variable {ws zs:List Int} {n:Nat}
theorem Ut(p:ws.Perm zs)(o:ws.Pairwise (·≤·)):decide (ws=(List.range n).map iN)=decide (nQ zs n):=by
 by_cases h:nQ zs n
 ·rw [cj h]
  refine cj ?_;exact (p.trans h).eq_of_pairwise (fun a b _ _ h1 h2=>by lia) o (Us n)
 ·rw [dc h]
  refine dc fun e=>h ?_;subst e;exact p.symm
def Uu:Sp:=fun vs H Q _=>∃(a:Addr) (zs:List Int) (n:Nat),vs=[.ref a,.int (n:Int)]∧H a=some (.lst (zs.map V.int))∧zs.length<64∧n≤1000∧(∀H',af H H'→Q (.bl (decide (nQ zs n))) H')
def Uv(N:Addr):Sp:=fun vs H Q E=>∃(a:Addr) (zs:List Int) (n:Nat),vs=[.ref a,.int (n:Int)]∧H a=some (.lst (zs.map V.int))∧zs.length<64∧n≤1000 ∧
 (¬nQ zs n→∀H',af H H'→E (.ref N) none H')∧(nQ zs n→∀H',af H H'→Q .aI H')
def Uw(H:Hp)(a:Addr)(n:Nat)(o:List Nat):Prop:=H a=some (.lst (o.map fun k:Nat=>V.int (k:Int)))∧o.Perm (List.range n)
def Ux:Sp:=fun vs H Q _=>∃(a:Addr) (n:Nat) (o:List Nat),vs=[.ref a]∧Uw H a n o∧n≤1000 ∧
 ∀(r:Addr) (H':Hp),af H H'→H r=none→H' r=some (.lst ((List.range n).map fun p=>V.int (o.idxOf p:Int)))→Q (.ref r) H'
variable {H H1:Hp} {D:Addr}
theorem Uy(s:af H H1)(e:H1 D=none):H D=none:=by
 cases z:H D with
 | none=>rfl
 | some o=>rw [s _ _ z] at e;cases e
theorem Bq(s:af H H1){o:HO}(e:H1 D=none):af H (upd H1 D o):=gF s (Uy s e)
variable {k:Nat}
theorem ke(h:k<n):m8 n (k:Int)=some k:=by unfold m8;rw [ar (by lia),ar (by lia),df]
def kf(o:List Nat)(k p:Nat):Int:=if o.idxOf p<k then (o.idxOf p:Int) else 0
variable {o:List Nat}
theorem k7(h:o.Perm (List.range n)):o.Nodup:=h.nodup_iff.mpr Am
theorem gg(h:o.Perm (List.range n)):o.length=n:=by rw [h.length_eq,cN]
variable {p:Nat}
theorem dI(h:o.Perm (List.range n)):p∈o↔p<n:=by rw [h.mem_iff,e8]
theorem nR(nd:o.Nodup)(hk:k<o.length):o.idxOf o[k]=k:=nd.idxOf_getElem k hk
theorem gG(h:p∈o):∃hk:o.idxOf p<o.length,o[o.idxOf p]=p:=⟨List.idxOf_lt_length_of_mem h,List.getElem_idxOf _⟩
theorem Uz(h:o.Perm (List.range n))(hk:k<o.length):((List.range n).map fun p=>V.int (kf o k p)).set o[k] (.int (k:Int))=(List.range n).map fun p=>V.int (kf o (k+1) p):=by
 have nd:=k7 h;refine fK (by simp) fun q h1 h2=>?_
 have hq:q<n:=by simpa using h2
 rw [List.getElem_set];by_cases e:o[k]=q
 ·rw [ar e]
  simp only [fh,gw];unfold kf;rw [←e,nR nd hk,ar (Nat.lt_succ_self k)]
 ·rw [au e]
  simp only [fh,gw];unfold kf;have ne:o.idxOf q≠k:=fun z=>by obtain ⟨hz,ez⟩:=gG ((dI h).mpr hq);subst z;exact e ez
  by_cases z:o.idxOf q<k;·rw [ar z,ar (by lia)]
  ·rw [au z,au (by lia)]
theorem UA(n:Nat)(o:List Nat):(List.replicate n [V.int 0]).flatten=(List.range n).map fun p=>V.int (kf o 0 p):=by
 have e:∀n:Nat,(List.replicate n [V.int 0]).flatten=List.replicate n (V.int 0):=fun n=>by
  induction n with
  | zero=>rfl
  | succ n ih=>rw [tZ,xX,ih];rfl
 rw [e];refine fK (by simp) fun q h1 h2=>?_
 simp [kf]
theorem UB(h:o.Perm (List.range n)):(List.range n).map (fun p=>V.int (kf o o.length p))=(List.range n).map fun p=>V.int (o.idxOf p:Int):=by refine iG fun p hp=>?_;unfold kf;rw [ar (List.idxOf_lt_length_of_mem ((dI h).mpr (e8.mp hp)))]
def o9(n:Nat)(ds:Nat→Addr)(un:Nat→Prop)(H H':Hp):Prop:=∀b o,H b=some o→(∀i,i<n→un i→b≠ds i)→H' b=some o
variable {ds:Nat→Addr}
theorem o9.refl{un:Nat→Prop}:o9 n ds un H H:=fun _ _ h _=>h
variable {i:Nat}
theorem o9.put{un:Nat→Prop}(h:o9 n ds un H H1)(hi:i<n)(ui:un i){o:HO}:o9 n ds un H (upd H1 (ds i) o):=fun b u e k=>by rw [aJ (k i hi ui)];exact h b u e k
theorem take_snoc{α:Type}{xs:List α}{x:α}(h:xs[i]?=some x):xs.take (i+1)=xs.take i++[x]:=by rw [List.take_succ,h];rfl
def g9(n:Nat)(f:Nat→List Nat)(ps:List Nat)(i j:Nat)(g:Nat→List Nat):Prop:=∀a b:Nat,a<n→(b∈g a↔b∈f a∨(a≠b∧(a∈ps.take i∧b∈ps∨ps[i]?=some a∧b∈ps.take j)))
theorem g9.start(n:Nat)(f:Nat→List Nat)(ps:List Nat):g9 n f ps 0 0 f:=fun a b _=>by simp
variable {f g:Nat→List Nat} {ps:List Nat}
theorem g9.row(h:g9 n f ps i ps.length g):g9 n f ps (i+1) 0 g:=fun a b ha=>by
 rw [h a b ha,oF];cases e:ps[i]? with
 | none=>
  have:ps.length≤i:=DK.mp e;rw [p5 this,p5 (by lia)]
  simp
 | some x=>
  rw [take_snoc e];simp only [fG,dA,Option.some.injEq,List.take_zero,ub,and_false,or_false];constructor
  ·rintro (z | ⟨z,z1 | z1⟩)
   ·exact .inl z
   ·exact .inr ⟨z,.inl z1.1,z1.2⟩
   ·exact .inr ⟨z,.inr z1.1.symm,z1.2⟩
  ·rintro (z | ⟨z,z1 | z1,z2⟩)
   ·exact .inl z
   ·exact .inr ⟨z,.inl ⟨z1,z2⟩⟩
   ·exact .inr ⟨z,.inr ⟨z1.symm,z2⟩⟩
variable {j:Nat}
theorem g9.same{x:Nat}(h:g9 n f ps i j g)(hi:ps[i]?=some x)(hj:ps[j]?=some x):g9 n f ps i (j+1) g:=fun a b ha=>by
 rw [h a b ha,take_snoc hj];simp only [fG,dA,hi,Option.some.injEq];constructor
 ·rintro (z | ⟨z,z1 | z1⟩)
  ·exact .inl z
  ·exact .inr ⟨z,.inl z1⟩
  ·exact .inr ⟨z,.inr ⟨z1.1,.inl z1.2⟩⟩
 ·rintro (z | ⟨z,z1 | ⟨z1,z2 | z2⟩⟩)
  ·exact .inl z
  ·exact .inr ⟨z,.inl z1⟩
  ·exact .inr ⟨z,.inr ⟨z1,z2⟩⟩
  ·exact absurd (z1.symm.trans z2.symm) z
theorem g9.put{x y:Nat}(h:g9 n f ps i j g)(hi:ps[i]?=some x)(hj:ps[j]?=some y)(ne:x≠y):g9 n f ps i (j+1) (cL g x (fP (g x) y)):=fun a b ha=>by
 have e1:b∈cL g x (fP (g x) y) a↔b∈g a∨(a=x∧b=y):=by
  unfold cL;by_cases e:a=x
  ·subst e
   rw [ar rfl,Bp];simp
  ·rw [au e]
   simp [e]
 rw [e1,h a b ha,take_snoc hj];simp only [fG,dA,hi,Option.some.injEq];constructor
 ·rintro ((z | ⟨z,z1 | z1⟩) | ⟨rfl,rfl⟩)
  ·exact .inl z
  ·exact .inr ⟨z,.inl z1⟩
  ·exact .inr ⟨z,.inr ⟨z1.1,.inl z1.2⟩⟩
  ·exact .inr ⟨ne,.inr ⟨rfl,.inr rfl⟩⟩
 ·rintro (z | ⟨z,z1 | ⟨z1,z2 | z2⟩⟩)
  ·exact .inl (.inl z)
  ·exact .inl (.inr ⟨z,.inl z1⟩)
  ·exact .inl (.inr ⟨z,.inr ⟨z1,z2⟩⟩)
  ·exact .inr ⟨z1.symm,z2⟩
theorem g9.done(h:g9 n f ps ps.length 0 g):∀a b:Nat,a<n→(b∈g a↔b∈f a∨(a≠b∧a∈ps∧b∈ps)):=fun a b ha=>by rw [h a b ha,oF];simp
def UC:Sp:=fun vs H Q _=>∃(D pl:Addr) (n:Nat) (ds:Nat→Addr) (un:Nat→Prop) (f:Nat→List Nat) (ps:List Nat),vs=[.ref D,.ref pl]∧eL H D n ds un f∧H pl=some (.lst (ps.map fun k:Nat=>V.int (k:Int)))∧(∀p∈ps,p<n∧un p)∧n≤1000 ∧
 ∀(H':Hp) (g:Nat→List Nat),o9 n ds un H H'→eL H' D n ds un g→(∀a b:Nat,a<n→(b∈g a↔b∈f a∨(a≠b∧a∈ps∧b∈ps)))→Q .aI H'
theorem eL.mono{H':Hp}{un:Nat→Prop}(h:eL H D n ds un f)(s:af H H'):eL H' D n ds un f:=⟨s _ _ h.lst,h.inj,h.ne,fun i hi ui=>s _ _ (h.at' i hi ui),h.pl⟩
theorem eL.less{un KZ:Nat→Prop}(h:eL H D n ds un f)(k:∀i,i<n→KZ i→un i):eL H D n ds KZ f:=⟨h.lst,h.inj,h.ne,fun i hi ui=>h.at' i hi (k i hi ui),h.pl⟩
variable {x:Addr}
theorem eL.upd{un:Nat→Prop}(h:eL H D n ds un f){o:HO}(n1:x≠D)(n2:∀i,i<n→un i→ds i≠x):eL (upd H x o) D n ds un f:=⟨by rw [aJ (Ne.symm n1)];exact h.lst,h.inj,h.ne,fun i hi ui=>by rw [aJ (n2 i hi ui)];exact h.at' i hi ui,h.pl⟩
variable {a:Addr}
theorem UD{o:Obj}{aq:List (Key×V)}(h:H1 a=some (.cH o (.dK aq))):nM (uQ a o aq) (aq.map fun kv=>kV kv.1) H1 where
 go:=fun i Hc s hi=>⟨s _ _ h,by simpa using hi⟩
 eO:=fun i Hc x H' s y=>⟨y.1,fun _=>by obtain ⟨kv,e,rfl⟩:=y.2;rw [cC,e];rfl⟩
 stop:=fun i Hc s hi=>⟨s _ _ h,by simpa using hi⟩
theorem UE(ks:List Nat):(dk ks).map (fun kv=>kV kv.1)=ks.map fun k:Nat=>V.int (k:Int):=by unfold dk;rw [ic];rfl
theorem UG(ks:List Nat):(List.range ks.length).map (fun i=>ks.getD i 0)=ks:=by
 refine fK (by simp) fun i h1 h2=>?_
 simp [i6,h2]
theorem UH(ks:List Nat)(pr:Nat→Bool):((List.range ks.length).filter fun i=>pr (ks.getD i 0)).map (fun i=>ks.getD i 0)=ks.filter pr:=by have e:=List.filter_map (f:=fun i=>ks.getD i 0) (l:=List.range ks.length) (p:=pr);rw [UG] at e;exact e.symm
variable {ρ:St→St} {tt:TT} {te:TE} {σ:St} {Q:VK} {ks:List Nat}
theorem UI{ob:Obj}(h:H a=some (.cH ob (.dK (dk ks))))(pr:Nat→Bool)(hl:ks.length<sizeLine)
  (test:∀k∈ks,∀(Hc:Hp) (R:Bool→Hp→Prop),af H Hc→R (pr k) Hc→tt (some (.int (k:Int))::ρ σ) Hc R)
  (step:∀k∈ks,∀(Hc:Hp) (R:VK),R (.int (k:Int)) Hc→te (some (.int (k:Int))::ρ σ) Hc R)
  (fin:∀D Hc,H D=none→af H Hc→Hc D=some (.lst ((ks.filter pr).map fun k:Nat=>V.int (k:Int)))→Q (.ref D) Hc):jr (fun _ H R=>R (uQ a ob (dk ks)) H) ρ tt te σ H Q:=by
 have at':∀{i:Nat} {x:V},(ks.map fun k:Nat=>V.int (k:Int))[i]?=some x→i<ks.length∧x=.int ((ks.getD i 0:Nat):Int)∧ks.getD i 0∈ks:=fun{i x} hx=>by
  have hi:i<ks.length:=by have:=(bZ.mp hx).1;simpa using this
  rw [cC] at hx;simp [hi] at hx;rw [getD_at hi];exact ⟨hi,hx.symm,fj hi⟩
 refine Ky (xs:=ks.map fun k:Nat=>V.int (k:Int)) (fun i=>pr (ks.getD i 0)) (fun R k=>k _ (by rw [←UE];exact UD h)) (by rw [aX];exact hl) (fun _ i y _=>y=.int ((ks.getD i 0:Nat):Int)) (fun _ _ _ _ _ _ h _ _=>h) ?_ ?_ ?_
 ·intro i x hx Hc R sc hR
  obtain ⟨_,rfl,m⟩:=at' hx;exact test _ m Hc R sc hR
 ·intro D i x hx Hc R sc _ kc
  obtain ⟨_,rfl,m⟩:=at' hx;exact step _ m Hc R (kc _ Hc (af.refl _) rfl)
 ·intro D ys Hc nD sc ly hP eD
  refine fin D Hc nD sc ?_;rw [eD,←UH ks pr,ic];rw [aX] at ly hP
  congr 2
  refine fK (by simpa using ly) fun k h1 h2=>?_
  have h3:k<((List.range ks.length).filter fun i=>pr (ks.getD i 0)).length:=by simpa using h2
  rw [fh];exact hP k _ _ (cY h1) (cY h3)
theorem E_(p:ws.Perm (ks.map iN)):∃ms:List Nat,ws=ms.map iN∧ms.Perm ks:=by
 refine ⟨ws.map Int.toNat,?_,?_⟩
 ·rw [ic]
  conv=>lhs;rw [←List.map_id ws]
  refine iG fun z hz=>?_
  obtain ⟨k,_,rfl⟩:=i_.mp (p.mem_iff.mp hz)
  show iN k=iN (Int.toNat (iN k))
  unfold iN
  rw [df]
 ·have:=p.map Int.toNat
  rw [ic] at this
  have e:ks.map (Int.toNat ∘ iN)=ks:=by
   conv=>rhs;rw [←List.map_id ks]
   exact iG fun k _=>df k
  rw [e] at this
  exact this
structure o_ (n:Nat) (o:List Nat) (p:Nat) (ms:List Nat):Prop where
 up:ms.Pairwise (· < ·)
 lt:∀q∈ms,q<n
 la:∀q∈ms,o.idxOf p<o.idxOf q
theorem K6{ms:List Nat}(hk:iA n ks)(h:ms.Perm (ks.filter fun q=>decide (o.idxOf p<o.idxOf q)))(s:(ms.map iN).Pairwise (·≤·)):o_ n o p ms:=by
 have m:∀q∈ms,q∈ks∧o.idxOf p<o.idxOf q:=fun q hq=>by have:=pS.mp (h.mem_iff.mp hq);exact ⟨this.1,by simpa using this.2⟩
 refine ⟨?_,fun q hq=>hk.2 q (m q hq).1,fun q hq=>(m q hq).2⟩;have nd:ms.Nodup:=h.nodup_iff.mpr (hk.1.filter _);rw [List.pairwise_map] at s;refine List.Pairwise.imp₂ (fun a b h1 h2=>?_) s nd;have h1:(a:Int)≤(b:Int):=h1;have h2:a≠b:=h2;lia
def Fb(H:Hp)(D:Addr)(n:Nat)(rs:Nat→Addr)(g:Nat→List Nat):Prop:=H D=some (.lst ((List.range n).map fun p=>V.ref (rs p)))∧∀p,p<n→H (rs p)=some (.lst ((g p).map fun k:Nat=>V.int (k:Int)))
theorem UJ(h:nQ zs n):∃o:List Nat,zs=o.map iN∧o.Perm (List.range n):=E_ h
def kg(rs:Nat→Addr)(p:Nat)(x:Addr):Nat→Addr:=fun q=>if q=p then x else rs q
theorem UK(n:Nat)(rs:Nat→Addr)(p:Nat)(x:Addr):((List.range n).map fun q=>V.ref (rs q)).set p (.ref x)=(List.range n).map fun q=>V.ref (kg rs p x q):=by
 refine fK (by simp) fun q h1 h2=>?_
 rw [List.getElem_set,fh,gw,fh,gw];unfold kg;by_cases e:p=q
 ·subst e
  rw [ar rfl,ar rfl]
 ·rw [au e,au (Ne.symm e)]
variable {rs:Nat→Addr}
theorem K7:kg rs p x p=x:=ar rfl
variable {q:Nat}
theorem UL(h:q≠p):kg rs p x q=rs q:=au h
theorem Fe{x:List Nat}:cL f p x p=x:=ar rfl
theorem Ff{x:List Nat}(h:q≠p):cL f p x q=f q:=au h
theorem bD{g:Nat→V}(h:p<n):jn ((List.range n).map g) (p:Int)=some (g p):=jo (by rw [cC,i7 h];rfl)
theorem UM(o ks:List Nat)(p:Nat):(ks.filter fun q=>decide ((o.idxOf p:Int)<(o.idxOf q:Int)))=ks.filter fun q=>decide (o.idxOf p<o.idxOf q):=by refine List.filter_congr fun q _=>?_;rw [ou,oE,oE];lia
theorem uR(h:o.Perm (List.range n))(hp:p<n)(hq:q<n)(ne:p≠q):o.idxOf p≠o.idxOf q:=fun z=>by
 obtain ⟨h1,e1⟩:=gG ((dI h).mpr hp);obtain ⟨h2,e2⟩:=gG ((dI h).mpr hq);refine ne ?_;rw [←e1,←e2]
 congr 1
theorem UN{wi:TI}(h:wi σ H fun J H1=>jr (fun _ H R=>R J H) ρ tt te σ H1 Q):jr wi ρ tt te σ H Q:=h
end My
namespace L2
open PySem PySem.Spec PyProof.Rows
section
variable {X:Cx} {pins:aU} {σ:St} {H:Hp} {s:Shared}
end
end L2
namespace My
open PySem L2
end My
namespace L2
open PySem PySem.Spec PyProof.Rows
end L2
namespace My
open PySem L2
end My
namespace L2
open PySem PySem.Spec PyProof.Rows
end L2
namespace My
open PySem L2
end My
namespace L2
open PySem PySem.Spec PyProof.Rows
end L2
namespace My
open PySem L2
end My
namespace L2
open PySem PySem.Spec PyProof.Rows
theorem UO{X:Cx}{K:aC}(hk:X.K=K:=by rfl):cf X (compareOp .In) (AQ K false):=by subst hk;exact Q8
end L2
namespace My
open PySem L2
theorem agJ(xs:List V)(k:Nat)(h:k≤xs.length):jk xs none (some (k:Int))=xs.take k:=by
 unfold jk HT.fX;simp only;rw [au (by lia),df,Nat.min_eq_left h,Nat.sub_zero]
 rfl
theorem UP(xs:List V)(k:Nat)(h:k≤xs.length):jk xs (some (k:Int)) none=xs.drop k:=by
 unfold jk HT.fX;simp only;rw [au (by lia),df,Nat.min_eq_left h]
 exact p5 (by rw [xV];exact aN _)
variable {n:Nat} {bT:Nat→Nat→Prop} {b9:Nat→Prop} {s:Nat}
end My
namespace L2
open PySem PySem.Spec PyProof.Rows
theorem Br{X:Cx}{K:aC}(hk:X.K=K:=by rfl):cf X (compareOp .NotIn) (AQ K true):=by subst hk;exact Eu
end L2
namespace My
open PySem L2
theorem qK(done:List Nat)(k:Nat):jZ (.int (k:Int)) (done.map fun k:Nat=>V.int (k:Int))=decide (k∈done):=by
 unfold jZ;rw [ou,List.any_eq_true,oE];constructor
 ·rintro ⟨y,hy,e⟩
  obtain ⟨j,hj,rfl⟩:=i_.mp hy;have e:((j:Int) == (k:Int))=true:=e;rw [kA] at e;have:j=k:=by lia
  subst this;exact hj
 ·intro h
  exact ⟨_,i_.mpr ⟨k,h,rfl⟩,Bc rfl⟩
theorem Fg(done:List Nat):(done.map fun k:Nat=>V.int (k:Int)).all fN=true:=by rw [pX];intro x hx;obtain ⟨j,_,rfl⟩:=i_.mp hx;rfl
def k8(g:Nat→List Nat)(i j:Nat):Nat→List Nat:=cL g i (g i++[j])
variable {g:Nat→List Nat} {i j a:Nat}
theorem K_{b:Nat}:b∈k8 g i j a↔b∈g a∨(a=i∧b=j):=by
 unfold k8 cL;by_cases e:a=i
 ·subst e
  rw [ar rfl,fG,dA];simp
 ·rw [au e]
  simp [e]
theorem Fh:(k8 g i j a).length≤(g a).length+1:=by
 unfold k8 cL;by_cases e:a=i
 ·subst e
  rw [ar rfl,fe];exact aN _
 ·rw [au e];lia
variable {n:Nat}
theorem iU.snoc{L:cE}(h:iU n L g):iU n (L++[((i:Int),(j:Int))]) (k8 (k8 g i j) j i):=fun a b ha=>by
 rw [K_,K_,h a b ha];simp only [fG,dA,Prod.mk.injEq];constructor
 ·rintro (((e | e) | ⟨rfl,rfl⟩) | ⟨rfl,rfl⟩)
  ·exact .inl (.inl e)
  ·exact .inr (.inl e)
  ·exact .inl (.inr ⟨rfl,rfl⟩)
  ·exact .inr (.inr ⟨rfl,rfl⟩)
 ·rintro ((e | ⟨e1,e2⟩) | (e | ⟨e1,e2⟩))
  ·exact .inl (.inl (.inl e))
  ·exact .inl (.inr ⟨by lia,by lia⟩)
  ·exact .inl (.inl (.inr e))
  ·exact .inr ⟨by lia,by lia⟩
structure iV (H:Hp) (D:Addr) (n:Nat) (rs:Nat→Addr) (g:Nat→List Nat):Prop where
 lst:H D=some (.lst ((List.range n).map fun i=>V.ref (rs i)))
 inj:∀i j,i<n→j<n→rs i=rs j→i=j
 ne:∀i,i<n→rs i≠D
 at':∀i,i<n→H (rs i)=some (.lst ((g i).map fun k:Nat=>V.int (k:Int)))
theorem iV.snoc{H:Hp}{D:Addr}{rs:Nat→Addr}(h:iV H D n rs g)(j:Nat)(hi:i<n):iV (upd H (rs i) (.lst (((g i).map fun k:Nat=>V.int (k:Int))++[V.int (j:Int)]))) D n rs (k8 g i j):=by
 refine ⟨by rw [aJ (Ne.symm (h.ne i hi))];exact h.lst,h.inj,h.ne,fun a ha=>?_⟩
 unfold k8 cL;by_cases e:a=i
 ·subst e
  rw [ar rfl,ay,i9];rfl
 ·rw [au e,aJ (fun z=>e (h.inj a i ha hi z))]
  exact h.at' a ha
end My
namespace L2
open PySem PySem.Spec PyProof.Rows
end L2
namespace My
open PySem L2
end My
namespace L2
open PySem PySem.Spec PyProof.Rows My
end L2
namespace My
open PySem L2
end My
namespace L2
open PySem PySem.Spec PyProof.Rows My
end L2
namespace My
open PySem L2
inductive Wk (bT:Nat→Nat→Prop) (b9:Nat→Prop) (s:Nat):Nat→Prop where
 | one {b:Nat}:bT s b→Wk bT b9 s b
 | more {a b:Nat}:Wk bT b9 s a→b9 a→bT a b→Wk bT b9 s b
section
variable {bT:Nat→Nat→Prop} {b9 uS:Nat→Prop} {s t:Nat}
theorem Wk.mono(h:Wk bT b9 s t)(k:∀x,b9 x→uS x):Wk bT uS s t:=by
 induction h with
 | one ab=>exact .one ab
 | more _ o ab ih=>exact .more ih (k _ o) ab
theorem Wk.cons{a:Nat}(ab:bT s a)(ta:b9 a)(h:Wk bT b9 a t):Wk bT b9 s t:=by
 induction h with
 | one e=>exact .more (.one ab) ta e
 | more _ o e ih=>exact .more ih o e
theorem Wk.symm(sy:∀a b,bT a b→bT b a)(h:Wk bT b9 s t):Wk bT b9 t s:=by
 induction h with
 | one ab=>exact .one (sy _ _ ab)
 | more _ o ab ih=>exact ih.cons (sy _ _ ab) o
variable {p:Nat}
theorem Wk.trans(h:Wk bT b9 s p)(tp:b9 p)(h':Wk bT b9 p t):Wk bT b9 s t:=by
 induction h' with
 | one ab=>exact .more h tp ab
 | more _ o ab ih=>exact .more ih o ab
theorem Wk.step(k:∀x,uS x↔b9 x∨x=p):Wk bT uS s t↔Wk bT b9 s t∨(Wk bT b9 s p∧Wk bT b9 p t):=by
 constructor
 ·intro h
  induction h with
  | one ab=>exact .inl (.one ab)
  | more _ o ab ih=>
   rcases (k _).mp o with o | rfl
   ·rcases ih with ih | ⟨i1,i2⟩
    ·exact .inl (.more ih o ab)
    ·exact .inr ⟨i1,.more i2 o ab⟩
   ·rcases ih with ih | ⟨i1,_⟩
    ·exact .inr ⟨ih,.one ab⟩
    ·exact .inr ⟨i1,.one ab⟩
 ·have m:∀x,b9 x→uS x:=fun x h=>(k x).mpr (.inl h)
  rintro (h | ⟨h,h'⟩);·exact h.mono m
  ·exact (h.mono m).trans ((k p).mpr (.inr rfl)) (h'.mono m)
end
def aL(n:Nat)(L:cE)(a b:Nat):Prop:=a<n∧b<n∧(((a:Int),(b:Int))∈L∨((b:Int),(a:Int))∈L)
variable {n:Nat} {L:cE}
theorem Bs(a b:Nat)(h:aL n L a b):aL n L b a:=⟨h.2.1,h.1,h.2.2.symm⟩
def Fi(L:cE):Prop:=∀p∈L,p.1≠p.2
def jy(n:Nat)(o:List Nat)(k x:Nat):Prop:=x<n∧o.idxOf x<k
def qL(n:Nat)(L:cE)(o:List Nat)(k:Nat)(f:Nat→List Nat):Prop:=∀a b:Nat,a<n→b<n→k≤o.idxOf a→k≤o.idxOf b→(b∈f a↔a≠b∧Wk (aL n L) (jy n o k) a b)
variable {o:List Nat} {f:Nat→List Nat}
theorem qL.start(nb:iU n L f)(ns:Fi L):qL n L o 0 f:=fun a b ha hb _ _=>by
 rw [nb a b ha];constructor
 ·intro h
  refine ⟨fun e=>?_,.one ⟨ha,hb,h⟩⟩;subst e;rcases h with h | h <;> exact ns _ h rfl
 ·rintro ⟨_,h⟩
  cases h with
  | one ab=>exact ab.2.2
  | more _ o _=>exact absurd o.2 (mK _)
variable {k:Nat} {ms:List Nat}
theorem qL.step(ho:o.Perm (List.range n)){p:Nat}{g:Nat→List Nat}(h:qL n L o k f)(hp:p<n)(ip:o.idxOf p=k)(hm:∀q,q∈ms↔q∈f p∧k<o.idxOf q)(ml:∀q∈ms,q<n)
  (con:∀a b:Nat,a<n→(b∈g a↔b∈f a∨(a≠b∧a∈ms∧b∈ms))):qL n L o (k+1) g:=fun a b ha hb ka kb=>by
 have th:∀x,jy n o (k+1) x↔jy n o k x∨x=p:=fun x=>by
  unfold jy;constructor
  ·rintro ⟨h1,h2⟩
   by_cases e:o.idxOf x=k
   ·right
    by_cases z:x=p;·exact z
    ·exact absurd (e.trans ip.symm) (uR ho h1 hp z)
   ·exact .inl ⟨h1,by lia⟩
  ·rintro (⟨h1,h2⟩ | rfl)
   ·exact ⟨h1,by lia⟩
   ·exact ⟨hp,by lia⟩
 have ap:a≠p:=fun e=>by subst e;lia
 have bp:b≠p:=fun e=>by subst e;lia
 have ea:=h p a hp ha (by lia) (by lia)
 have eb:=h p b hp hb (by lia) (by lia)
 rw [con a b ha,h a b ha hb (by lia) (by lia),hm a,hm b,ea,eb,Wk.step th]
 constructor
 ·rintro (⟨h1,h2⟩ | ⟨h1,⟨⟨_,h2⟩,_⟩,⟨_,h3⟩,_⟩)
  ·exact ⟨h1,.inl h2⟩
  ·exact ⟨h1,.inr ⟨h2.symm Bs,h3⟩⟩
 ·rintro ⟨h1,h2 | ⟨h2,h3⟩⟩
  ·exact .inl ⟨h1,h2⟩
  ·exact .inr ⟨h1,⟨⟨Ne.symm ap,h2.symm Bs⟩,by lia⟩,⟨Ne.symm bp,h3⟩,by lia⟩
def kh(n:Nat)(L:cE)(o:List Nat)(p:Nat)(ms:List Nat):Prop:=∀q,q∈ms↔q<n∧o.idxOf p<o.idxOf q∧Wk (aL n L) (jy n o (o.idxOf p)) p q
def UQ(N:Addr):Sp:=fun vs H Q E=>∃(t a:Addr) (n:Nat) (L:cE) (zs:List Int),vs=[.ref t,.ref a]∧E2 H t n L∧yT n L∧Fi L∧n≤60∧H a=some (.lst (zs.map V.int))∧zs.length<64 ∧
 (¬nQ zs n→∀H',af H H'→E (.ref N) none H') ∧
 ∀o:List Nat,zs=o.map iN→o.Perm (List.range n)→∀(H':Hp) (D:Addr) (rs:Nat→Addr) (g:Nat→List Nat),af H H'→H D=none→(∀p,p<n→H (rs p)=none)→Fb H' D n rs g→(∀p,p<n→o_ n o p (g p)∧kh n L o p (g p))→Q (.ref D) H'
def gh(M:aF):List Nat→Nat→Nat→Int
 | []=>fun _ _=>0
 | p::C=>aP (M p) (gh M C)
def bC(M:aF)(C:List Nat):Int:=aK C (gh M C)
def aW(M:aF)(C:List Nat)(f:Nat→Int):Nat→Int:=l_ C (gh M C) f
def ck(q:Int)(M:aF):List Nat→Prop
 | []=>True
 | p::C=>ck q M C∧¬q∣aW M C (M p) p
section
variable {q:Int} {M:aF} {C:List Nat} {p k:Nat} {f:Nat→Int}
theorem Bt:aW M [] f k=f k:=Tz _ f k
theorem iW(hq:aT q):∀{C:List Nat},ck q M C→¬q∣bC M C
 | [],_=>uP hq
 | _::_,h=>h.2
theorem pe{x:Int}(h:¬q∣x):x≠0:=fun e=>h (by rw [e];exact ja q)
theorem La(hq:aT q):∀{C:List Nat},ck q M C→uO C (gh M C)
 | [],_=>Ts _
 | _::_,h=>Tu (La hq h.1) (pe (iW hq h.1)) (pe h.2)
theorem yU(hq:aT q)(h:ck q M C)(p:Nat)(f:Nat→Int)(k:Nat):aW M C (M p) p*aW M C f k-aW M C f p*aW M C (M p) k=bC M C*aW M (p::C) f k:=TC (La hq h) f (M p) p k
theorem Bu{c:Nat}(h:c∈C):aW M C f c=0:=TB _ f h
theorem yV(hq:aT q):∀{C:List Nat},ck q M C→∀r∈C,∀k,aW M C (M r) k=0
 | [],_,_,hr,_=>nomatch hr
 | p::C,h,r,hr,k=>by
  have d0:=pe (iW hq h.1);have e:=yU hq h.1 p (M r) k;have z:bC M C*aW M (p::C) (M r) k=0:=by
   rcases dy.mp hr with rfl | hr;·rw [←e];exact p6 _
   ·rw [←e,yV hq h.1 r hr k,yV hq h.1 r hr p,h_,gv,p6]
  exact (mL.mp z).resolve_left d0
theorem Lb:∀(C:List Nat) (i:Nat),i<C.length→gh M C i=M (C.getD i 0)
 | _::_,0,_=>rfl
 | _::C,i+1,h=>Lb C i (Nat.lt_of_succ_lt_succ h)
theorem UR(M:aF)(C:List Nat)(f:Nat→Int):∃y:Nat→Int,∀k,aW M C f k=bC M C*f k+a_ C.length fun i=>M (C.getD i 0) k*y i:=⟨fun i=>-(sgn i)*aK C (aP f (bO i (gh M C))),fun k=>by
 unfold aW l_;rw [ju k C f (gh M C)]
 congr 1
 exact g8 fun i hi=>by rw [Lb C i hi]⟩
theorem Lc:∀{C:List Nat} {R:aF} {e e':Nat→Int},(∀c∈C,e c=e' c)→aK C (aP e R)=aK C (aP e' R)
 | [],_,_,_,_=>rfl
 | k::C,R,e,e',h=>by
  rw [ju,ju,h k (hJ ..)]
  congr 1
  exact g8 fun i hi=>by rw [Lc (C:=C) fun c hc=>h c (e9 _ hc)]
theorem Fj:∀{C:List Nat},C≠[]→∀{R:aF} (a b:Int) (e e':Nat→Int),aK C (aP (fun k=>a*e k+b*e' k) R)=a*aK C (aP e R)+b*aK C (aP e' R)
 | [],h,_,_,_,_,_=>absurd rfl h
 | k::C,_,R,a,b,e,e'=>by
  rw [ju,ju,ju];by_cases z:C=[]
  ·subst z
   show _+0=a*(_+0)+b*(_+0);grind
  ·have s:(a_ C.length fun i=>R i k*(-(sgn i)*aK C (aP (fun k=>a*e k+b*e' k) (bO i R))))=a*(a_ C.length fun i=>R i k*(-(sgn i)*aK C (aP e (bO i R))))+b*a_ C.length fun i=>R i k*(-(sgn i)*aK C (aP e' (bO i R))):=by rw [k6,k6,←qG];exact g8 fun i _=>by rw [Fj z a b e e'];grind
   rw [s];grind
def dl(c:Nat):Nat→Int:=fun k=>if k=c then 1 else 0
theorem Ld{C:List Nat}(hC:C≠[]){R:aF}{f:Nat→Int}:∀{l:List Nat},l.Nodup→aK C (aP (fun k=>if k∈l then f k else 0) R)=(l.map fun c=>f c*aK C (aP (dl c) R)).sum
 | [],_=>by
  have:=Fj hC (R:=R) 0 0 (fun _=>0) (fun _=>0);rw [show (fun k=>if k∈([]:List Nat) then f k else 0)=fun k=>0*(fun _:Nat=>(0:Int)) k+0*(fun _:Nat=>(0:Int)) k from funext fun k=>by simp,this]
  simp
 | c::l,nd=>by
  rw [lG] at nd;rw [cX,dE,←Ld hC nd.2];have:=Fj hC (R:=R) (f c) 1 (dl c) (fun k=>if k∈l then f k else 0)
  rw [oC] at this;rw [←this]
  congr 1
  congr 1
  funext k
  unfold dl;by_cases e:k=c
  ·subst e
   simp [nd.1]
  ·by_cases h:k∈l <;> simp [e,h]
def me(M:aF)(C:List Nat)(n c:Nat):Int:=-aK (n::C) (aP (dl c) (gh M C))
theorem Le(nd:C.Nodup)(hn:n∉C):aW M C f n=bC M C*f n-(C.map fun c=>f c*me M C n c).sum:=by
 have hC:n::C≠[]:=List.cons_ne_nil _ _;have e1:aW M C f n=((n::C).map fun c=>f c*aK (n::C) (aP (dl c) (gh M C))).sum:=by rw [←Ld hC (lG.mpr ⟨hn,nd⟩)];unfold aW l_;exact Lc fun c hc=>by rw [ar hc]
 have e2:aK (n::C) (aP (dl n) (gh M C))=bC M C:=by
  rw [ju];have:(a_ C.length fun i=>gh M C i n*(-(sgn i)*aK C (aP (dl n) (bO i (gh M C)))))=0:=by rw [←yO C.length];refine g8 fun i hi=>?_;rw [Kw (e:=dl n) _ (fun z=>by rw [z] at hi;exact absurd hi (mK _)) fun x hx=>au (fun z:x=n=>hn (z▸hx)),h_,h_]
  rw [this];unfold dl bC;simp
 rw [e1,cX,dE,e2];have e3:((C.map fun c=>f c*aK (n::C) (aP (dl c) (gh M C))).sum)=-(C.map fun c=>f c*me M C n c).sum:=by
  have gen:∀(w:Nat→Int) (l:List Nat),(l.map fun c=>f c*w c).sum=-(l.map fun c=>f c * -w c).sum:=fun w l=>by
   induction l with
   | nil=>rfl
   | cons x l ih=>rw [cX,dE,cX,dE,ih];grind
  exact gen (fun c=>aK (n::C) (aP (dl c) (gh M C))) C
 rw [e3,dD];lia
theorem yW(a:Int)(F:Nat→Int):∀l:List Nat,(l.map fun c=>a*F c).sum=a*(l.map F).sum
 | []=>(h_ a).symm
 | x::l=>by rw [cX,dE,cX,dE,yW a F l,Int.mul_add]
theorem Lf(F G:Nat→Int):∀l:List Nat,(l.map fun c=>F c+G c).sum=(l.map F).sum+(l.map G).sum
 | []=>rfl
 | x::l=>by rw [cX,dE,cX,dE,cX,dE,Lf F G l];lia
theorem Lg(F:aF):∀(m:Nat) (l:List Nat),(l.map fun c=>a_ m fun i=>F i c).sum=a_ m fun i=>(l.map (F i)).sum
 | m,[]=>(yO m).symm
 | m,x::l=>by rw [cX,dE,Lg F m l,←qG];exact g8 fun i _=>by rw [cX,dE]
theorem qM(hq:aT q){n:Nat}{bT:Nat→Nat→Prop}(zero:∀a b,a<n→b<n→a≠b→¬bT a b→M a b=0):∀{C:List Nat},ck q M C→(∀c∈C,c<n)→∀i j,i<n→j<n→i∉C→j∉C→i≠j→¬Wk bT (·∈C) i j→aW M C (M i) j=0
 | [],_,_,i,j,li,lj,_,_,ij,nw=>by rw [Bt];exact zero i j li lj ij fun z=>nw (.one z)
 | p::C,g,lc,i,j,li,lj,hi,hj,ij,nw=>by
  rw [dy,not_or] at hi hj;have lp:=lc p (hJ ..);have Fl:∀c∈C,c<n:=fun c hc=>lc c (e9 _ hc);have st:=Wk.step (bT:=bT) (b9:=(·∈C)) (uS:=(·∈p::C)) (s:=i) (t:=j) (p:=p) fun x=>by rw [dy];exact Or.comm
  rw [st,not_or] at nw;have e:=yU hq g.1 p (M i) j;rw [qM hq zero g.1 Fl i j li lj hi.2 hj.2 ij nw.1,h_] at e;have z:aW M C (M i) p*aW M C (M p) j=0:=by
   by_cases pC:p∈C;·rw [Bu pC,gv]
   ·by_cases w:Wk bT (·∈C) i p
    ·rw [qM hq zero g.1 Fl p j lp lj pC hj.2 (Ne.symm hj.1) fun z=>nw.2 ⟨w,z⟩,h_]
    ·rw [qM hq zero g.1 Fl i p li lp hi.2 pC hi.1 w,gv]
  rw [z] at e;exact (mL.mp (show bC M C*aW M (p::C) (M i) j=0 by lia)).resolve_left (pe (iW hq g.1))
theorem Fm{B:Nat}(hB:∀i k,(M i k).natAbs≤B):∀(C:List Nat) (i k:Nat),(gh M C i k).natAbs≤B
 | [],_,_=>cn _
 | p::_,0,k=>hB p k
 | _::C,i+1,k=>Fm hB C i k
theorem US{B:Nat}{R:aF}(hf:∀k,(f k).natAbs≤B)(hR:∀i k,(R i k).natAbs≤B):∀i k,(aP f R i k).natAbs≤B
 | 0,k=>hf k
 | i+1,k=>hR i k
variable {B:Nat}
theorem Lh(hB:∀i k,(M i k).natAbs≤B)(hf:∀k,(f k).natAbs≤B):(aW M C f k).natAbs≤iz (C.length+1)*B ^ (C.length+1):=EZ (k::C) _ (US hf (Fm hB C))
theorem Li(hB:∀i k,(M i k).natAbs≤B):(bC M C).natAbs≤iz C.length*B ^ C.length:=EZ C _ (Fm hB C)
end
def aH(B:Nat)(H:Hp)(q:Int)(v:V)(T U:Int):Prop:=∃x m:Int,aV B H q v x m∧q∣x*U-T*m∧¬q∣U
section
variable {B Y:Nat} {H H':Hp} {q:Int} {v u:V} {T U T' U':Int}
theorem aH.mono(h:aH B H q v T U)(s:af H H'):aH B H' q v T U:=let ⟨x,m,h1,h2⟩:=h;⟨x,m,h1.mono s,h2⟩
theorem aH.eq(hq:aT q)(h:aH B H q v T U)(e:Cg q (T*U') (T'*U))(nu:¬q∣U'):aH B H q v T' U':=by
 obtain ⟨x,m,h1,h2,h3⟩:=h;refine ⟨x,m,h1,?_,nu⟩;have c:Cg q (U*(x*U'-T'*m)) 0:=by
  have a:Cg q (U'*(x*U)) (U'*(T*m)):=Cg.mulL U' h2;have b:Cg q (m*(T*U')) (m*(T'*U)):=Cg.mulL m e;have d:=a.trans ((Cg.of_eq (by grind)).trans b)
  have d2:=d.sub (Cg.refl (m*(T'*U)));exact (Cg.of_eq (by grind)).trans (d2.trans (Cg.of_eq (by lia)))
 have:=yS hq h3 c;unfold Cg at this
 rwa [lJ] at this
theorem aH.bd(h:aH B H q v T U)(bt:T.natAbs≤Y)(bu:U.natAbs≤Y):aH Y H q v T U:=by
 obtain ⟨x,m,h1,h2,h3⟩:=h;cases h1 with
 | rem a b c=>exact ⟨_,_,.rem a b c,h2,h3⟩
 | a7 e l bx bm=>
  have h2:=eS.mp h2;have U0:U≠0:=fun z=>h3 (by rw [z];exact i8 0)
  have le:m≤(U.natAbs:Int)∧x.natAbs≤T.natAbs:=by
   by_cases up:0<U
   ·have:=uD l up (show x*U=T*m by lia)
    exact ⟨by lia,this.2⟩
   ·have:=uD l (show 0 < -U by lia) (show x * -U=-T*m by rw [lI,t_];lia)
    rw [yc] at this;exact ⟨by lia,this.2⟩
  have mp:=l.pos;exact ⟨x,m,.a7 e l (by lia) (by lia),by rw [h2];exact i8 0,h3⟩
theorem k9(hq:aT q)(h:aH B H q v T U):q∣T↔∃x m,aV B H q v x m∧x=0:=by
 obtain ⟨x,m,h1,h2,h3⟩:=h;constructor
 ·intro d
  refine ⟨x,m,h1,?_⟩;have c:Cg q (U*x) 0:=by
   have:q∣x*U:=by
    have:=t9 h2 (An (c:=m) d)
    rwa [Int.sub_add_cancel] at this
   unfold Cg;rw [lJ,dD];exact this
  have:=yS hq h3 c;unfold Cg at this;rw [lJ] at this;cases h1 with
  | a7=>exact eS.mp this
  | rem a b c=>
   obtain ⟨k,hk⟩:=this;have:k=0:=by
    rcases Int.lt_trichotomy k 0 with z | z | z
    ·have:q*k≤q*(-1):=t8 (by lia) (by lia)
     lia
    ·exact z
    ·have:q*1≤q*k:=t8 (by lia) (by lia)
     lia
   rw [hk,this,h_]
 ·rintro ⟨x',m',uH,rfl⟩
  have e:x=0:=by
   cases h1 with
   | a7 e l=>
    cases uH with
    | a7 e' l'=>rw [e] at e';cases e';rfl
   | rem=>cases uH;rfl
  subst e;have:q∣T*m:=by have:=h2;rw [gv,ua] at this;exact Int.dvd_neg.mp this
  cases h1 with
  | a7 e l=>
   have:=eS.mp this;have mp:=l.pos;have:T=0:=(mL.mp this).resolve_right (by lia)
   rw [this];exact i8 0
  | rem=>rwa [gu] at this
end
section
variable {H:Hp} {q:Int} {v u:V} {T U T' U':Int} {C N z:Addr} {Q:VK} {E:XK}
theorem Bv{B:Nat}{x m:Int}(h:aV B H q v x m)(b:B≤10 ^ 300):b8 x∧b8 m∧1≤m:=by
 cases h with
 | a7 e l bx bm=>exact ⟨aQ bx b,aQ bm b,l.pos⟩
 | rem h0 h1 h2=>exact ⟨aQ (show _≤997 by lia) (by decide +kernel),by unfold b8;decide +kernel,by decide⟩
variable {X Y Y':Nat}
theorem Lj{fr:Int→Int→Int→Int→Int}{rm:Int→Int→Int}(hw:dU C H z q)(hq:aT q)(hv:aH X H q v T U)(hu:aH Y H q u T' U')(bX:X≤10 ^ 300)(bY:Y≤10 ^ 300)(top bot:Int)
  (hf:∀x m y n,q∣x*U-T*m→q∣y*U'-T'*n→q∣fr x m y n*bot-top*(m*n)) (hr:∀x y,fr x 1 y 1=rm x y) (nb:¬q∣bot) (bt:top.natAbs≤Y') (bb:bot.natAbs≤Y')
  (k:∀(v':V) (H':Hp),af H H'→aH Y' H' q v' top bot→Q v' H'):qF C fr rm [.ref z,v,u] H Q E:=by
 obtain ⟨x,m,h1,h2,h3⟩:=hv
 obtain ⟨y,n,g1,g2,g3⟩:=hu
 obtain ⟨a1,a2,a3⟩:=Bv h1 bX
 obtain ⟨b1,b2,b3⟩:=Bv g1 bY
 have key:=hf x m y n h2 g2
 refine ⟨z,q,v,u,rfl,hw,?_⟩
 cases h1 with
 | a7 e l bx bm=>
  cases g1 with
  | a7 e' l' Fn qx=>
   refine .inl ⟨rfl,_,_,x,m,y,n,rfl,rfl,e,e',l,l',a1,a2,b1,b2,fun r' H' a d s' er la ea=>k _ H' s' ?_⟩
   have key:=eS.mp key
   have mn:m*n≠0:=ya (oB (by lia) (by lia))
   have ew:a*bot=top*d:=by
    refine DR mn ?_
    have:fr x m y n*bot=top*(m*n):=by omega
    calc a*bot*(m*n)=a*(m*n)*bot:=by grind
     _=fr x m y n*d*bot:=by rw [ea]
     _=fr x m y n*bot*d:=by grind
     _=top*(m*n)*d:=by rw [this]
     _=top*d*(m*n):=by grind
   have W:aH (a.natAbs+d.natAbs) H' 0 (.ref r') top bot:=⟨a,d,.a7 er la (by lia) (by lia),by rw [ew,p6];exact i8 0,nb⟩
   exact W.bd bt bb
  | rem h0 h1 h2=>lia
 | rem h0 uH qC=>
  cases g1 with
  | a7 e' l' Fn qx=>lia
  | rem g0 g1 UT=>
   have qB:2≤q:=by rcases hq with h | h <;> lia
   refine .inr ⟨qB,x,y,rfl,rfl,h0,by lia,k _ H (af.refl _) ⟨_,1,.rem (fg _ (by lia)) (fI _ (by lia)) qC,?_,nb⟩⟩
   rw [gu,gu] at key
   rw [hr] at key
   rw [gu]
   have c:Cg q (rm x y % q*bot) (rm x y*bot):=(qI q _).mulR bot
   exact c.trans key
theorem UU(hw:dU C H z q)(hq:aT q)(hv:aH X H q v T U)(hu:aH Y H q u T' U')(bX:X≤10 ^ 300)(bY:Y≤10 ^ 300)(nb:¬q∣U*U')(bt:(T*U'-T'*U).natAbs≤Y')(bb:(U*U').natAbs≤Y')
  (k:∀(v':V) (H':Hp),af H H'→aH Y' H' q v' (T*U'-T'*U) (U*U')→Q v' H'):qF C (fun x m y n=>x*n-y*m) (fun i j=>i-j) [.ref z,v,u] H Q E:=
 Lj hw hq hv hu bX bY _ _ (fun x m y n h1 h2=>by obtain ⟨a,ha⟩:=h1;obtain ⟨b,hb⟩:=h2;exact ⟨n*U'*a-m*U*b,by grind⟩) (fun x y=>by rw [gu,gu]) nb bt bb k
theorem UW(hw:dU C H z q)(hq:aT q)(hv:aH X H q v T U)(hu:aH Y H q u T' U')(bX:X≤10 ^ 300)(bY:Y≤10 ^ 300)(nb:¬q∣U*U')(bt:(T*T').natAbs≤Y')(bb:(U*U').natAbs≤Y')
  (k:∀(v':V) (H':Hp),af H H'→aH Y' H' q v' (T*T') (U*U')→Q v' H'):qF C (fun x m y n=>x*y) (fun i j=>i*j) [.ref z,v,u] H Q E:=
 Lj hw hq hv hu bX bY _ _ (fun x m y n h1 h2=>by obtain ⟨a,ha⟩:=h1;obtain ⟨b,hb⟩:=h2;exact ⟨y*U'*a+T*m*b,by grind⟩) (fun x y=>rfl) nb bt bb k
theorem eX(hq:aT q){a b:Int}(ha:¬q∣a)(hb:¬q∣b):¬q∣a*b:=fun d=>hb (by
 have:=yS hq ha (show Cg q (a*b) 0 by unfold Cg;rwa [lJ])
 unfold Cg at this
 rwa [lJ] at this)
theorem UX(hw:dU C H z q)(hq:aT q)(hv:aH X H q v T U)(hu:aH Y H q u T' U')(bX:X≤10 ^ 300)(bY:Y≤10 ^ 300)(nt:¬q∣T')(bt:(T*U').natAbs≤Y')(bb:(U*T').natAbs≤Y')
  (k:∀(v':V) (H':Hp),af H H'→aH Y' H' q v' (T*U') (U*T')→Q v' H'):ES C N [.ref z,v,u] H Q E:=by
 have ny:∀{y n},aV Y H q u y n→q∣y*U'-T'*n→¬q∣U'→y≠0:=fun{y n} g1 g2 g3 e=>nt ((k9 hq ⟨y,n,g1,g2,g3⟩).mpr ⟨y,n,g1,e⟩)
 obtain ⟨x,m,h1,h2,h3⟩:=hv
 obtain ⟨y,n,g1,g2,g3⟩:=hu
 have y0:=ny g1 g2 g3
 obtain ⟨a1,a2,a3⟩:=Bv h1 bX
 obtain ⟨b1,b2,b3⟩:=Bv g1 bY
 have nb:=eX hq h3 nt
 refine ⟨z,q,v,u,rfl,hw,?_⟩
 cases h1 with
 | a7 e l bx bm=>
  cases g1 with
  | a7 e' l' Fn qx=>
   refine .inl ⟨rfl,_,_,x,m,y,n,rfl,rfl,e,e',l,l',a1,a2,b1,b2,fun z=>absurd z y0,fun _ r' H' a d s' er la ea=>k _ H' s' ?_⟩
   have h2:=eS.mp h2
   have g2:=eS.mp g2
   have my:m*y≠0:=fun z=>(mL.mp z).elim (fun z=>by lia) y0
   have ew:a*(U*T')=T*U'*d:=by
    refine DR (a:=m*y) my ?_
    have e1:x*U=T*m:=by lia
    have e2:T'*n=y*U':=by lia
    calc a*(U*T')*(m*y)=a*(m*y)*(U*T'):=by grind
     _=x*n*d*(U*T'):=by rw [ea]
     _=x*U*(T'*n)*d:=by grind
     _=T*m*(y*U')*d:=by rw [e1,e2]
     _=T*U'*d*(m*y):=by grind
   have W:aH (a.natAbs+d.natAbs) H' 0 (.ref r') (T*U') (U*T'):=⟨a,d,.a7 er la (by lia) (by lia),by rw [ew,p6];exact i8 0,nb⟩
   exact W.bd bt bb
  | rem h0 h1 h2=>lia
 | rem h0 uH qC=>
  cases g1 with
  | a7 e' l' Fn qx=>lia
  | rem g0 g1 UT=>
   have cQ:2≤q∧q≤997∧fz q=true:=by rcases hq with h | h;lia;exact h
   refine .inr ⟨cQ.1,x,y,rfl,rfl,cQ.2.1,cQ.2.2,h0,uH,g0,g1,fun z=>absurd z y0,fun _ r r0 r1 er=>k _ H (af.refl _) ⟨r,1,.rem r0 r1 qC,?_,nb⟩⟩
   have c1:Cg q (r*y) x:=by
    have:=qI q (r*y)
    rw [er] at this
    exact this.symm
   have c2:Cg q (x*U) (T*1):=h2
   have c3:Cg q (y*U') (T'*1):=g2
   rw [gu] at c2 c3 ⊢
   have e1:Cg q (r*(U*T')) (r*U*(y*U')):=(Cg.of_eq (by grind)).trans ((c3.symm).mulL (r*U))
   have e2:Cg q (r*U*(y*U')) (x*(U*U')):=(Cg.of_eq (show r*U*(y*U')=r*y*(U*U') by grind)).trans (c1.mulR (U*U'))
   have e3:Cg q (x*(U*U')) (T*U'):=(Cg.of_eq (show x*(U*U')=x*U*U' by grind)).trans (c2.mulR U')
   exact e1.trans (e2.trans e3)
end
def cm(o:List Nat):List V:=o.map fun k:Nat=>V.int (k:Int)
structure WTab (H:Hp) (a:Addr) (n:Nat) (rs:Nat→Addr) (vf:Nat→Nat→V):Prop where
 lst:H a=some (.lst ((List.range n).map fun i=>V.ref (rs i)))
 inj:∀i j,i<n→j<n→rs i=rs j→i=j
 ne:∀i,i<n→rs i≠a
 at':∀i,i<n→H (rs i)=some (.lst ((List.range n).map (vf i)))
def ki(vf:Nat→Nat→V)(i j:Nat)(w:V):Nat→Nat→V:=fun i' j'=>if i'=i∧j'=j then w else vf i' j'
variable {j:Nat} {w:V}
theorem map_set{f:Nat→V}:((List.range n).map f).set j w=(List.range n).map fun j'=>if j'=j then w else f j':=by
 refine fK (by simp) fun i h1 h2=>?_
 rw [List.getElem_set];simp;by_cases e:j=i;·subst e;simp
 ·rw [au e,au (Ne.symm e)]
section
variable {H H':Hp} {a:Addr} {n:Nat} {rs:Nat→Addr} {vf:Nat→Nat→V}
theorem WTab.bG(h:WTab H a n rs vf)(k:∀b o,(b=a∨∃i,i<n∧b=rs i)→H b=some o→H' b=some o):WTab H' a n rs vf:=
 ⟨k _ _ (.inl rfl) h.lst,h.inj,h.ne,fun i hi=>k _ _ (.inr ⟨i,hi,rfl⟩) (h.at' i hi)⟩
theorem WTab.mono(h:WTab H a n rs vf)(s:af H H'):WTab H' a n rs vf:=h.bG fun b o _ e=>s b o e
theorem WTab.put(h:WTab H a n rs vf){i:Nat}(w:V)(hi:i<n):WTab (upd H (rs i) (.lst (((List.range n).map (vf i)).set j w))) a n rs (ki vf i j w):=by
 refine ⟨by rw [aJ (Ne.symm (h.ne i hi))];exact h.lst,h.inj,h.ne,fun i' c_=>?_⟩
 by_cases e:i'=i
 ·subst e
  rw [ay,map_set]
  congr 2
  refine iG fun j' _=>?_;unfold ki;simp
 ·rw [aJ (fun z=>e (h.inj i' i c_ hi z)),h.at' i' c_]
  congr 2
  refine iG fun j' _=>?_;unfold ki;simp [e]
end
structure Ll (q:Int) (X n p:Nat) (ms:List Nat) (T U T' U':aF):Prop where
 jz:¬q∣T p p
 nz:∀i j,i<n→j<n→¬q∣U' i j
 bt:∀i j,i<n→j<n→(T' i j).natAbs≤X∧(U' i j).natAbs≤X
 low:∀i∈ms,Cg q (T i p*U p p*U' i p) (T' i p*(U i p*T p p))
 ent:∀i∈ms,∀j∈ms,Cg q ((T i j*(U' i p*U p j)-T' i p*T p j*U i j)*U' i j) (T' i j*(U i j*(U' i p*U p j)))
 Lm:∀i j,i<n→j<n→(i∉ms∨(j≠p∧j∉ms))→Cg q (T i j*U' i j) (T' i j*U i j)
def dj(X:Nat)(H:Hp)(q:Int)(n:Nat)(vf:Nat→Nat→V)(T U:aF):Prop:=∀i j,i<n→j<n→aH X H q (vf i j) (T i j) (U i j)
def fQ(n:Nat)(rs:Nat→Addr)(H H':Hp):Prop:=∀b o,(∀i,i<n→b≠rs i)→H b=some o→H' b=some o
def UY(C:Addr):Sp:=fun vs H Q _=>∃(z a b:Addr) (q:Int) (n X p:Nat) (rs:Nat→Addr) (vf:Nat→Nat→V) (ms:List Nat) (T U T' U':aF),vs=[.ref z,.ref a,.int (p:Int),.ref b]∧dU C H z q∧aT q∧WTab H a n rs vf∧H b=some (.lst (cm ms))∧(∀i,i<n→b≠rs i∧z≠rs i)∧p<n∧(∀m∈ms,m<n∧m≠p)∧ms.Nodup∧n≤60∧1000≤X∧X≤10 ^ 100∧dj X H q n vf T U∧(∀i j,i<n→j<n→(T i j).natAbs≤X∧(U i j).natAbs≤X)∧Ll q X n p ms T U T' U' ∧
 ∀(H':Hp) (fD:Nat→Nat→V),fQ n rs H H'→WTab H' a n rs fD→dj X H' q n fD T' U'→Q .aI H'
def eY(D:Nat→Nat→Bool)(T T':aF):Nat→Nat→Int:=fun i j=>if D i j then T' i j else T i j
theorem fQ.refl(n:Nat)(rs:Nat→Addr)(H:Hp):fQ n rs H H:=fun _ _ _ e=>e
variable {rs:Nat→Addr} {H H1:Hp}
theorem fQ.same{H2:Hp}(h:fQ n rs H H1)(s:af H1 H2):fQ n rs H H2:=fun b o nb e=>s _ _ (h b o nb e)
variable {i:Nat}
theorem fQ.put{o:HO}(h:fQ n rs H H1)(hi:i<n):fQ n rs H (upd H1 (rs i) o):=fun b u nb e=>by rw [aJ (nb i hi)];exact h b u nb e
theorem int_at{x:V}(h:(cm ms)[k]?=some x):∃i:Nat,ms[k]?=some i∧x=.int (i:Int):=by
 unfold cm at h;rw [cC] at h;cases e:ms[k]? with
 | none=>rw [e] at h;cases h
 | some i=>rw [e] at h;exact ⟨i,rfl,(Option.some.inj h).symm⟩
theorem Ln(nd:ms.Nodup)(h:ms[k]?=some i):i∉ms.take k:=fun z=>by have h2:=(xU (k+1) ms).nodup nd;rw [take_snoc h,uc] at h2;exact h2.2.2 i z i (dA.mpr rfl) rfl
variable {D:Nat→Nat→Bool} {T T':aF}
theorem dX(h:D i j=true):eY D T T' i j=T' i j:=by unfold eY;rw [ar h]
theorem cJ(h:D i j=false):eY D T T' i j=T i j:=by unfold eY;rw [h];rfl
variable {X:Nat} {q:Int} {vf:Nat→Nat→V} {U U':aF}
theorem dj.put{H':Hp}(h:dj X H q n vf T U)(k:∀v t u,aH X H q v t u→aH X H' q v t u)(hw:aH X H' q w (T' i j) (U' i j))(o:∀i' j',i'<n→j'<n→¬(i'=i∧j'=j)→T' i' j'=T i' j'∧U' i' j'=U i' j'):dj X H' q n (ki vf i j w) T' U':=fun i' j' c_ dr=>by
 unfold ki;by_cases e:i'=i∧j'=j
 ·rw [ar e,e.1,e.2]
  exact hw
 ·rw [au e,(o i' j' c_ dr e).1,(o i' j' c_ dr e).2]
  exact k _ _ _ (h i' j' c_ dr)
theorem dj.to(h:dj X H q n vf T U)(o:∀i' j',i'<n→j'<n→T' i' j'=T i' j'∧U' i' j'=U i' j'):dj X H q n vf T' U':=fun i j hi hj=>by rw [(o i j hi hj).1,(o i j hi hj).2];exact h i j hi hj
theorem dj.Lo(hq:aT q)(h:dj X H q n vf T U)(o:∀i j,i<n→j<n→(T' i j=T i j∧U' i j=U i j)∨(Cg q (T i j*U' i j) (T' i j*U i j)∧¬q∣U' i j∧(T' i j).natAbs≤X∧(U' i j).natAbs≤X)):dj X H q n vf T' U':=fun i j hi hj=>by
 rcases o i j hi hj with ⟨e1,e2⟩ | ⟨e1,e2,e3,e4⟩
 ·rw [e1,e2]
  exact h i j hi hj
 ·exact ((h i j hi hj).eq hq e1 e2).bd e3 e4
theorem aH.put{v:V}{t u:Int}{b:Addr}{xs:List V}{o:HO}(h:aH X H q v t u)(e:H b=some (.lst xs)):aH X (upd H b o) q v t u:=by
 obtain ⟨x,m,h1,h2⟩:=h;refine ⟨x,m,?_,h2⟩;cases h1 with
 | a7 e' l bx bm=>exact .a7 (by rw [aJ (fun z=>by rw [z,e] at e';cases e')];exact e') l bx bm
 | rem a b c=>exact .rem a b c
end My
namespace L2
open PySem PySem.Spec PyProof.Rows
section
variable {X:Cx} {a b:Expr} {rest:List Expr} {pos:Pos} {ta tb:TE}
end
end L2
namespace My
open PySem L2
end My
namespace L2
open PySem PySem.Spec PyProof.Rows
section
variable {prog:Program} {w:World} {A:Around} {E:aR} {s:Shared}
end
section
variable {prog:Program} {w:World} {A:Around} {E:aR} {s:Shared}
end
section
variable {X:Cx}
end
section
variable {prog:Program} {w:World} {A:Around} {E:aR} {s:Shared}
end
end L2
namespace My
open PySem L2
end My
namespace L2
open PySem PySem.Spec PyProof.Rows
end L2
namespace My
open PySem L2
end My
namespace L2
open PySem PySem.Spec PyProof.Rows
section
variable {X:Cx}
def UZ:V→List V→Hp→VK→Prop:=fun x vs H Q=>∃(l:Addr) (zs:List Int) (j:Nat) (z:Int),x=.ref l∧vs=[.int z]∧H l=some (.lst (zs.map V.int))∧zs.length≤1000∧zs[j]?=some z∧(∀m,m<j→zs[m]?≠some z)∧Q (.int (j:Int)) H
theorem U1:uu X "list.index" UZ:=by
 intro pins s σ H x vs v us Q I rx rv h;obtain ⟨l,zs,j,z,rfl,rfl,hH,l1,hj,U2,q⟩:=h;cases rx;obtain ⟨u,rfl,ru⟩:=rv.one;obtain ⟨t,rfl⟩:=ru;obtain ⟨sz,ai,n,r,hl,e⟩:=I.lY hH;have hjl:j<zs.length:=(bZ.mp hj).1;rw [aX] at hl sz;have at':∀m (hm:m<ai.toArray.size),∃t',ai.toArray[m]=.int (zs.getD m 0) t':=fun m hm=>by
  have dB:m<zs.length:=by simp at hm;lia
  obtain ⟨w,hw,mZ⟩:=r.get (i:=m) (x:=.int (zs.getD m 0)) (by rw [cC,i6,cY dB];rfl)
  obtain ⟨t',rfl⟩:=mZ;exact ⟨t',by simpa using (bZ.mp hw).2⟩
 have zj:zs.getD j 0=z:=by rw [i6,hj];rfl
 refine oz F.slot_list_index ⟨_,e,rfl⟩ F.entry_list_index (F.args_list_index_2 _ _) (MeetsSeq.list_index l ai.toArray n (.int z t) (fun v=>numOf v == z) (fun y hy=>?_) j (by rw [cU];lia) (by lia) ?_ (fun m hm U3=>?_)) ⟨e,?_⟩
 ·obtain ⟨m,hm,rfl⟩:=Array.getElem_of_mem hy
  obtain ⟨t',e'⟩:=at' m hm;rw [e'];exact MeetsSeq.EqGives.int _ _ _ _
 ·obtain ⟨t',e'⟩:=at' j (by rw [cU];lia)
  rw [e',zj];exact Af z
 ·obtain ⟨t',e'⟩:=at' m hm
  rw [e'];have dB:m<zs.length:=by simp at hm;lia
  have:=U2 m U3;rw [cY dB] at this;have ne:zs.getD m 0≠z:=fun q=>this (by rw [←q,i6,cY dB];rfl)
  show (zs.getD m 0 == z)=false;simpa using ne
 ·exact ⟨.int (j:Int),H,I.tok _,⟨_,rfl⟩,q⟩
end
end L2
namespace My
open PySem L2
end My
namespace L2
open PySem
section
variable {prog:Program} {w:World} {A:Around} {E:aR} {s:Shared}
end
end L2
namespace My
open PySem L2
end My
namespace L2
open PySem PySem.Spec PyProof.Rows My
end L2
namespace My
open PySem L2
section
variable {P a d:Addr} {H Hc:Hp} {n m:Nat} {L:cE}
end
section
variable {n:Nat} {E:Nat→Nat→Prop} {pos rk:Nat→Nat}
end
open PySem PySem.W PyProof.Rows Tm
section
variable {prog:Program} {w:World} {A:Around} {E:aR} {s:Shared}
end
open PySem PySem.W PyProof.Rows
section
variable {prog:Program} {w:World} {A:Around} {E:aR} {s:Shared}
end
end My
namespace L2
open PySem PySem.W PyProof.Rows My
end L2
namespace My
open PySem PySem.W PyProof.Rows
section
variable {prog:Program} {w:World} {A:Around} {E:aR} {s:Shared} {R:Result→Shared→Prop}
end
open PySem PySem.W PyProof.Rows L2
section
variable {prog:Program} {w:World} {A:Around} {s:Shared}
end
end My
namespace L2
open PySem PySem.W PyProof.Rows My
end L2
namespace My
open PySem L2
end My
namespace L2
open PySem PySem.Spec PyProof.Rows My
end L2
namespace My
open PySem L2
end My
namespace L2
open PySem
section
variable {prog:Program} {w:World} {A:Around} {E:aR} {s:Shared}
end
open PySem PySem.Spec PyProof.Rows My
end L2
namespace My
open PySem L2
end My
namespace L2
open PySem PySem.W PyProof.Rows
section
variable {prog:Program} {w:World} {A:Around} {E:aR} {s:Shared}
end
open AutoSeq1 (wpAny_loadPart')
section
variable {prog:Program} {w:World} {A:Around} {E:aR} {s:Shared}
end
end L2
namespace My
open PySem L2
end My
namespace L2
open PySem PySem.Spec PyProof.Rows My
end L2
namespace My
open PySem L2
open PySem L2 Classical
theorem aw{a b:TS}{D:Ends}{σ:St}{H:Hp}(h:∀R:St→Hp→Prop,(∀σ H,b D σ H→R σ H)→a {D with nx:=R} σ H):D9 a b D σ H:=h _ fun _ _ h=>h
end My
namespace L2
open PySem PySem.Spec PyProof.Rows
end L2
namespace My
open PySem L2 Classical
open PySem L2
end My
namespace L2
open PySem PySem.Spec PyProof.Rows My
section
variable {X:Cx}
end
end L2
namespace My
open PySem L2
end My
namespace L2
open PySem PySem.Spec PyProof.Rows My
theorem Bw{K:aC}{l:Addr}{xs:List V}{H1:Hp}(h:b5 K H1 l xs):Kl (uI K l) ((List.range xs.length).zip xs |>.map fun p=>(V.int (p.1:Int),p.2)) H1 where
 go:=fun i Hc s hi=>by
  have hi:i<xs.length:=by simpa using hi
  exact ⟨xs,xs[i],s.seq h,by simp [hi]⟩
 eO:=fun i Hc v H' s y=>by
  obtain ⟨T,x,nT,e1,e2,e3⟩:=y;refine ⟨T,.int (i:Int),x,e1,nT,e2,fun hi=>?_⟩;have hi:i<xs.length:=by simpa using hi
  have:=e3 xs (s.seq h);rw [cC,(List.getElem?_zip_eq_some (z:=(i,x))).mpr ⟨i7 hi,this⟩];rfl
 stop:=fun i Hc s hi=>by
  have hi:xs.length≤i:=by simpa using hi
  exact ⟨xs,s.seq h,hi⟩
end L2
namespace My
open PySem L2
def sV(s:String):V:=.str (Str.ofString s)
end My
namespace L2
open PySem PySem.Spec PyProof.Rows
section
variable {prog:Program} {w:World} {A:Around} {E:aR} {s:Shared}
end
open AutoSeq1 (wpAny_loadPart')
section
variable {prog:Program} {w:World} {A:Around} {E:aR} {s:Shared}
end
section
variable {prog:Program} {w:World} {A:Around} {E:aR} {s:Shared}
end
section
variable {X:Cx}
end
open PySem PySem.Spec PyProof.Rows My
end L2
namespace My
open PySem L2
def b_(H:Hp)(T:Addr):Prop:=∃x:Int,H T=some (.lst [.int x])
def bJ(T:Addr)(H H':Hp):Prop:=∀b o,b≠T→H b=some o→H' b=some o
variable {T:Addr} {H H1:Hp}
theorem bJ.trans{H2:Hp}(a:bJ T H H1)(b:bJ T H1 H2):bJ T H H2:=fun c o n e=>b c o n (a c o n e)
theorem bJ.of(a:af H H1):bJ T H H1:=fun c o _ e=>a c o e
theorem bJ.upd{o:HO}:bJ T H (L2.upd H T o):=fun c u n e=>(aJ n).trans e
theorem b_.mono(h:b_ H T)(a:af H H1):b_ H1 T:=let ⟨x,e⟩:=h;⟨x,a _ _ e⟩
theorem b_.ne{b:Addr}(h:b_ H T)(n:H b=none):b≠T:=fun z=>by obtain ⟨x,e⟩:=h;rw [z,e] at n;cases n
def U4(K:aC):Sp:=fun vs H Q _=>∃(a:Addr) (ns:List Int) (k:Nat),vs=[.ref a,.int (k:Int)]∧b5 K H a (ns.map V.int)∧∀z:Int,Q (.int z) H
def U5(K:aC):Sp:=fun vs H Q _=>∃(a:Addr) (ns:List Int) (k:Nat),vs=[.ref a,.int (k:Int)]∧b5 K H a (ns.map V.int)∧k≤1000∧∀(T:Addr) (H':Hp),af H H'→H T=none→b_ H' T→Q (.ref T) H'
def U6:Sp:=fun vs H Q _=>∃(T:Addr) (m:Nat),vs=[.ref T,.int (m:Int)]∧b_ H T∧1≤m∧m≤1000∧∀(d:Nat) (H':Hp),d<m→bJ T H H'→b_ H' T→Q (.int (d:Int)) H'
theorem bJ.refl(T:Addr)(H:Hp):bJ T H H:=fun _ _ _ e=>e
end My
namespace L2
open PySem
end L2
namespace My
open PySem L2
end My
namespace L2
open PySem
variable {X:Cx}
def U7:V→List V→Hp→VK→Prop:=fun x vs H Q=>∃l xs,∃k:Nat,∃i:Int,∃y,x=.ref l∧vs=[.int i,y]∧i=(k:Int)∧H l=some (.lst xs)∧k≤xs.length∧xs.length≤1000∧Q .aI (upd H l (.lst (xs.take k++y::xs.drop k)))
theorem U8:uu X "list.insert" U7:=by
 intro pins s σ H x vs v us Q I rx rv h;obtain ⟨l,xs,k,i,y,rfl,rfl,hi,hH,hk,hz,q⟩:=h;cases rx;obtain ⟨u,w,rfl,ru,mZ⟩:=rv.two;obtain ⟨t,rfl⟩:=ru;obtain ⟨z,ai,n,r,hl,e⟩:=I.lY hH;have l1:1001≤sizeLine:=by decide +kernel
 have lx:=r.length;have hf:¬(!Builtin.List.listFitsIndex i)=true:=by
  rw [fitsIndex_both (k:=i) (by lia) (by lia)]
  exact de
 have hs:ai.toArray.size≤sizeLine:=by rw [cU];lia
 have M:=@AutoSeq1.list_insert_list_int_val_1 l ai.toArray n i t w hf hs;refine oz F.slot_list_insert ⟨_,e,rfl⟩ F.entry_list_insert (@F.args_list_insert_3 _ _ _) M ⟨e,?_⟩;refine ⟨.aI,_,I.yC (its':=ai.take k++w::ai.drop k) hH e ?_ ((r.take k).append (.cons mZ (r.drop k))) ?_,rfl,q⟩
 ·have e1:¬(i<0):=by lia
  have e2:min i.toNat ai.length=k:=by lia
  simp only [au e1,cU,e2];apply Array.ext';simp;rw [p5 (by simp)]
 ·rw [fe,e_,tX,xV]
  lia
open PySem PySem.Spec PyProof.Rows
section
variable {prog:Program} {w:World} {A:Around} {E:aR} {s:Shared}
end
section
variable {X:Cx} {tg:Expr}
end
section
variable {prog:Program} {w:World} {K:Type} [DecidableEq K] {knd:HeapKind prog w K} {A:Around} {E:aR} {s:Shared}
end
section
variable {prog:Program} {w:World} {A:Around} {E:aR} {s:Shared}
end
section
variable {X:Cx} {pins:aU} {σ:St} {H:Hp} {s:Shared}
end
section
variable {X:Cx} {tg:Expr}
end
open PySem PySem.W PyProof.Rows My
end L2
namespace My
open PySem L2
end My
namespace L2
open PySem
end L2
namespace My
end My
namespace L2
open PySem PySem.Spec PyProof.Rows
open PySem PySem.Spec PyProof.Rows PySem.W
open PySem PySem.Spec PyProof.Rows PySem.W Att
section
variable {prog:Program} {w:World} {A:Around} {E:aR} {s:Shared}
end
section
variable {X:Cx}
end
end L2
namespace My
open PySem L2
def nI(o:List Nat):List V:=o.map fun k:Nat=>V.int (k:Int)
def U9:Sp:=fun vs H Q _=>∃(T:Addr) (n:Nat),vs=[.ref T,.int (n:Int)]∧b_ H T∧n≤60∧∀(D:Addr) (o:List Nat) (H':Hp),bJ T H H'→b_ H' T→H D=none→H' D=some (.lst (nI o))→o.Perm (List.range n)→Q (.ref D) H'
structure gQ (n:Nat) (bT:Nat→Nat→Prop) (b9:Nat→Prop) (p q:Nat) (here:Option Nat) (dn:Nat→Prop) (sn ws:List Nat) (hit:Prop):Prop where
 nd:sn.Nodup
 lt:∀x∈sn,x<n
 rc:∀x∈sn,x=p∨(b9 x∧Wk bT b9 p x)
 wt:∀x∈ws,x∈sn
 st:p∈sn
 cl:∀x∈sn,x∉ws→∀b,bT x b→((b9 b→b∈sn)∧(b=q→hit))∨(here=some x∧¬dn b)
 ht:hit→Wk bT b9 p q
section
variable {n:Nat} {bT:Nat→Nat→Prop} {b9:Nat→Prop} {p q:Nat}
variable {dn:Nat→Prop} {hit:Prop}
theorem gQ.start(hp:p<n)(nh:¬hit):gQ n bT b9 p q none dn [p] [p] hit:=
 ⟨by simp,fun x hx=>by rw [dA.mp hx];exact hp,fun x hx=>.inl (dA.mp hx),fun x hx=>hx,by simp,fun x hx nx=>absurd hx nx,fun h=>absurd h nh⟩
variable {qN:Nat→Prop} {sn ws:List Nat} {h:Nat}
theorem gQ.U_(k:gQ n bT b9 p q none dn sn (ws++[h]) hit)(Fo:∀b,¬qN b):gQ n bT b9 p q (some h) qN sn ws hit:=
 ⟨k.nd,k.lt,k.rc,fun x hx=>k.wt x (mI _ hx),k.st,fun x hx nx b hb=>by
  by_cases e:x=h
  ·subst e
   exact .inr ⟨rfl,Fo b⟩
  ·exact (k.cl x hx (fun z=>(fG.mp z).elim nx fun y=>e (dA.mp y)) b hb).imp id (fun z=>nomatch z.1),k.ht⟩
theorem gQ.step{oP qO:List Nat}{b:Nat}{Fp:Prop}(k:gQ n bT b9 p q (some h) dn sn ws hit)(hh:h∈sn)(ab:bT h b)(bn:b<n)
  (hs:(b∉sn∧b9 b∧oP=sn++[b]∧qO=ws++[b])∨((b∈sn∨¬b9 b)∧oP=sn∧qO=ws)) (hd:∀x,qN x→dn x∨x=b) (yX:Fp↔hit∨b=q):gQ n bT b9 p q (some h) qN oP qO Fp:=by
 have wb:Wk bT b9 p b:=by
  rcases k.rc h hh with rfl | ⟨h1,h2⟩;·exact .one ab
  ·exact .more h2 h1 ab
 have Lp:Fp→Wk bT b9 p q:=fun z=>by
  rcases yX.mp z with z | z;·exact k.ht z
  ·rw [←z];exact wb
 rcases hs with ⟨h1,h2,rfl,rfl⟩ | ⟨h1,rfl,rfl⟩
 ·refine ⟨?_,fun x hx=>?_,fun x hx=>?_,fun x hx=>?_,mI _ k.st,fun x hx nx c hc=>?_,Lp⟩
  ·rw [uc]
   exact ⟨k.nd,by simp,fun a ha c hc=>fun z=>h1 (by rw [dA.mp hc] at z;rw [←z];exact ha)⟩
  ·rcases fG.mp hx with hx | hx
   ·exact k.lt x hx
   ·rw [dA.mp hx];exact bn
  ·rcases fG.mp hx with hx | hx
   ·exact k.rc x hx
   ·rw [dA.mp hx];exact .inr ⟨h2,wb⟩
  ·rcases fG.mp hx with hx | hx
   ·exact mI _ (k.wt x hx)
   ·exact cT _ hx
  ·have AA:x∈sn:=(fG.mp hx).elim id fun z=>absurd (cT _ z) nx
   rcases k.cl x AA (fun z=>nx (mI _ z)) c hc with z | ⟨z1,z2⟩;·exact .inl ⟨fun t=>mI _ (z.1 t),fun e=>yX.mpr (.inl (z.2 e))⟩
   ·by_cases e:c=b
    ·subst e
     exact .inl ⟨fun _=>cT _ (dA.mpr rfl),fun e=>yX.mpr (.inr e)⟩
    ·exact .inr ⟨z1,fun z=>(hd c z).elim z2 e⟩
 ·refine ⟨k.nd,k.lt,k.rc,k.wt,k.st,fun x hx nx c hc=>?_,Lp⟩
  rcases k.cl x hx nx c hc with z | ⟨z1,z2⟩;·exact .inl ⟨z.1,fun e=>yX.mpr (.inl (z.2 e))⟩
  ·by_cases e:c=b
   ·subst e
    exact .inl ⟨fun t=>h1.elim id fun y=>absurd t y,fun e=>yX.mpr (.inr e)⟩
   ·exact .inr ⟨z1,fun z=>(hd c z).elim z2 e⟩
theorem gQ.next(k:gQ n bT b9 p q (some h) dn sn ws hit)(all:∀b,bT h b→dn b):gQ n bT b9 p q none qN sn ws hit:=
 ⟨k.nd,k.lt,k.rc,k.wt,k.st,fun x hx nx b hb=>by
  rcases k.cl x hx nx b hb with z | ⟨z1,z2⟩;·exact .inl z
  ·cases z1
   exact absurd (all b hb) z2,k.ht⟩
theorem gQ.done(k:gQ n bT b9 p q none dn sn [] hit):hit↔Wk bT b9 p q:=by
 refine ⟨k.ht,fun w=>?_⟩;have go:∀x,Wk bT b9 p x→(b9 x→x∈sn)∧(x=q→hit):=fun x w=>by
  induction w with
  | one a=>exact (k.cl p k.st (by simp) _ a).elim id fun z=>nomatch z.1
  | more _ t a ih=>exact (k.cl _ (ih.1 t) (by simp) _ a).elim id fun z=>nomatch z.1
 exact (go q w).2 rfl
end
variable {n k x:Nat} {o:List Nat}
theorem Fq(ho:o.Perm (List.range n)):x∈o.take k↔jy n o k x:=by
 have nd:=k7 ho;constructor
 ·intro h
  obtain ⟨i,hi,e⟩:=yg h;rw [tX] at hi;rw [List.getElem_take] at e;subst e;exact ⟨(dI ho).mp (fj _),by rw [nR nd];lia⟩
 ·rintro ⟨h1,h2⟩
  obtain ⟨hk,e⟩:=gG ((dI ho).mpr h1);have:o.idxOf x<(o.take k).length:=by rw [tX];lia
  have:=fj this
  rwa [List.getElem_take,e] at this
theorem Lq(ho:o.Perm (List.range n)):x∈o.drop k↔x<n∧k≤o.idxOf x:=by
 have nd:=k7 ho;constructor
 ·intro h
  obtain ⟨i,hi,e⟩:=yg h;rw [xV] at hi;rw [List.getElem_drop] at e;subst e;exact ⟨(dI ho).mp (fj _),by rw [nR nd];lia⟩
 ·rintro ⟨h1,h2⟩
  obtain ⟨hk,e⟩:=gG ((dI ho).mpr h1);have hl:o.idxOf x-k<(o.drop k).length:=by rw [xV];lia
  have:=fj hl;rw [List.getElem_drop] at this;simp only [show k+(o.idxOf x-k)=o.idxOf x by lia,e] at this
  exact this
def iX(R:List Nat)(q:Nat)(c:Bool):List Nat:=if c then R++[q] else R
variable {g:Nat→List Nat} {p:Nat}
theorem Va{q:Nat}{R:List Nat}:k8 (cL g p (iX R q false)) p q=cL g p (iX R q true):=by
 funext a
 unfold k8 cL iX;by_cases e:a=p <;> simp [e]
theorem Vb:cL g p (g p)=g:=by
 funext a
 unfold cL;by_cases e:a=p <;> simp [e]
theorem iV.bG{H H':Hp}{D:Addr}{rs:Nat→Addr}(h:iV H D n rs g)(k:∀b o,(b=D∨∃i,i<n∧b=rs i)→H b=some o→H' b=some o):iV H' D n rs g:=
 ⟨k _ _ (.inl rfl) h.lst,h.inj,h.ne,fun i hi=>k _ _ (.inr ⟨i,hi,rfl⟩) (h.at' i hi)⟩
def cO(o:List Nat)(k:Nat):List Nat:=(o.take k).reverse
def sT(M:aF)(D:Nat→Int)(o:List Nat)(k i j:Nat):Int:=
 if k≤o.idxOf i∧k≤o.idxOf j then aW M (cO o k) (M i) j else if o.idxOf i≤o.idxOf j then aW M (cO o (o.idxOf i)) (M i) j else aW M (cO o (o.idxOf j)) (M i) j*D j
def sU(M:aF)(D:Nat→Int)(o:List Nat)(k i j:Nat):Int:=
 if k≤o.idxOf i∧k≤o.idxOf j then D i*bC M (cO o k) else if o.idxOf i≤o.idxOf j then D i*bC M (cO o (o.idxOf i)) else D i*bC M (cO o (o.idxOf j+1))
section
variable {q:Int} {M:aF} {D:Nat→Int} {o:List Nat} {n k:Nat}
theorem ph(h:k<o.length):cO o (k+1)=o[k]::cO o k:=by unfold cO;rw [List.take_succ,cY h];simp
theorem mf(ho:o.Perm (List.range n)):x∈cO o k↔jy n o k x:=by unfold cO;rw [List.mem_reverse];exact Fq ho
theorem mh(h:ck q M (cO o k)):∀{j:Nat},j≤k→ck q M (cO o j):=by
 have go:∀d j,j+d=k→ck q M (cO o j):=fun d=>by
  induction d with
  | zero=>intro j e;rw [show j=k by lia];exact h
  | succ d ih=>
   intro j e;have:=ih (j+1) (by lia)
   by_cases hl:j<o.length
   ·rw [ph hl] at this
    exact this.1
   ·have e:cO o j=cO o (j+1):=by unfold cO;rw [p5 (by lia),p5 (by lia)]
    rw [e];exact this
 exact fun{j} hj=>go (k-j) j (by lia)
theorem Vc(hq:aT q){L:cE}{ms:List Nat}{X:Nat}(ho:o.Perm (List.range n))(hp:p<n)(ip:o.idxOf p=k)(g:ck q M (cO o k))(jz:¬q∣aW M (cO o k) (M p) p)(hD:∀i,¬q∣D i)
  (zero:∀a b,a<n→b<n→a≠b→¬aL n L a b→M a b=0) (jA:kh n L o p ms) (bd:∀k i j,k≤n→(sT M D o k i j).natAbs≤X∧(sU M D o k i j).natAbs≤X):Ll q X n p ms (sT M D o k) (sU M D o k) (sT M D o (k+1)) (sU M D o (k+1)):=by
 have lo:=gg ho;have yY:=k7 ho;have kl:k<o.length:=by rw [←ip];exact (gG ((dI ho).mpr hp)).1
 have kn:k<n:=by lia
 have pk:o[k]=p:=by have:=(gG ((dI ho).mpr hp)).2;simp only [ip] at this;exact this
 have cs:cO o (k+1)=p::cO o k:=by rw [ph kl,pk]
 have g':ck q M (cO o (k+1)):=by rw [cs];exact ⟨g,jz⟩
 have dz:∀j,j≤k+1→¬q∣bC M (cO o j):=fun j hj=>iW hq (mh g' hj);have mlt:∀{i},i∈ms→i<n∧k<o.idxOf i:=fun{i} h=>by have:=(jA i).mp h;rw [ip] at this;exact ⟨this.1,this.2.1⟩
 have yZ:bC M (cO o (k+1))=aW M (cO o k) (M p) p:=by rw [cs];rfl
 have step:∀i j,aW M (cO o k) (M p) p*aW M (cO o k) (M i) j-aW M (cO o k) (M i) p*aW M (cO o k) (M p) j=bC M (cO o k)*aW M (cO o (k+1)) (M i) j:=fun i j=>by rw [cs];exact yU hq g p (M i) j
 have bG:∀{i},i<n→k<o.idxOf i→i∉ms→aW M (cO o k) (M i) p=0∧aW M (cO o k) (M p) i=0:=fun{i} hi hk nm=>by
  have nc:i∉cO o k:=fun z=>by have:=((mf ho).mp z).2;lia
  have pc:p∉cO o k:=fun z=>by have:=((mf ho).mp z).2;lia
  have ne:p≠i:=fun z=>by rw [←z] at hk;lia
  have nw:¬Wk (aL n L) (·∈cO o k) p i:=fun z=>nm ((jA i).mpr ⟨hi,by lia,by rw [ip];exact z.mono fun x hx=>(mf ho).mp hx⟩)
  have lc:∀c∈cO o k,c<n:=fun c hc=>((mf ho).mp hc).1;exact ⟨qM hq zero g lc i p hi hp nc pc (Ne.symm ne) fun z=>nw (z.symm Bs),qM hq zero g lc p i hp hi pc nc ne nw⟩
 have tp:∀j,k≤o.idxOf j→sT M D o k p j=aW M (cO o k) (M p) j∧sU M D o k p j=D p*bC M (cO o k):=fun j hj=>by
  unfold sT sU;rw [ar ⟨by lia,hj⟩,ar ⟨by lia,hj⟩]
  exact ⟨rfl,rfl⟩
 have tk:∀i j,k≤o.idxOf i→k≤o.idxOf j→sT M D o k i j=aW M (cO o k) (M i) j∧sU M D o k i j=D i*bC M (cO o k):=fun i j hi hj=>by unfold sT sU;rw [ar ⟨hi,hj⟩,ar ⟨hi,hj⟩];exact ⟨rfl,rfl⟩
 have uz:∀i j,k+1≤o.idxOf i→k+1≤o.idxOf j→sT M D o (k+1) i j=aW M (cO o (k+1)) (M i) j∧sU M D o (k+1) i j=D i*bC M (cO o (k+1)):=fun i j hi hj=>by unfold sT sU;rw [ar ⟨hi,hj⟩,ar ⟨hi,hj⟩];exact ⟨rfl,rfl⟩
 have y3:∀i,k<o.idxOf i→sT M D o (k+1) i p=aW M (cO o k) (M i) p*D p∧sU M D o (k+1) i p=D i*bC M (cO o (k+1)):=fun i hi=>by
  unfold sT sU;rw [au (by lia),au (by lia),au (by lia),au (by lia),ip]
  exact ⟨rfl,rfl⟩
 refine ⟨?_,fun i j _ _=>?_,fun i j _ _=>bd (k+1) i j kn,fun i hi=>?_,fun i hi j hj=>?_,fun i j du jB h=>?_⟩
 ·rw [(tp p (by lia)).1]
  exact jz
 ·unfold sU
  split
  ·exact eX hq (hD i) (dz _ (by lia))
  ·rename_i h1
   split
   ·exact eX hq (hD i) (dz _ (by lia))
   ·exact eX hq (hD i) (dz _ (by lia))
 ·have h1:=(mlt hi).2
  rw [(tk i p (by lia) (by lia)).1,(tk i p (by lia) (by lia)).2,(tp p (by lia)).1,(tp p (by lia)).2,(y3 i h1).1,(y3 i h1).2,yZ]
  exact Cg.of_eq (by grind)
 ·have h1:=(mlt hi).2
  have h2:=(mlt hj).2;rw [(tk i j (by lia) (by lia)).1,(tk i j (by lia) (by lia)).2,(tp j (by lia)).1,(tp j (by lia)).2,(y3 i h1).1,(y3 i h1).2,(uz i j (by lia) (by lia)).1,(uz i j (by lia) (by lia)).2]
  have st:=step i j;rw [←yZ] at st;generalize aW M (cO o k) (M i) j=x at st ⊢;generalize aW M (cO o k) (M i) p=y at st ⊢;generalize aW M (cO o k) (M p) j=w at st ⊢;generalize aW M (cO o (k+1)) (M i) j=x' at st ⊢;generalize bC M (cO o k)=d at st ⊢;generalize bC M (cO o (k+1))=d' at st ⊢;refine Cg.of_eq ?_;have e:(x*(D i*d'*(D p*d))-y*D p*w*(D i*d))*(D i*d')=D i*D p*d*(d'*x-y*w)*(D i*d'):=by grind
  rw [e,st];grind
 ·by_cases h1:k<o.idxOf i∧k<o.idxOf j
  ·rw [(tk i j (by lia) (by lia)).1,(tk i j (by lia) (by lia)).2,(uz i j (by lia) (by lia)).1,(uz i j (by lia) (by lia)).2]
   have st:=step i j;rw [←yZ] at st;have z:aW M (cO o k) (M i) p*aW M (cO o k) (M p) j=0:=by
    rcases h with h | ⟨_,h⟩;·rw [(bG du h1.1 h).1,gv]
    ·rw [(bG jB h1.2 h).2,h_]
   rw [z,lJ] at st;exact Cg.of_eq (by grind)
  ·by_cases h2:k<o.idxOf i∧o.idxOf j=k
   ·have ej:j=p:=p4 fun z=>uR ho jB hp z (by lia)
    subst ej;have nm:i∉ms:=by
     rcases h with h | ⟨h,_⟩;·exact h
     ·exact absurd rfl h
    rw [(tk i j (by lia) (by lia)).1,(y3 i h2.1).1,(bG du h2.1 nm).1]
    exact Cg.of_eq (by simp)
   ·have e:sT M D o (k+1) i j=sT M D o k i j∧sU M D o (k+1) i j=sU M D o k i j:=by
     by_cases h3:o.idxOf i=k∧k≤o.idxOf j
     ·have a1:¬(k+1≤o.idxOf i∧k+1≤o.idxOf j):=by lia
      have a2:o.idxOf i≤o.idxOf j:=by lia
      have a3:k≤o.idxOf i∧k≤o.idxOf j:=by lia
      unfold sT sU;rw [au a1,ar a2,ar a3,au a1,ar a2,ar a3,h3.1];exact ⟨rfl,rfl⟩
     ·have a1:¬(k+1≤o.idxOf i∧k+1≤o.idxOf j):=by lia
      have a2:¬(k≤o.idxOf i∧k≤o.idxOf j):=by lia
      unfold sT sU;rw [au a1,au a2,au a1,au a2];exact ⟨rfl,rfl⟩
    rw [e.1,e.2];exact Cg.refl _
end
end My
namespace L2
open PySem PySem.Spec PyProof.Rows
section
variable {X:Cx} {tg:Expr}
end
end L2
namespace My
open PySem L2
structure Bx (q:Int) (n X:Nat) (ah:dF) (o:List Nat) (M:aF) (D:Nat→Int):Prop where
 uV:∀i j,i<n→j<n→q∣(atT ah i j).1*D i-M i j*(atT ah i j).2
 dn:∀i,¬q∣D i
 zero:∀i j,i<n→j<n→(atT ah i j).1=0→M i j=0
 bd:∀k i j,k≤n→(sT M D o k i j).natAbs≤X∧(sU M D o k i j).natAbs≤X
 X1:1000≤X
 iY:X≤10 ^ 100
structure Fs (H0 H:Hp) (q:Int) (n X:Nat) (L:cE) (o:List Nat) (M:aF) (D:Nat→Int) (k:Nat) (wk ot:Addr) (rs:Nat→Addr) (vf:Nat→Nat→V) (ls:Nat→Addr) (g:Nat→List Nat):Prop where
 tab:WTab H wk n rs vf
 new:H0 wk=none∧∀i,i<n→H0 (rs i)=none
 uV:dj X H q n vf (sT M D o k) (sU M D o k)
 jA:Fb H ot n ls g
 ok:∀p,p<n→o_ n o p (g p)∧kh n L o p (g p)
 sep:(∀i,i<n→ot≠rs i∧∀j,j<n→ls j≠rs i)
def Vd(C N:Addr):Sp:=fun vs H Q _=>∃(z a d:Addr) (q:Int) (B X n:Nat) (ah:dF) (o:List Nat) (M:aF) (D:Nat→Int),vs=[.ref z,.ref a,.ref d]∧dU C H z q∧aT q∧jv B H q a ah∧B≤10 ^ 100∧ah.length=n∧1≤n∧n≤40∧(∀ps∈ah,ps.length=n)∧H d=some (.lst (cm o))∧o.Perm (List.range n)∧Bx q n X ah o M D ∧
 (∀(k:Nat) (hk:k<o.length),ck q M (cO o k)→q∣aW M (cO o k) (M o[k]) o[k]→∀(tp wk ot:Addr) (H':Hp) (rs ls:Nat→Addr) (vf:Nat→Nat→V) (g:Nat→List Nat),af H H'→H' tp=some (.tup [.ref wk,.ref ot,.int ((k:Int)+1)])→Fs H H' q n X (fB n (cy ah) n) o M D k wk ot rs vf ls g→Q (.ref tp) H') ∧
 (ck q M (cO o n)→∀(tp wk ot:Addr) (H':Hp) (rs ls:Nat→Addr) (vf:Nat→Nat→V) (g:Nat→List Nat),af H H'→H' tp=some (.tup [.ref wk,.ref ot,.aI])→Fs H H' q n X (fB n (cy ah) n) o M D n wk ot rs vf ls g→Q (.ref tp) H')
section
variable {H:Hp} {q:Int} {a:Addr} {B n:Nat} {ah:dF}
theorem Ve(h:jv B H q a ah)(l:ah.length=n)(w:∀ps∈ah,ps.length=n):∃(ra:Nat→Addr) (vf:Nat→Nat→V),H a=some (.lst ((List.range n).map fun i=>V.ref (ra i)))∧(∀i,i<n→H (ra i)=some (.lst ((List.range n).map (vf i))))∧∀i j,i<n→j<n→aV B H q (vf i j) (atT ah i j).1 (atT ah i j).2:=by
 obtain ⟨vs,ea,lv,f⟩:=h;have row:∀i,i<n→∃(r:Addr) (us:List V),vs[i]?=some (.ref r)∧H r=some (.lst us)∧us.length=n∧∀j,j<n→aV B H q (us.getD j .aI) (atT ah i j).1 (atT ah i j).2:=fun i hi=>by
  have hv:i<vs.length:=by lia
  have hp:i<ah.length:=by lia
  obtain ⟨r,er,us,eu,lu,fu⟩:=f i vs[i] ah[i] (cY hv) (cY hp);have lw:=w _ (fj hp);refine ⟨r,us,by rw [cY hv,er],eu,by lia,fun j hj=>?_⟩
  have hu:j<us.length:=by lia
  have hr:j<(ah[i]).length:=by lia
  have:=fu j us[j] ah[i][j] (cY hu) (cY hr);unfold atT;rw [getD_at hp,getD_at hr,getD_at hu];exact this
 refine ⟨fun i=>if h:i<n then (row i h).choose else 0,fun i j=>if h:i<n then (row i h).choose_spec.choose.getD j .aI else .aI,?_,fun i hi=>?_,fun i j hi hj=>?_⟩
 ·rw [ea]
  congr 2
  refine fK (by simp;lia) fun i h1 h2=>?_
  have hi:i<n:=by simpa using h2
  have e:some vs[i]=some (V.ref (row i hi).choose):=(cY h1).symm.trans (row i hi).choose_spec.choose_spec.1;rw [Option.some.inj e];simp [hi]
 ·simp only [fL hi]
  have e:=(row i hi).choose_spec.choose_spec;refine e.2.1.trans ?_
  congr 2
  refine fK (by rw [aX,cN];exact e.2.2.1) fun j h1 h2=>?_
  rw [fh,gw,getD_at h1]
 ·simp only [fL hi]
  exact (row i hi).choose_spec.choose_spec.2.2.2 j hj
theorem uW{X:Nat}{v:V}{x m t u:Int}(h:aV B H q v x m)(d:q∣x*u-t*m)(nu:¬q∣u)(bt:t.natAbs≤X)(bu:u.natAbs≤X):aH X H q v t u:=aH.bd (B:=B) ⟨x,m,h,d,nu⟩ bt bu
end
variable {n:Nat}
theorem Vf{f:Nat→Nat→Bool}:∀z∈fB n f n,0≤z.1∧z.1<z.2∧z.2<(n:Int):=fun z hz=>by obtain ⟨i,j,_,h2,h3,h4,rfl⟩:=mem_of hz;dsimp only;lia
variable {ah:dF} {a b:Nat}
theorem Lr(ha:a<n)(hb:b<n)(ab:a≠b)(h:¬aL n (fB n (cy ah) n) a b):(atT ah a b).1=0:=p4 fun z=>h ⟨ha,hb,by
 have t1:jx ah a b=true:=by unfold jx;unfold atT at z;simpa using z
 rcases Nat.lt_or_gt_of_ne ab with l | l;·exact .inl (Bo l hb (by unfold cy;rw [t1];rfl) (by lia))
 ·exact .inr (Bo l ha (by unfold cy;rw [t1,Bool.or_true]) (by lia))⟩
variable {B:Nat} {H:Hp} {q x:Int} {v:V}
theorem Fu{B':Nat}{m x' m':Int}(h:aV B H q v x m)(g:aV B' H q v x' m'):x=x'∧m=m':=by
 cases h with
 | a7 e l=>
  cases g with
  | a7 e' l'=>rw [e] at e';cases e';exact ⟨rfl,rfl⟩
 | rem=>cases g;exact ⟨rfl,rfl⟩
def gH(H:Hp)(e:Addr)(n:Nat)(av:Nat→V):Prop:=H e=some (.lst ((List.range n).map av))
theorem By{l l':List Int}(p:l.Perm l'):l.sum=l'.sum:=by
 induction p with
 | nil=>rfl
 | cons x _ ih=>rw [dE,dE,ih]
 | swap x y l=>rw [dE,dE,dE,dE];lia
 | trans _ _ a b=>exact a.trans b
theorem Fv{F:Nat→Int}{p:Nat}:∀{C l:List Nat},C.Nodup→l.Nodup→(∀c∈l,c∈C)→(∀c∈C,c∉l→F c=0)→(C.map F).sum=(l.map F).sum
 | [],l,_,_,sub,_=>by
  cases l with
  | nil=>rfl
  | cons x r=>exact absurd (sub x (hJ ..)) (by simp)
 | c::C,l,nd,nl,sub,z=>by
  rw [lG] at nd;by_cases h:c∈l
  ·have pm:=List.perm_cons_erase h
   have e:(l.map F).sum=F c+((l.erase c).map F).sum:=by rw [By (pm.map F),cX,dE]
   rw [cX,dE,e,Fv (p:=p) (l:=l.erase c) nd.2 (nl.erase c) (fun x hx=>?_) fun x hx nx=>?_]
   ·have:=sub x (List.mem_of_mem_erase hx)
    rcases dy.mp this with rfl | h2;·exact absurd hx (List.Nodup.not_mem_erase nl)
    ·exact h2
   ·refine z x (e9 _ hx) fun hl=>nx ?_
    exact (List.mem_erase_of_ne (fun e:x=c=>nd.1 (e▸hx))).mpr hl
  ·rw [cX,dE,z c (hJ ..) h,eU]
   exact Fv (p:=p) nd.2 nl (fun x hx=>(dy.mp (sub x hx)).resolve_left fun e=>h (e▸hx)) fun x hx nx=>z x (e9 _ hx) nx
section
variable {q:Int} {M:aF} {D:Nat→Int} {o:List Nat} {n:Nat} {L:cE} {g:Nat→List Nat}
end
section
variable {q:Int} {M:aF} {D:Nat→Int} {o:List Nat} {n:Nat} {L:cE} {g:Nat→List Nat}
end
theorem Fw:∀n,1≤iz n
 | 0=>aN _
 | n+1=>by have:=Fw n;show 1≤(n+1)*iz n;exact aQ this (jT _ (by lia))
theorem Vg(h:a≤b):iz a≤iz b:=by
 induction b with
 | zero=>rw [show a=0 by lia];exact aN _
 | succ b ih=>
  by_cases e:a=b+1;·rw [e];exact aN _
  ·refine aQ (ih (by lia)) ?_
   show iz b≤(b+1)*iz b;exact jT _ (by lia)
def cS(n B:Nat):Nat:=iz (n+2)*B ^ (n+2)
def bV(n B:Nat):Nat:=(n+1)*(B*(cS n B*cS n B))
section
variable {q:Int} {M:aF} {D:Nat→Int} {o:List Nat} {n B:Nat}
theorem y4(b1:1≤B){m:Nat}(h:m≤n+2):iz m*B ^ m≤cS n B:=fJ (Vg h) (Nat.pow_le_pow_right b1 h)
theorem Ls(b1:1≤B):1≤cS n B:=Nat.mul_pos (Fw _) (Nat.pow_pos b1)
theorem Lu(lo:o.length=n)(k:Nat):(cO o k).length≤n:=by unfold cO;rw [List.length_reverse,tX];lia
theorem nS(b1:1≤B)(hM:∀i k,(M i k).natAbs≤B)(lo:o.length=n)(k i j:Nat):(aW M (cO o k) (M i) j).natAbs≤cS n B:=aQ (Lh hM (hM i)) (y4 b1 (by have:=Lu lo k;lia))
theorem pj(b1:1≤B)(hM:∀i k,(M i k).natAbs≤B)(lo:o.length=n)(k:Nat):(bC M (cO o k)).natAbs≤cS n B:=aQ (Li hM) (y4 b1 (by have:=Lu lo k;lia))
theorem y6(b1:1≤B):cS n B≤bV n B:=by unfold bV;refine aQ (jT (cS n B) (Ls (n:=n) b1)) ?_;refine aQ (jT _ b1) (jT _ (by lia))
theorem nV(b1:1≤B){a b:Int}(ha:a.natAbs≤cS n B)(hb:b.natAbs≤B):(a*b).natAbs≤bV n B∧(b*a).natAbs≤bV n B:=by
 have h:(a*b).natAbs≤bV n B:=by rw [dC];unfold bV;refine aQ (fJ ha hb) ?_;rw [Nat.mul_comm];refine aQ (Nat.mul_le_mul_left B (jT (cS n B) (Ls (n:=n) b1))) (jT _ (by lia))
 exact ⟨h,by rw [dD];exact h⟩
theorem Lv(b1:1≤B){a b c:Int}(ha:a.natAbs≤B)(hb:b.natAbs≤cS n B)(hc:c.natAbs≤cS n B):(a*b*c).natAbs≤bV n B:=by rw [dC,dC,Nat.mul_assoc];unfold bV;exact aQ (fJ ha (fJ hb hc)) (jT _ (by lia))
theorem Lw{F:Nat→Int}{Z:Nat}(h:∀j,(F j).natAbs≤Z):∀l:List Nat,((l.map F).sum).natAbs≤l.length*Z
 | []=>by simp
 | x::l=>by rw [cX,dE,e_,Nat.succ_mul];have:=Lw h l;have:=h x;lia
theorem Vh(b1:1≤B)(hM:∀i k,(M i k).natAbs≤B)(hD:∀i,(D i).natAbs≤B)(lo:o.length=n)(k i j:Nat):(sT M D o k i j).natAbs≤bV n B∧(sU M D o k i j).natAbs≤bV n B:=by
 constructor
 ·unfold sT
  split
  ·exact aQ (nS b1 hM lo _ _ _) (y6 b1)
  ·split
   ·exact aQ (nS b1 hM lo _ _ _) (y6 b1)
   ·exact (nV b1 (nS b1 hM lo _ _ _) (hD j)).1
 ·unfold sU
  split
  ·exact (nV b1 (pj b1 hM lo _) (hD i)).2
  ·split <;> exact (nV b1 (pj b1 hM lo _) (hD i)).2
theorem Vi(b1:1≤B)(hM:∀i k,(M i k).natAbs≤B)(hD:∀i,(D i).natAbs≤B)(lo:o.length=n)(w:∀i j,i<n→j<n→q∣(atT ah i j).1*D i-M i j*(atT ah i j).2)(dn:∀i,¬q∣D i)(zero:∀i j,i<n→j<n→(atT ah i j).1=0→M i j=0)(x1:1000≤bV n B)(Vj:bV n B≤10 ^ 100):Bx q n (bV n B) ah o M D:=
 ⟨w,dn,zero,fun k i j _=>Vh b1 hM hD lo k i j,x1,Vj⟩
end
theorem Vk(x y:Int):x=x.fmod y+y*x.fdiv y:=by have:=Int.mul_fdiv_add_fmod x y;lia
theorem Lx(x y:Int):Int.gcd y (x.fmod y)=Int.gcd x y:=by
 have e:=Vk x y;have e2:x.fmod y=x-y*x.fdiv y:=by lia
 refine Nat.dvd_antisymm (Int.ofNat_dvd.mp (Int.dvd_coe_gcd ?_ (kB ..))) (Int.ofNat_dvd.mp (Int.dvd_coe_gcd (jS ..) ?_))
 ·have:=t9 (jS y (x.fmod y)) (An (c:=x.fdiv y) (kB y (x.fmod y)))
  rwa [←e] at this
 ·have:=Int.dvd_sub (kB x y) (An (c:=x.fdiv y) (jS x y))
  rwa [←e2] at this
variable {y:Int}
theorem Vl(h:y≠0):(x.fmod y).natAbs<y.natAbs:=by
 have h1:=fg x h;have h2:x % y<(y.natAbs:Int):=Int.emod_lt x h;rw [Int.fmod_eq_emod]
 split
 ·lia
 ·rename_i hn
  rw [not_or] at hn;have:x % y≠0:=fun z=>hn.2 (DU z);lia
def Vm:Sp:=fun vs H Q _=>∃a b:Int,vs=[.int a,.int b]∧Q (.int (Int.gcd a b:Int)) H
def Vn:Sp:=fun vs H Q _=>∃c p:Int,vs=[.int c,.int p]∧2≤p∧p≤997∧fz p=true∧¬p∣c∧∀(r:Int) (H':Hp),af H H'→0≤r→r<p→p∣r*c-1→Q (.int r) H'
def dw(H:Hp)(td:Addr)(q:Int):Prop:=(q=0∧H td=some (.tup [sV "fractions"]))∨(q≠0∧H td=some (.tup [sV "wheel",.int q]))
variable {H':Hp} {td:Addr}
theorem dw.mono(h:dw H td q)(s:af H H'):dw H' td q:=h.imp (fun h=>⟨h.1,s _ _ h.2⟩) fun h=>⟨h.1,s _ _ h.2⟩
def Vo:Sp:=fun vs H Q _=>∃(td:Addr) (q a b:Int) (Y:Nat),vs=[.ref td,.int a,.int b]∧dw H td q∧aT q∧¬q∣b∧a.natAbs≤Y∧b.natAbs≤Y∧Y≤10 ^ 300∧∀(v:V) (H':Hp),af H H'→aH Y H' q v a b→Q v H'
theorem Vp{a b:Int}(hb:b≠0)(s:Int)(hs:s=if b<0 then -1 else 1):cg ((s*a).fdiv (Int.gcd a b:Int)) ((s*b).fdiv (Int.gcd a b:Int))∧(s*a).fdiv (Int.gcd a b:Int)*b=a*(s*b).fdiv (Int.gcd a b:Int):=by
 have gp:0<Int.gcd a b:=Int.gcd_pos_of_ne_zero_right a hb;obtain ⟨x,hx⟩:=kB a b;obtain ⟨y,hy⟩:=jS a b;generalize hg:Int.gcd a b=g at gp hx hy ⊢;have g0:(g:Int)≠0:=by lia
 have e1:(s*a).fdiv (g:Int)=s*x:=by
  rw [hx,show s*((g:Int)*x)=(g:Int)*(s*x) by grind]
  exact Int.mul_fdiv_cancel_left _ g0
 have e2:(s*b).fdiv (g:Int)=s*y:=by
  rw [hy,show s*((g:Int)*y)=(g:Int)*(s*y) by grind]
  exact Int.mul_fdiv_cancel_left _ g0
 rw [e1,e2];have gc:Int.gcd x y=1:=by have:=Int.gcd_mul_left (g:Int) x y;rw [←hx,←hy,hg,yb] at this;exact Nat.eq_of_mul_eq_mul_left gp (by lia)
 have ss:s=1∨s=-1:=by rw [hs];split <;> simp
 refine ⟨⟨?_,?_⟩,by rw [hx,hy];grind⟩
 ·have JP:(g:Int)*y<0∨0<(g:Int)*y:=by lia
  have ys:(b<0→y<0)∧(¬b<0→0<y):=by
   constructor
   ·intro h
    refine p4 fun z=>?_;have:0≤(g:Int)*y:=Int.mul_nonneg (by lia) (by lia)
    lia
   ·intro h
    refine p4 fun z=>?_;have:(g:Int)*y≤0:=Int.mul_nonpos_of_nonneg_of_nonpos (by lia) (by lia)
    lia
  rw [hs]
  split
  ·rename_i h
   have:=ys.1 h;lia
  ·rename_i h
   have:=ys.2 h;lia
 ·rcases ss with h | h
  ·rw [h,oC,oC]
   exact gc
  ·rw [h,show (-1:Int)*x=-x by lia,show (-1:Int)*y=-y by lia,Int.gcd_neg,Int.neg_gcd]
   exact gc
def Fx(tp bt:Int→Int→Int→Int→Int):Sp:=fun vs H Q _=>∃(td:Addr) (v u:V) (q T U T' U':Int) (X Y:Nat),vs=[.ref td,v,u]∧dw H td q∧aT q∧aH X H q v T U∧aH X H q u T' U'∧X≤10 ^ 140∧¬q∣bt T U T' U'∧(tp T U T' U').natAbs≤Y∧(bt T U T' U').natAbs≤Y∧∀(v':V) (H':Hp),af H H'→aH Y H' q v' (tp T U T' U') (bt T U T' U')→Q v' H'
variable {X:Nat}
theorem g_(h:x.natAbs≤X)(hX:X≤10 ^ 140):eK x:=jQ (aQ h hX) (by decide +kernel)
theorem mi(h:x.natAbs≤X)(h':y.natAbs≤X)(hX:X≤10 ^ 140):(x*y).natAbs≤10 ^ 280:=by rw [dC];exact aQ (fJ (aQ h hX) (aQ h' hX)) (by decide +kernel)
def Vq:Sp:=fun vs H Q _=>∃(td:Addr) (v u:V) (q T U T' U':Int) (X Y:Nat),vs=[.ref td,v,u]∧dw H td q∧aT q∧aH X H q v T U∧aH X H q u T' U'∧X≤10 ^ 140∧¬q∣T'∧(T*U').natAbs≤Y∧(U*T').natAbs≤Y∧∀(v':V) (H':Hp),af H H'→aH Y H' q v' (T*U') (U*T')→Q v' H'
def Vr:Sp:=fun vs H Q _=>∃(td:Addr) (q:Int),vs=[.ref td]∧dw H td q∧aT q∧∀(v:V) (H':Hp),af H H'→aV 1000 H' q v 0 1→Q v H'
variable {Y:Nat}
theorem Vs(hq:aT q)(h:aH Y H q v 0 1)(y:1≤Y):aV 1000 H q v 0 1:=by
 obtain ⟨x,m,h1,h2⟩:=(k9 hq h).mp (ja q);subst h2;have hb:aH 1000 H q v 0 1:=h.bd (by decide) (by decide)
 obtain ⟨x',m',g1,g2,g3⟩:=hb;obtain ⟨e1,e2⟩:=Fu h1 g1;subst e1;cases g1 with
 | a7 e l bx bm=>
  have:=l.gc;rw [Int.gcd_zero_left] at this;have:=l.pos;have:m'=1:=by lia
  subst this;exact .a7 e l bx bm
 | rem a b c=>exact .rem a b c
def Vt:Sp:=fun vs H Q _=>∃(td T:Addr) (q:Int),vs=[.ref td,.ref T]∧dw H td q∧aT q∧b_ H T∧∀(v:V) (x m:Int) (H':Hp),bJ T H H'→b_ H' T→aV 1000 H' q v x m→(q=0→x.natAbs≤3∧m∣6)→Q v H'
variable {T:Addr}
theorem dw.off(h:dw H td q)(o:bJ T H H')(t:b_ H T):dw H' td q:=by
 obtain ⟨x,ex⟩:=t;have ne:∀{xs},H td=some (.tup xs)→td≠T:=fun{xs} e z=>by rw [z,ex] at e;cases e
 exact h.imp (fun h=>⟨h.1,o _ _ (ne h.2) h.2⟩) fun h=>⟨h.1,o _ _ (ne h.2) h.2⟩
theorem Ly{a b:Int}(h:aH Y H q v a b)(ha:a.natAbs≤1000)(hb:b.natAbs≤1000)(q0:q=0):∃x m,aV 1000 H q v x m∧x.natAbs≤a.natAbs∧m∣b:=by
 have h2:aH a.natAbs H q v a b∨True:=.inr trivial;obtain ⟨x,m,g1,g2,g3⟩:=h.bd (Y:=1000) ha hb;subst q0;refine ⟨x,m,g1,?_,?_⟩
 ·cases g1 with
  | a7 e l bx bm=>
   have e0:=eS.mp g2;have U0:b≠0:=fun z=>g3 (by rw [z];exact i8 0)
   by_cases up:0<b;·exact (uD l up (show x*b=a*m by lia)).2
   ·have:=uD l (show 0 < -b by lia) (show x * -b=-a*m by rw [lI,t_];lia)
    rw [yc] at this;exact this.2
  | rem _ _ _=>lia
 ·cases g1 with
  | a7 e l bx bm=>have e0:=eS.mp g2;exact TK l (show x*b=a*m by lia)
  | rem _ _ _=>lia
def Vu:Sp:=fun vs H Q _=>∃T:Addr,vs=[.ref T]∧b_ H T∧∀(td:Addr) (q:Int) (H':Hp),bJ T H H'→b_ H' T→dw H' td q→aT q→Q (.ref td) H'
def Fy(w:Int):Bool:=[0,2,3,5,7,997,97,13,11].contains w
theorem Vv{w:Int}(h:Fy w=true):aT w:=by unfold Fy at h;simp at h;rcases h with h | h | h | h | h | h | h | h | h <;> subst h <;> (unfold aT;decide +kernel)
theorem Vw{wi:TI}{ρ:St→St}{te:TE}{σ:St}{Q:VK}(hn:n<sizeLine)(hT:b_ H T)(kW:∀R:It→Hp→Prop,R (m4 0 n) H→wi σ H R)(Pr:Addr→Nat→V→Hp→Prop)
  (mono:∀D i y Ha Hb ys,Pr D i y Ha→b_ Ha T→Ha D=some (.lst ys)→(∀b o,b≠T→b≠D→Ha b=some o→Hb b=some o)→Pr D i y Hb)
  (step:∀(D:Addr) (i:Nat),i<n→∀(Hc:Hp) (R:VK),bJ T H Hc→b_ Hc T→(∃ys,Hc D=some (.lst ys))→D≠T→H D=none→(∀y H3,bJ T Hc H3→b_ H3 T→Pr D i y H3→R y H3)→te (some (.int (0+(i:Int)))::ρ σ) Hc R)
  (fin:∀(D:Addr) (ys:List V) (Hc:Hp),D≠T→H D=none→bJ T H Hc→b_ Hc T→ys.length=n→(∀(i:Nat) (y:V),ys[i]?=some y→Pr D i y Hc)→Hc D=some (.lst ys)→Q (.ref D) Hc):jr wi ρ (fun _ H Q=>Q true H) te σ H Q:=by
 refine kW _ ?_;intro D nD;have nP:=hT.ne nD;have up:∀{Hc:Hp} {o:HO},b_ Hc T→b_ (L2.upd Hc D o) T:=fun⟨x,e⟩=>⟨x,(aJ (Ne.symm nP)).trans e⟩;have off:∀{Hc:Hp} {o:HO},bJ T H Hc→bJ T H (L2.upd Hc D o):=fun h b u ne e=>(aJ (fun z=>by rw [z,nD] at e;cases e)).trans (h b u ne e)
 refine ⟨fun i m ys Hc=>m=n-i∧i≤n∧Hc D=some (.lst ys)∧bJ T H Hc∧b_ Hc T∧ys.length=i∧∀j y,ys[j]?=some y→Pr D j y Hc,⟨_,rfl,cn _,ay,off (bJ.refl T H),up hT,rfl,fun j y e=>by simp at e⟩,?_⟩
 rintro i m ys Hc ⟨rfl,hi,eD,sH,pc,el,hP⟩;refine ⟨eD,?_⟩;by_cases cq:i<n
 ·refine .inr ⟨cq,fun x H' hy=>?_⟩
  obtain ⟨rfl,rfl⟩:=hy;rw [ar rfl];refine step D i cq _ _ sH pc ⟨_,eD⟩ nP nD fun y H3 s3 p3 hp=>?_;have e3:=s3 _ _ nP eD;refine ⟨e3,by lia,n-(i+1),by lia,rfl,cq,ay,off (sH.trans s3),up p3,by simp [el],fun j y' e=>?_⟩
  by_cases hj:j<i;·exact mono D j y' _ _ _ (mono D j y' _ _ _ (hP j y' (by rw [oy (by lia)] at e;exact e)) pc eD fun b o n1 n2 e=>s3 b o n1 e) p3 e3 fun b o n1 n2 e=>(aJ n2).trans e
  ·have hj:j=i:=by have:=(bZ.mp e).1;simp at this;lia
   subst hj;have e':y'=y:=by rw [ox (by lia),el,Nat.sub_self] at e;simpa using e.symm
   subst e';exact mono D j y' _ _ _ hp p3 e3 fun b o n1 n2 e=>(aJ n2).trans e
 ·have e:i=n:=by lia
  subst e;exact .inl ⟨aN _,fin D ys Hc nP nD sH pc el hP eD⟩
theorem aV.off{m:Int}{D:Addr}{ys:List V}(h:aV B H q v x m)(t:b_ H T)(e:H D=some (.lst ys))(k:∀b o,b≠T→b≠D→H b=some o→H' b=some o):aV B H' q v x m:=by
 obtain ⟨z,ez⟩:=t;cases h with
 | a7 ep l bx bm=>exact .a7 (k _ _ (fun zz=>by rw [zz,ez] at ep;cases ep) (fun zz=>by rw [zz,e] at ep;cases ep) ep) l bx bm
 | rem a b c=>exact .rem a b c
def mj(q x m:Int):Prop:=q=0→x.natAbs≤3∧m∣6
def Vx:Sp:=fun vs H Q _=>∃(td T:Addr) (q:Int) (n:Nat),vs=[.ref td,.ref T,.int (n:Int)]∧dw H td q∧aT q∧b_ H T∧n≤60∧∀(D:Addr) (ps:cE) (H':Hp),bJ T H H'→b_ H' T→H D=none→qH 1000 H' q D ps→ps.length=n→(∀p∈ps,mj q p.1 p.2)→Q (.ref D) H'
def Vy:Sp:=fun vs H Q _=>∃(T:Addr) (n:Nat),vs=[.ref T,.int (n:Int)]∧b_ H T∧n≤20∧∀(D:Addr) (us:List V) (L:cE) (H':Hp),bJ T H H'→b_ H' T→H D=none→H' D=some (.lst us)→cR H' us L→(∀z∈L,0≤z.1∧z.1<z.2∧z.2<(n:Int))→L.length≤400→Q (.ref D) H'
theorem cR.y7{us:List V}{L:cE}(h:cR H us L)(t:b_ H T)(o:bJ T H H'):cR H' us L:=by obtain ⟨z,ez⟩:=t;refine ⟨h.1,fun k v p h1 h2=>?_⟩;obtain ⟨b,e1,e2⟩:=h.2 k v p h1 h2;exact ⟨b,e1,o b _ (fun zz=>by rw [zz,ez] at e2;cases e2) e2⟩
def Vz:Sp:=fun vs H Q _=>∃(td:Addr) (q:Int) (v:V) (x m:Int) (B:Nat),vs=[.ref td,v]∧dw H td q∧aT q∧aV B H q v x m∧Q (.bl true) H
def VA:Sp:=fun vs H Q _=>∃(td a:Addr) (q:Int) (ps:cE) (B:Nat),vs=[.ref td,.ref a,.int (ps.length:Int)]∧dw H td q∧aT q∧qH B H q a ps∧ps.length≤60∧∀H',af H H'→Q (.bl true) H'
def iZ(ah:dF)(j i:Nat):List (Int×Int):=((List.range i).filter fun x=>cy ah x j).map fun x:Nat=>((x:Int),(j:Int))
def gi(ah:dF)(j:Nat):List (Int×Int):=(List.range j).flatMap fun y=>iZ ah y y
variable {j i:Nat}
theorem Bz(h:cy ah i j=true):iZ ah j (i+1)=iZ ah j i++[((i:Int),(j:Int))]:=by unfold iZ;rw [lK,List.filter_append,i9];simp [h]
theorem Lz(h:cy ah i j=false):iZ ah j (i+1)=iZ ah j i:=by unfold iZ;rw [lK,List.filter_append,i9];simp [h]
theorem Fz:gi ah (j+1)=gi ah j++iZ ah j j:=by unfold gi;rw [lK,List.flatMap_append];simp
theorem FA{z:Int×Int}:z∈gi ah n↔∃i j:Nat,z=((i:Int),(j:Int))∧i<j∧j<n∧cy ah i j=true:=by
 unfold gi iZ;simp only [List.mem_flatMap,e8,i_,pS];constructor
 ·rintro ⟨j,hj,i,⟨hi,ht⟩,rfl⟩
  exact ⟨i,j,rfl,hi,hj,ht⟩
 ·rintro ⟨i,j,rfl,hi,hj,ht⟩
  exact ⟨j,hj,i,⟨hi,ht⟩,rfl⟩
def VB:Sp:=fun vs H Q _=>∃(td a:Addr) (q:Int) (B n:Nat) (ah:dF),vs=[.ref td,.ref a]∧dw H td q∧aT q∧jv B H q a ah∧ah.length=n∧n≤20∧(∀ps∈ah,ps.length=n)∧∀(D:Addr) (us:List V) (H':Hp),af H H'→H D=none→H' D=some (.lst us)→cR H' us (gi ah n)→(gi ah n).length≤400→Q (.ref D) H'
theorem LA{F:Nat→Int}:∀{l:List Nat},(∀c∈l,F c=0)→(l.map F).sum=0
 | [],_=>rfl
 | x::l,h=>by rw [cX,dE,h x (hJ ..),LA fun c hc=>h c (e9 _ hc),eU]
theorem LB{q:Int}:∀{m:Nat} {F:Nat→Int},(∀i,i<m→q∣F i)→q∣a_ m F
 | 0,_,_=>ja q
 | m+1,F,h=>by show q∣F 0+a_ m fun i=>F (i+1);exact t9 (h 0 (by lia)) (LB fun i hi=>h (i+1) (by lia))
section
variable {q:Int} {M N N':aF} {D:Nat→Int}
theorem VC(hq:aT q){u:Int}(nu:¬q∣u)(h:q∣u*x):q∣x:=by
 have:=yS hq nu (show Cg q (u*x) 0 by unfold Cg;rwa [lJ])
 unfold Cg at this
 rwa [lJ] at this
theorem FC(hq:aT q):∀{C:List Nat},ck q M C→C.Nodup→∀y:Nat→Int,(∀r∈C,q∣(C.map fun c=>M r c*y c).sum)→∀c∈C,q∣y c
 | [],_,_,_,_,_,hc=>nomatch hc
 | p::C,g,nd,y,h,c,hc=>by
  rw [lG] at nd;have e:q∣((p::C).map fun c=>aW M C (M p) c*y c).sum:=by
   obtain ⟨z,hz⟩:=UR M C (M p);have e1:(fun c=>aW M C (M p) c*y c)=fun c=>bC M C*(M p c*y c)+a_ C.length fun i=>z i*(M (C.getD i 0) c*y c):=by
    funext c
    rw [hz c,Int.add_mul,kG,dD (a_ _ _),k6]
    congr 1
    exact g8 fun i _=>by grind
   rw [e1,Lf,yW,Lg];refine t9 (DW (h p (hJ ..))) (LB fun i hi=>?_);rw [yW];refine DW (h _ (e9 _ ?_));rw [i6,cY hi];exact fj hi
  rw [cX,dE,LA (fun c hc=>by rw [Bu hc,gv]),Int.add_zero] at e
  have yp:q∣y p:=VC hq g.2 e;have hC:∀r∈C,q∣(C.map fun c=>M r c*y c).sum:=fun r hr=>by
   have:=h r (e9 _ hr);rw [cX,dE] at this;have e2:=Int.dvd_sub this (DW (b:=M r p) yp)
   rwa [show ∀x y:Int,x+y-x=y from fun x y=>by lia] at e2
  rcases dy.mp hc with rfl | hc;·exact yp
  ·exact FC hq g.1 nd.2 y hC c hc
variable {C:List Nat}
theorem VD(hq:aT q){t:Nat}(g:ck q M C)(nd:(t::C).Nodup)(h:q∣aW M C (M t) t):∃y:Nat→Int,(∃c∈t::C,¬q∣y c)∧∀r∈t::C,q∣((t::C).map fun c=>M r c*y c).sum:=by
 rw [lG] at nd;have ex:∀r,((t::C).map fun c=>M r c*(if c=t then bC M C else -me M C t c)).sum=aW M C (M r) t:=fun r=>by
  rw [Le nd.2 nd.1,cX,dE,ar rfl];have:(C.map fun c=>M r c*(if c=t then bC M C else -me M C t c))=C.map fun c=>-1*(M r c*me M C t c):=iG fun c hc=>by rw [au (fun z:c=t=>nd.1 (z▸hc))];grind
  rw [this,yW];grind
 refine ⟨fun c=>if c=t then bC M C else -me M C t c,⟨t,hJ ..,?_⟩,fun r hr=>?_⟩
 ·show ¬q∣if t=t then bC M C else _
  rw [ar rfl];exact iW hq g
 ·rw [ex r]
  rcases dy.mp hr with rfl | hr;·exact h
  ·rw [yV hq g r hr t]
   exact ja q
def cF:Nat→List Nat
 | 0=>[]
 | k+1=>k::cF k
theorem jC{x:Nat}:∀{k:Nat},x∈cF k↔x<k
 | 0=>by simp [cF]
 | k+1=>by show x∈k::cF k↔_;rw [dy,jC];lia
theorem y8:∀k,(cF k).Nodup
 | 0=>List.nodup_nil
 | k+1=>lG.mpr ⟨fun h=>by have:=jC.mp h;lia,y8 k⟩
theorem FD:∀k,(cF k).length=k
 | 0=>rfl
 | k+1=>by show (cF k).length+1=_;rw [FD]
theorem FE:∀{C:List Nat},(∀r∈C,N' r=N r)→gh N' C=gh N C
 | [],_=>rfl
 | p::C,h=>by show aP (N' p) (gh N' C)=aP (N p) (gh N C);rw [h p (hJ ..),FE fun r hr=>h r (e9 _ hr)]
theorem VE(h:∀r∈C,N' r=N r):bC N' C=bC N C:=by unfold bC;rw [FE h]
theorem LC(h:∀r∈C,N' r=N r)(f:Nat→Int)(k:Nat):aW N' C f k=aW N C f k:=by unfold aW;rw [FE h]
theorem LD:∀{C:List Nat},(∀r∈C,N' r=N r)→ck q N C→ck q N' C
 | [],_,_=>trivial
 | p::C,h,g=>⟨LD (fun r hr=>h r (e9 _ hr)) g.1,by rw [LC (fun r hr=>h r (e9 _ hr)),h p (hJ ..)];exact g.2⟩
def cw{α:Type}(k a:Nat)(f:Nat→α):Nat→α:=fun i=>if i=k then f a else if i=a then f k else f i
variable {k:Nat}
theorem FF{α:Type}{f:Nat→α}(h1:i<k)(h2:k≤a):cw k a f i=f i:=by unfold cw;rw [au (by lia),au (by lia)]
theorem LF{α:Type}{f:Nat→α}:cw k a f k=f a:=by unfold cw;rw [ar rfl]
theorem FG{α:Type}{f:Nat→α}{P:α→Prop}(h:∀i,P (f i))(i:Nat):P (cw k a f i):=by
 unfold cw
 split
 ·exact h a
 ·split
  ·exact h k
  ·exact h i
variable {m:Nat}
theorem FH{α:Type}(hk:k<m)(ha:a<m){f:Nat→α}{P:α→Prop}:(∀i,i<m→P (cw k a f i))↔∀i,i<m→P (f i):=by
 constructor
 ·intro h i hi
  by_cases e:i=k
  ·subst e
   have:=h a ha;unfold cw at this;by_cases z:a=i;·rw [ar z] at this;exact z▸this
   ·rw [au z,ar rfl] at this;exact this
  ·by_cases e2:i=a
   ·subst e2
    have:=h k hk
    rwa [LF] at this
   ·have:=h i hi
    unfold cw at this
    rwa [au e,au e2] at this
 ·intro h i hi
  unfold cw
  split
  ·exact h a ha
  ·split
   ·exact h k hk
   ·exact h i hi
def VF(m:Nat)(N N0:aF):Prop:=∀P:(Nat→Int)→Prop,(∀i,i<m→P (N i))↔∀i,i<m→P (N0 i)
theorem VG(hk:k<m){F:Nat→Int}(z:∀c,k<c→F c=0):((List.range m).map F).sum=((k::cF k).map F).sum:=
 Fv (p:=k) Am (y8 (k+1)) (fun c hc=>e8.mpr (by have:=jC (k:=k+1).mp hc;lia)) fun c _ nc=>z c (by have:¬c<k+1:=fun zz=>nc (jC (k:=k+1).mpr zz);lia)
theorem VH(hq:aT q)(km:k<m)(g:ck q N (cF k))(z:∀i,k≤i→i<m→q∣aW N (cF k) (N i) k):∃y:Nat→Int,¬q∣y k∧∀i,i<m→q∣((List.range m).map fun j=>N i j*y j).sum:=by
 refine ⟨fun c=>if c=k then bC N (cF k) else if c<k then -me N (cF k) k c else 0,by show ¬q∣if k=k then bC N (cF k) else _;rw [ar rfl];exact iW hq g,fun i hi=>?_⟩
 have kC:k∉cF k:=fun h=>by have:=jC.mp h;lia
 rw [VG km fun c hc=>by dsimp only;rw [au (by lia),au (by lia),h_]]
 have ex:((k::cF k).map fun c=>N i c*(if c=k then bC N (cF k) else if c<k then -me N (cF k) k c else 0)).sum=aW N (cF k) (N i) k:=by
  rw [Le (y8 k) kC,cX,dE,ar rfl];have:((cF k).map fun c=>N i c*(if c=k then bC N (cF k) else if c<k then -me N (cF k) k c else 0))=(cF k).map fun c=>-1*(N i c*me N (cF k) k c):=iG fun c hc=>by
   have:=jC.mp hc;rw [au (by lia),ar this]
   grind
  rw [this,yW];grind
 rw [ex];by_cases h:i<k
 ·rw [yV hq g i (jC.mpr h) k]
  exact ja q
 ·exact z i (by lia) hi
theorem VI(hq:aT q)(g:ck q N (cF m))(y:Nat→Int)(h:∀i,i<m→q∣((List.range m).map fun j=>N i j*y j).sum):∀j,j<m→q∣y j:=fun j hj=>by
 have pm:(cF m).Perm (List.range m):=(List.perm_ext_iff_of_nodup (y8 m) Am).mpr fun x=>by rw [jC,e8]
 refine FC hq g (y8 m) y (fun r hr=>?_) j (jC.mpr hj);rw [By (pm.map _)];exact h r (jC.mp hr)
end
structure cM (H:Hp) (a:Addr) (n m:Nat) (ra:Nat→Addr) (vf:Nat→Nat→V):Prop where
 lst:H a=some (.lst ((List.range n).map fun i=>V.ref (ra i)))
 at':∀i,i<n→H (ra i)=some (.lst ((List.range m).map (vf i)))
variable {m:Nat} {vf:Nat→Nat→V}
theorem cM.mono{a:Addr}{ra:Nat→Addr}(h:cM H a n m ra vf)(s:af H H'):cM H' a n m ra vf:=⟨s _ _ h.lst,fun i hi=>s _ _ (h.at' i hi)⟩
def gI(X:Nat)(H:Hp)(q:Int)(k m:Nat)(vf:Nat→Nat→V)(T U:aF):Prop:=∀i j,k≤i→i<m→k≤j→j<m→aH X H q (vf i j) (T i j) (U i j)
variable {k:Nat} {U:aF}
theorem gI.mono{T:aF}(h:gI X H q k m vf T U)(s:af H H'):gI X H' q k m vf T U:=fun i j a b c d=>(h i j a b c d).mono s
variable {T' U':aF}
theorem gI.put{w:V}{T:aF}(h:gI X H q k m vf T U)(kk:∀v t u,aH X H q v t u→aH X H' q v t u)(hw:aH X H' q w (T' i j) (U' i j))(o:∀i' j',k≤i'→i'<m→k≤j'→j'<m→¬(i'=i∧j'=j)→T' i' j'=T i' j'∧U' i' j'=U i' j'):gI X H' q k m (ki vf i j w) T' U':=fun i' j' a b c d=>by
 unfold ki;by_cases e:i'=i∧j'=j
 ·rw [ar e,e.1,e.2]
  exact hw
 ·rw [au e,(o i' j' a b c d e).1,(o i' j' a b c d e).2]
  exact kk _ _ _ (h i' j' a b c d)
theorem gI.to{T:aF}(h:gI X H q k m vf T U)(o:∀i' j',k≤i'→i'<m→k≤j'→j'<m→T' i' j'=T i' j'∧U' i' j'=U i' j'):gI X H q k m vf T' U':=fun i j a b c d=>by rw [(o i j a b c d).1,(o i j a b c d).2];exact h i j a b c d
theorem WTab.swap{a:Addr}{rs:Nat→Addr}(h:WTab H a n rs vf)(hk:k<n)(hb:b<n):WTab (upd H a (.lst ((((List.range n).map fun i=>V.ref (rs i)).set k (.ref (rs b))).set b (.ref (rs k))))) a n (cw k b rs) (cw k b vf):=by
 have ne:∀i,i<n→cw k b rs i≠a:=fun i hi=>by have:=(FH hk hb (f:=rs) (P:=fun r=>r≠a)).mpr h.ne;exact this i hi
 refine ⟨?_,fun i j hi hj e=>?_,ne,fun i hi=>?_⟩
 ·rw [ay,map_set,map_set]
  congr 2
  refine iG fun i _=>?_;unfold cw;by_cases e:i=b
  ·subst e
   by_cases e2:i=k;·subst e2;simp
   ·simp [e2]
  ·by_cases e2:i=k
   ·subst e2;simp [e]
   ·simp [e,e2]
 ·unfold cw at e
  have I:=h.inj;by_cases i1:i=k
  ·by_cases j1:j=k
   ·lia
   ·rw [ar i1,au j1] at e
    by_cases j2:j=b
    ·rw [ar j2] at e
     have:=I _ _ hb hk e;lia
    ·rw [au j2] at e
     exact absurd (I _ _ hb hj e).symm j2
  ·rw [au i1] at e
   by_cases i2:i=b
   ·rw [ar i2] at e
    by_cases j1:j=k
    ·rw [ar j1] at e
     have:=I _ _ hk hb e;lia
    ·rw [au j1] at e
     by_cases j2:j=b;·lia
     ·rw [au j2] at e
      exact absurd (I _ _ hk hj e).symm j1
   ·rw [au i2] at e
    by_cases j1:j=k
    ·rw [ar j1] at e
     exact absurd (I _ _ hi hb e) i2
    ·rw [au j1] at e
     by_cases j2:j=b
     ·rw [ar j2] at e
      exact absurd (I _ _ hi hk e) i1
     ·rw [au j2] at e
      exact I _ _ hi hj e
 ·rw [aJ (ne i hi)]
  unfold cw
  split
  ·exact h.at' b hb
  ·split
   ·exact h.at' k hk
   ·exact h.at' i hi
def y_(q:Int)(M:aF)(ps:List Nat):Prop:=∃y:Nat→Int,(∃c∈ps,¬q∣y c)∧∀r∈ps,q∣(ps.map fun c=>M r c*y c).sum
def VJ:Sp:=fun vs H Q _=>∃(td a p:Addr) (q:Int) (n B:Nat) (ra:Nat→Addr) (vf:Nat→Nat→V) (M:aF) (D:Nat→Int) (ps:List Nat),vs=[.ref td,.ref a,.ref p]∧dw H td q∧aT q∧cM H a n n ra vf∧(∀i j,i<n→j<n→aH B H q (vf i j) (M i j) (D i))∧H p=some (.lst (cm ps))∧(∀x∈ps,x<n)∧ps.Nodup∧n≤40∧1≤B∧(∀i k,(M i k).natAbs≤B)∧(∀i,(D i).natAbs≤B)∧(∀i,¬q∣D i)∧bV n B≤10 ^ 100 ∧
 ∀(b:Bool) (H':Hp),af H H'→(b=true↔y_ q M ps)→Q (.bl b) H'
def VL:Sp:=fun vs H Q _=>∃(td a p:Addr) (q:Int) (n B:Nat) (ra:Nat→Addr) (vf:Nat→Nat→V) (M:aF) (D:Nat→Int) (o:List Nat),vs=[.ref td,.ref a,.ref p]∧dw H td q∧aT q∧cM H a n n ra vf∧(∀i j,i<n→j<n→aH B H q (vf i j) (M i j) (D i))∧H p=some (.lst (cm o))∧o.Perm (List.range n)∧n≤40∧1≤B∧(∀i k,(M i k).natAbs≤B)∧(∀i,(D i).natAbs≤B)∧(∀i,¬q∣D i)∧bV n B≤10 ^ 100 ∧
 (∀(k:Nat) (hk:k<o.length),ck q M (cO o k)→q∣aW M (cO o k) (M o[k]) o[k]→∀H',af H H'→Q (.int ((k:Int)+1)) H')∧(ck q M (cO o n)→∀H',af H H'→Q (.int 0) H')
section
variable {q:Int} {M:aF} {o:List Nat} {n k:Nat}
theorem VM(ho:o.Perm (List.range n))(k:Nat):(cO o k).Nodup:=by unfold cO;exact (List.reverse_perm _).nodup_iff.mpr ((xU k o).nodup (k7 ho))
theorem LG{ps LH:List Nat}(p:ps.Perm LH):y_ q M ps→y_ q M LH:=fun⟨y,⟨c,hc,nc⟩,h⟩=>⟨y,⟨c,p.mem_iff.mp hc,nc⟩,fun r hr=>by rw [←By (p.map _)];exact h r (p.mem_iff.mpr hr)⟩
theorem VN(hq:aT q)(ho:o.Perm (List.range n))(hk:k<o.length)(g:ck q M (cO o k)):y_ q M (o.take (k+1))↔q∣aW M (cO o k) (M o[k]) o[k]:=by
 have e:=ph hk;have nd:=VM ho (k+1);have pm:(o.take (k+1)).Perm (cO o (k+1)):=(List.reverse_perm _).symm;constructor
 ·intro h
  refine p4 fun z=>?_;obtain ⟨y,⟨c,hc,nc⟩,hr⟩:=LG pm h;have g':ck q M (cO o (k+1)):=by rw [e];exact ⟨g,z⟩
  exact nc (FC hq g' nd y hr c hc)
 ·intro h
  refine LG pm.symm ?_;rw [e] at nd ⊢;exact VD hq g nd h
end
structure BA (q:Int) (X Y n m:Nat) (T U:aF) (t u:Nat→Int) (S:aF) (R:Nat→Int):Prop where
 s0:∀i,i<n→S i 0=0
 FI:∀i k,i<n→k<m→Cg q ((S i k*(U i k*u k)+T i k*t k*R i)*R i) (S i (k+1)*(R i*(U i k*u k)))
 nz:∀i,i<n→¬q∣R i
 bd:∀i k,i<n→k≤m→(S i k).natAbs≤X∧(R i).natAbs≤X
 pr:∀i k,i<n→k<m→(T i k*t k).natAbs≤Y∧(U i k*u k).natAbs≤Y
 cx:X≤10 ^ 140
 FJ:Y≤10 ^ 140
 X1:1000≤X
def VO:Sp:=fun vs H Q _=>∃(td a r:Addr) (q:Int) (X Y n m:Nat) (ra:Nat→Addr) (vf:Nat→Nat→V) (lv:Nat→V) (T U:aF) (t u:Nat→Int) (S:aF) (R:Nat→Int),vs=[.ref td,.ref a,.ref r]∧dw H td q∧aT q∧cM H a n m ra vf∧gH H r m lv∧n≤60∧m≤60∧(∀i j,i<n→j<m→aH X H q (vf i j) (T i j) (U i j))∧(∀j,j<m→aH X H q (lv j) (t j) (u j))∧BA q X Y n m T U t u S R ∧
 ∀(D:Addr) (wv:Nat→V) (H':Hp),af H H'→H D=none→gH H' D n wv→(∀i,i<n→aH X H' q (wv i) (S i m) (R i))→Q (.ref D) H'
def k_(H:Hp)(q:Int)(n:Nat)(vf:Nat→Nat→V):Prop:=∀i j,i<n→j<n→∃x m,aV 1000 H q (vf i j) x m∧mj q x m
theorem aV.y7{m:Int}(h:aV B H q v x m)(t:b_ H T)(o:bJ T H H'):aV B H' q v x m:=by
 obtain ⟨z,ez⟩:=t;cases h with
 | a7 ep l bx bm=>exact .a7 (o _ _ (fun zz=>by rw [zz,ez] at ep;cases ep) ep) l bx bm
 | rem a b c=>exact .rem a b c
theorem VP(hq:aT q)(h:aH Y H q v 1 1):∃x m,aV 1000 H q v x m∧mj q x m:=by
 by_cases q0:q=0
 ·obtain ⟨x,m,g1,g2,g3⟩:=Ly h (by decide) (by decide) q0
  exact ⟨x,m,g1,fun _=>⟨aQ g2 (by decide),kD g3 (by decide)⟩⟩
 ·obtain ⟨x,m,g1,_⟩:=h.bd (Y:=1000) (by decide) (by decide)
  exact ⟨x,m,g1,fun z=>absurd z q0⟩
def VQ:Sp:=fun vs H Q _=>∃(td T lk:Addr) (q:Int) (n:Nat) (us:List V) (L:cE),vs=[.ref td,.ref T,.int (n:Int),.ref lk]∧dw H td q∧aT q∧b_ H T∧n≤60∧lk≠T∧H lk=some (.lst us)∧cR H us L∧(∀z∈L,0≤z.1∧z.1<z.2∧z.2<(n:Int)) ∧
 ∀(D:Addr) (rs:Nat→Addr) (vf:Nat→Nat→V) (H':Hp),bJ T H H'→b_ H' T→H D=none→(∀i,i<n→H (rs i)=none)→WTab H' D n rs vf→k_ H' q n vf→Q (.ref D) H'
def nT(N:aF)(k i j:Nat):Int:=aW N (cF k) (N i) j
def nU(N:aF)(E:Nat→Int)(k i:Nat)(_:Nat):Int:=E i*bC N (cF k)
structure iB (q:Int) (B m k:Nat) (N:aF) (E:Nat→Int) (N0:aF):Prop where
 good:ck q N (cF k)
 rows:VF m N N0
 bN:∀i j,(N i j).natAbs≤B
 bE:∀i,(E i).natAbs≤B
 nE:∀i,¬q∣E i
section
variable {q:Int} {B X n m k b:Nat} {N N0:aF} {E:Nat→Int} {H H':Hp} {vf:Nat→Nat→V}
theorem iB.swap(h:iB q B m k N E N0)(kb:k≤b)(hb:b<m):iB q B m k (cw k b N) (cw k b E) N0:=
 ⟨LD (fun r hr=>FF (jC.mp hr) kb) h.good,fun P=>(FH (show k<m by lia) hb).trans (h.rows P),fun i j=>(FG (P:=fun r:Nat→Int=>∀j,(r j).natAbs≤B) h.bN i) j,fun i=>FG (P:=fun r:Int=>r.natAbs≤B) h.bE i,fun i=>FG (P:=fun r:Int=>¬q∣r) h.nE i⟩
theorem LI(kb:k≤b)(i j:Nat):nT (cw k b N) k i j=cw k b (fun i=>nT N k i j) i:=by
 unfold nT;rw [LC (N:=N) (fun r hr=>FF (jC.mp hr) kb)];unfold cw
 split
 ·rfl
 ·split <;> rfl
theorem VR(kb:k≤b)(i j:Nat):nU (cw k b N) (cw k b E) k i j=cw k b (fun i=>nU N E k i j) i:=by
 unfold nU;rw [VE (N:=N) (fun r hr=>FF (jC.mp hr) kb)];unfold cw
 split
 ·rfl
 ·split <;> rfl
theorem gI.swap(h:gI X H q k m vf (nT N k) (nU N E k))(kb:k≤b)(hb:b<m)(kk:∀v t u,aH X H q v t u→aH X H' q v t u):gI X H' q k m (cw k b vf) (nT (cw k b N) k) (nU (cw k b N) (cw k b E) k):=fun i j a c d e=>by
 rw [LI kb,VR kb];unfold cw
 split
 ·exact kk _ _ _ (h b j kb hb d e)
 ·split
  ·exact kk _ _ _ (h k j (aN _) (by lia) d e)
  ·exact kk _ _ _ (h i j a c d e)
theorem iB.next(h:iB q B m k N E N0)(p:¬q∣nT N k k k):iB q B m (k+1) N E N0:=⟨⟨h.good,p⟩,h.rows,h.bN,h.bE,h.nE⟩
theorem uX(h:iB q B m k N E N0)(b1:1≤B)(kn:k≤n)(i j:Nat):(nT N k i j).natAbs≤cS n B:=aQ (Lh h.bN (h.bN i)) (by rw [FD];exact y4 b1 (by lia))
theorem LJ(h:iB q B m k N E N0)(b1:1≤B)(kn:k≤n):(bC N (cF k)).natAbs≤cS n B:=aQ (Li h.bN) (by rw [FD];exact y4 b1 (by lia))
theorem VS(h:iB q B m k N E N0)(b1:1≤B)(kn:k≤n)(i j:Nat):(nT N k i j).natAbs≤bV n B:=aQ (uX h b1 kn i j) (y6 b1)
theorem VT(h:iB q B m k N E N0)(b1:1≤B)(kn:k≤n)(i j:Nat):(nU N E k i j).natAbs≤bV n B:=(nV b1 (LJ h b1 kn) (h.bE i)).2
theorem FK(hq:aT q)(h:iB q B m k N E N0)(i j:Nat):¬q∣nU N E k i j:=eX hq (h.nE i) (iW hq h.good)
theorem VU(hq:aT q)(h:iB q B m k N E N0)(i j:Nat):Cg q ((nT N k i j*(E i*nT N k k k*bC N (cF k))-nT N k i k*nT N k k j*nU N E k i j)*nU N E (k+1) i j) (nT N (k+1) i j*(nU N E k i j*(E i*nT N k k k*bC N (cF k)))):=by
 have st:=yU hq h.good k (N i) j;unfold nU;have e:bC N (cF (k+1))=nT N k k k:=rfl;have e2:aW N (k::cF k) (N i) j=nT N (k+1) i j:=rfl;rw [e];rw [e2] at st;have st:nT N k k k*nT N k i j-nT N k i k*nT N k k j=bC N (cF k)*nT N (k+1) i j:=st;generalize nT N k i j=x at st ⊢;generalize nT N k i k=y at st ⊢;generalize nT N k k j=w at st ⊢;generalize nT N k k k=p at st ⊢;generalize nT N (k+1) i j=x' at st ⊢;generalize bC N (cF k)=d at st ⊢;refine Cg.of_eq ?_;have e:(x*(E i*p*d)-y*w*(E i*d))*(E i*p)=E i*d*(p*x-y*w)*(E i*p):=by grind
 rw [e,st];grind
end
theorem LK{M:aF}{ps:List Nat}(hm:m=ps.length)(nd:ps.Nodup):y_ q M ps↔∃y:Nat→Int,(∃j,j<m∧¬q∣y j)∧∀i,i<m→q∣((List.range m).map fun j=>M (ps.getD i 0) (ps.getD j 0)*y j).sum:=by
 have ee:∀F:Nat→Int,(ps.map F).sum=((List.range m).map fun j=>F (ps.getD j 0)).sum:=fun F=>by
  congr 1
  refine fK (by simp [hm]) fun j h1 h2=>?_
  have hj:j<ps.length:=by simpa using h1
  rw [fh,fh,gw,getD_at hj]
 constructor
 ·rintro ⟨y,⟨c,hc,nc⟩,h⟩
  obtain ⟨j,hj,e⟩:=yg hc;refine ⟨fun j=>y (ps.getD j 0),⟨j,by lia,by dsimp only;rw [getD_at hj,e];exact nc⟩,fun i hi=>?_⟩
  have c_:i<ps.length:=by lia
  have:=h (ps.getD i 0) (by rw [getD_at c_];exact fj _)
  rwa [ee] at this
 ·rintro ⟨y,⟨j,hj,nj⟩,h⟩
  have dr:j<ps.length:=by lia
  have BB:∀j,j<m→ps.idxOf (ps.getD j 0)=j:=fun j hj=>by
   have dr:j<ps.length:=by lia
   rw [getD_at dr];exact nR nd dr
  refine ⟨fun c=>y (ps.idxOf c),⟨ps.getD j 0,by rw [getD_at dr];exact fj _,by dsimp only;rw [BB j hj];exact nj⟩,fun r hr=>?_⟩
  obtain ⟨i,hi,e⟩:=yg hr;have:=h i (by lia)
  rw [getD_at hi,e] at this;rw [ee]
  rwa [show ((List.range m).map fun j=>M r (ps.getD j 0)*y (ps.idxOf (ps.getD j 0)))=(List.range m).map fun j=>M r (ps.getD j 0)*y j from iG fun j hj=>by rw [BB j (e8.mp hj)]]
def VV:Sp:=fun vs H Q _=>∃(lt a:Addr) (n:Nat) (us:List V) (L:cE) (o:List Nat),vs=[.int (n:Int),.ref lt,.ref a]∧H lt=some (.lst us)∧cR H us L∧yT n L∧n≤12∧L.length≤400∧L.Nodup∧(∀z∈L,z.1<z.2)∧H a=some (.lst (nI o))∧o.Perm (List.range n) ∧
 ∀(H':Hp) (D:Addr) (rs:Nat→Addr) (g:Nat→List Nat),af H H'→Fb H' D n rs g→(∀p,p<n→o_ n o p (g p)∧kh n L o p (g p))→Q (.ref D) H'
end My
namespace L2
open PySem PySem.Spec PyProof.Rows
section
variable {X:Cx} {tg:Expr}
def uY(c lo:Int)(n:Nat):It:=⟨fun i _=>i<n,fun i H x H'=>H'=H∧x=.int (lo+i*c),fun i _=>n≤i⟩
theorem VW{P:Program}{w:World}{K:aC}(it:Addr)(c lo:Int)(n:Nat):Turn P w K tg (uY c lo n) [it] it (fun i h=>IsRangeIter h it (lo+(i:Nat)*c) ((n:Int)-(i:Nat)) c) where
 mem:=by simp
 obj:=fun i h st b hb=>by
  have e:b=it:=by simpa using hb
  subst e;exact ⟨_,st,fun v z=>by have z':Data.fields _=Data.cell v:=z;cases z'⟩
 keep:=fun i h h' st k=>k it (by simp) _ st
 item:=by
  intro X hP hw hK hc i pins s σ H E I hf st hg;subst hP hw hK;obtain ⟨f0,f1,f2,f3,f4,f5⟩:=hf it (by simp)
  have W:=Walks.range (prog:=X.prog) (w:=X.w) (I.ok.hd hc) it lo c n;refine W.item i s _ _ hg st fun v h' tk hv il kk=>?_;obtain ⟨t,rfl⟩:=hv;have I1:Inv X pins σ H {s with heap:=h',toks:=tk}:=I.turned (fun b o hb e=>kk b o (by simpa using hb) e) f0 f1 f3 f4 f5
  refine ⟨_,rfl,ym (s:={s with heap:=h',toks:=tk}) (n:="range_iterator") il rfl rfl (by decide) ⟨.int (lo+i*c),H,I1,⟨t,rfl⟩,⟨rfl,rfl⟩,il,fun b hb=>(hf b hb).1⟩⟩
 done:=by
  intro X hP hw hK hc i pins s σ H E I hf st hg;subst hP hw hK;obtain ⟨f0,f1,f2,f3,f4,f5⟩:=hf it (by simp)
  exact wpAny_pyNext_range_end (I.ok.hd hc) st (by have:n≤i:=hg;lia) fun h' eb=>⟨rfl,I.turned (t':=s.toks) (fun b o hb e=>eb b o hb e) f0 f1 f3 f4 f5⟩
 self:=fun _ _ _ _ _ st h=>wpAny_pyIter_rangeiter st h
variable {σ:St} {H:Hp} {c lo:Int}
theorem VX{pins:aU}{s:Shared}{R:It→Hp→Prop}{E:aR}{hi:Int}(c0:0<c){t u v:Tok}{tk:Nat}(I:Inv X pins σ H s)(VY:Builtin.Range.small lo hi c=true)
  (q:R (uY c lo (Builtin.Range.rangeSize lo hi c).toNat) H):wpAny (model X.prog X.w) X.A (pyIter (.ref s.heap.objs.size)) (AB X pins σ tg R) E {s with heap:=s.heap.push {cls:=.type "range",data:=.fields #[.int lo t,.int hi u,.int c v]},toks:=tk}:=by
 refine wpAny_pyIter_range (IsRange.new ..) VY ?_;have I1:Inv X pins σ H {s with heap:=s.heap.push {cls:=.type "range",data:=.fields #[.int lo t,.int hi u,.int c v]},toks:=tk}:=I.kept fun b o e=>cz _ e
 refine ⟨(s.heap.push {cls:=.type "range",data:=.fields #[.int lo t,.int hi u,.int c v]}).objs.size,[(s.heap.push {cls:=.type "range",data:=.fields #[.int lo t,.int hi u,.int c v]}).objs.size],_,_,H,rfl,
  I1.kept (t':=tk) fun b o e=>cz _ e,VW _ c lo (Builtin.Range.rangeSize lo hi c).toNat,?_,fun b hb=>?_,q⟩
 ·have e1:lo+((0:Nat):Int)*c=lo:=by simp
  have e2:(((Builtin.Range.rangeSize lo hi c).toNat:Nat):Int)-((0:Nat):Int)=Builtin.Range.rangeSize lo hi c:=by
   have:0≤Builtin.Range.rangeSize lo hi c:=by
    unfold Builtin.Range.rangeSize;rw [ar c0]
    split
    ·have:=Ao (show 0≤hi-lo-1 by lia) (Int.le_of_lt c0)
     lia
    ·lia
   lia
  show IsRangeIter _ _ (lo+((0:Nat):Int)*c) ((((Builtin.Range.rangeSize lo hi c).toNat:Nat):Int)-((0:Nat):Int)) c;rw [e1,e2];exact fH _ rfl
 ·have e:b=(s.heap.push {cls:=.type "range",data:=.fields #[.int lo t,.int hi u,.int c v]}).objs.size:=by simpa using hb
  subst e;exact I1.ug (aN _) (I1.az.fresh (aN _))
theorem VZ{a b:Int}(c0:0<c)(c1:c≤1000)(h1:-(2 ^ 61)≤a)(h2:a<2 ^ 61)(h3:-(2 ^ 61)≤b)(h4:b<2 ^ 61):Builtin.Range.small a b c=true:=by
 have f:∀{x:Int},-(2 ^ 63)≤x→x<2 ^ 63→Builtin.Range.rangeFitsLong x=true:=fun{x} h1 h2=>by unfold Builtin.Range.rangeFitsLong;simp;lia
 have e:0≤Builtin.Range.rangeSize a b c∧Builtin.Range.rangeSize a b c<2 ^ 63:=by
  unfold Builtin.Range.rangeSize;rw [ar c0]
  split
  ·have g1:=Ao (show 0≤b-a-1 by lia) (Int.le_of_lt c0)
   have g2:=Int.ediv_le_self c (show 0≤b-a-1 by lia)
   lia
  ·lia
 unfold Builtin.Range.small;rw [f (x:=a) (by lia) (by lia),f (x:=b) (by lia) (by lia),f (x:=c) (by lia) (by lia),f (x:=Builtin.Range.rangeSize a b c) (by lia) (by lia),ar c0,f (x:=b+(c-1)) (by lia) (by lia)]
 simp
def V0(ta:TA):TI:=fun σ H R=>ta σ H fun vs H1=>∃i j c:Int,vs=[.int i,.int j,.int c]∧(0<c∧c≤1000∧-(2 ^ 61)≤i∧i<2 ^ 61∧-(2 ^ 61)≤j∧j<2 ^ 61)∧R (uY c i (Builtin.Range.rangeSize i j c).toNat) H1
theorem V1{a b c:Expr}{ta:TA}{p pos:Pos}(hg:Gl X "range")(hm:X.mg "range"=none)(ha:PA X [a,b,c] ta)(hs:starEach [a,b,c] X.env=[(false,eval a X.env),(false,eval b X.env),(false,eval c X.env)]:=by rfl)(lS:starEach [b,c] X.env=[(false,eval b X.env),(false,eval c X.env)]:=by rfl) :
  PI X tg (.Call (.Name "range" p) [a,b,c] [] pos) (V0 ta):=by
 intro pins s σ H R I h;refine Call_ (qg I hg hm boot_range (xT (aO (ha pos pins s σ H _ I h) fun us s1 ⟨vs,H1,I1,r1,q1⟩=>?_) (by rw [hs,lS]) (by rw [lS];rfl)))
 obtain ⟨i,j,c,e,⟨c0,c1,q1,q2,q3,q4⟩,q⟩:=q1;subst e;cases r1 with
 | cons r rr=>
  cases rr with
  | cons r' rr=>
   cases rr with
   | cons r3 rr=>
    cases rr;obtain ⟨t,rfl⟩:=r;obtain ⟨t',rfl⟩:=r';obtain ⟨t3,rfl⟩:=r3;refine call_range_3 (by lia) (VX c0 I1 (VZ c0 c1 q1 q2 q3 q4) q) (.inl ?_)
    have z:decide ((if (c == 0)=true then 0 else c.natAbs.log2 / 30+1)>300)=false:=by
     refine dc ?_
     split
     ·lia
     ·have:=Nat.log2_le_self c.natAbs
      have h:c.natAbs.log2≤1000:=by lia
      lia
    unfold Builtin.divisionGoesByPylong;dsimp only;rw [z];rfl
theorem V2{n:Nat}{g:TG}{tb:TS}{D:Ends}(Pv:Nat→St→Hp→Prop)(h0:Pv 0 σ H)
  (hs:∀i σ H,i<n→Pv i σ H→g (.int (lo+i*c)) σ H fun σ2 H2=>tb {D with nx:=Pv (i+1),ct:=Pv (i+1),bk:=D.nx} σ2 H2) (hd:∀σ H,Pv n σ H→D.nx σ H) :
  ∃W:Nat→Nat→St→Hp→Prop,(∃m,W 0 m σ H)∧∀i m σ H,W i m σ H→
   ((uY c lo n).stop i H∧D.nx σ H)∨((uY c lo n).go i H∧∃N:St→Hp→Prop,(∀σ' H',N σ' H'→∃m',m'<m∧W (i+1) m' σ' H')∧∀x H',(uY c lo n).eO i H x H'→g x σ H' fun σ2 H2=>tb {D with nx:=N,ct:=N,bk:=D.nx} σ2 H2):=by
 refine ⟨fun i m σ H=>m=n-i∧i≤n∧Pv i σ H,⟨n,by simp,cn _,h0⟩,?_⟩
 rintro i m σ H ⟨rfl,hi,p⟩;by_cases cq:i<n
 ·refine .inr ⟨cq,Pv (i+1),fun σ' H' p'=>⟨n-(i+1),by lia,rfl,cq,p'⟩,fun x H' y=>?_⟩
  obtain ⟨e,y⟩:=y;subst e y;exact hs i σ _ cq p
 ·have e:i=n:=by lia
  subst e;exact .inl ⟨aN _,hd σ H p⟩
end
end L2
namespace My
open PySem L2
def pz(q x m:Int):Prop:=(q=0→x.natAbs≤3∧m∣6∧0<m)∧(q≠0→0≤x∧x<q∧q≤997∧m=1)
variable {H:Hp} {q x m:Int} {v:V} {B:Nat}
theorem LL(h:aV B H q v x m)(s:mj q x m):pz q x m:=by
 cases h with
 | a7 e l bx bm=>exact ⟨fun z=>⟨(s z).1,(s z).2,l.pos⟩,fun z=>absurd rfl z⟩
 | rem a b c=>exact ⟨fun z=>by lia,fun _=>⟨a,b,c,rfl⟩⟩
def cW(q:Int)(n:Nat)(f:Nat→Nat→Int×Int):Nat→Nat→Int:=fun i j=>if i<n∧j≤n then (if q=0 then (f i j).1*(6 / (f i j).2) else (f i j).1) else 0
def dJ(q:Int):Nat→Int:=fun _=>if q=0 then 6 else 1
section
variable {q:Int} {n:Nat} {f:Nat→Nat→Int×Int} {H:Hp}
theorem uZ(h:∀i j,i<n→j≤n→pz q (f i j).1 (f i j).2)(i j:Nat):(cW q n f i j).natAbs≤997:=by
 unfold cW
 split
 ·rename_i qi
  have hs:=h i j qi.1 qi.2
  split
  ·rename_i z
   obtain ⟨h1,⟨c,hc⟩,h3⟩:=hs.1 z;have e:6 / (f i j).2=c:=by rw [hc];exact gW _ (by lia)
   have c6:c.natAbs≤6:=by
    have:(6:Int).natAbs=(f i j).2.natAbs*c.natAbs:=by rw [←dC,←hc]
    have m1:1≤(f i j).2.natAbs:=by lia
    have:=jT c.natAbs m1;have e6:(6:Int).natAbs=6:=rfl;lia
   rw [e,dC];exact aQ (fJ h1 c6) (by decide)
  ·rename_i z
   have:=hs.2 z;lia
 ·decide
theorem qP(i:Nat):(dJ q i).natAbs≤997:=by unfold dJ;split <;> decide
theorem BC(hq:aT q)(i:Nat):¬q∣dJ q i:=by
 unfold dJ
 split
 ·rename_i z
  rw [z];intro d;have:=eS.mp d;lia
 ·exact uP hq
variable {i j:Nat}
theorem LM(h:∀i j,i<n→j≤n→pz q (f i j).1 (f i j).2)(hi:i<n)(hj:j≤n):q∣(f i j).1*dJ q i-cW q n f i j*(f i j).2:=by
 have hs:=h i j hi hj;have e1:cW q n f i j=if q=0 then (f i j).1*(6 / (f i j).2) else (f i j).1:=by unfold cW;rw [ar ⟨hi,hj⟩]
 rw [e1];unfold dJ
 split
 ·rename_i z
  obtain ⟨h1,⟨c,hc⟩,h3⟩:=hs.1 z;have e:6 / (f i j).2=c:=by rw [hc];exact gW _ (by lia)
  rw [e];exact ⟨0,by rw [hc];grind⟩
 ·rename_i z
  rw [(hs.2 z).2.2.2];exact ⟨0,by grind⟩
theorem V3(z:(f i j).1=0):cW q n f i j=0:=by
 unfold cW
 split
 ·split
  ·rw [z,gv]
  ·exact z
 ·rfl
theorem FL:∀n,n≤9→1000≤bV n 997∧bV n 997≤10 ^ 100:=fun n hn=>(show ∀n∈List.range 10,1000≤bV n 997∧bV n 997≤10 ^ 100 by decide +kernel) n (e8.mpr (by lia))
def gR(n m:Nat)(f:Nat→Nat→Int×Int):List (List (Int×Int)):=(List.range n).map fun i=>(List.range m).map (f i)
theorem LN{m:Nat}(hi:i<n)(hj:j<m):atT (gR n m f) i j=f i j:=by
 unfold atT gR;have h1:i<((List.range n).map fun i=>(List.range m).map (f i)).length:=by simpa using hi
 have h2:j<((List.range m).map (f i)).length:=by simpa using hj
 rw [getD_at h1,fh,gw,getD_at h2,fh,gw]
theorem FN{m:Nat}:(gR n m f).length=n:=by unfold gR;simp
theorem FO{m:Nat}:∀ps∈gR n m f,ps.length=m:=fun ps h=>by unfold gR at h;obtain ⟨i,_,rfl⟩:=i_.mp h;simp
variable {a:Addr}
theorem LO{m:Nat}{lv:Nat→V}{f:Nat→Int×Int}(h:gH H a m lv)(k:∀j,j<m→aV B H q (lv j) (f j).1 (f j).2):qH B H q a ((List.range m).map f):=by
 refine ⟨_,h,by simp,fun i v p h1 h2=>?_⟩
 have hi:i<m:=by have:=(bZ.mp h1).1;simpa using this
 rw [cC,i7 hi] at h1 h2;cases h1;cases h2;exact k i hi
variable {vf:Nat→Nat→V}
theorem FP{m:Nat}{ra:Nat→Addr}(h:cM H a n m ra vf)(k:∀i j,i<n→j<m→aV B H q (vf i j) (f i j).1 (f i j).2):jv B H q a (gR n m f):=by
 refine ⟨_,h.lst,by unfold gR;simp,fun i v ps h1 h2=>?_⟩
 have hi:i<n:=by have:=(bZ.mp h1).1;simpa using this
 unfold gR at h2;rw [cC,i7 hi] at h1 h2;cases h1;cases h2;exact ⟨ra i,rfl,LO (h.at' i hi) fun j hj=>k i j hi hj⟩
theorem WTab.r{rs:Nat→Addr}(h:WTab H a n rs vf):cM H a n n rs vf:=⟨h.lst,h.at'⟩
end
variable {ah:dF} {n:Nat}
theorem V4:aL n (gi ah n)=aL n (fB n (cy ah) n):=by
 have mm:∀{z:Int×Int},z∈gi ah n↔z∈fB n (cy ah) n:=fun{z}=>by
  rw [FA];constructor
  ·rintro ⟨i,j,rfl,h1,h2,h3⟩
   exact Bo h1 h2 h3 (by lia)
  ·intro h
   obtain ⟨i,j,_,h2,h3,h4,rfl⟩:=mem_of h;exact ⟨i,j,rfl,h2,h3,h4⟩
 funext a b
 unfold aL;rw [mm,mm]
section
variable {q:Int} {M:aF} {o:List Nat} {n k k':Nat}
theorem FQ(ho:o.length=n)(hk:k<o.length)(d:q∣aW M (cO o k) (M o[k]) o[k])(g:ck q M (cO o n)):False:=by
 have:=mh g (show k+1≤n by lia)
 rw [ph hk] at this;exact this.2 d
end
variable {X Y:Nat} {v':V}
theorem FR(hq:aT q){T U T' U':Int}(h:aH X H q v T U)(h':aH Y H q v' T' U')(e:Cg q (T*U') (T'*U)):∃x m,aV X H q v x m∧aV Y H q v' x m:=by
 have h2:=h.eq hq e h'.choose_spec.choose_spec.2.2;obtain ⟨x,m,a1,a2,a3⟩:=h2;obtain ⟨x',m',b1,b2,b3⟩:=h';have c:Cg q (x*m') (x'*m):=by
  have c1:Cg q (U'*(x*m')) (U'*(x'*m)):=by have d1:Cg q (m'*(x*U')) (m'*(T'*m)):=Cg.mulL m' a2;have d2:Cg q (m*(x'*U')) (m*(T'*m')):=Cg.mulL m b2;exact (Cg.of_eq (by grind)).trans (d1.trans ((Cg.of_eq (by grind)).trans (d2.symm.trans (Cg.of_eq (by grind)))))
  have c2:Cg q (U'*(x*m'-x'*m)) 0:=(Cg.of_eq (by grind)).trans ((c1.sub (Cg.refl _)).trans (Cg.of_eq (p6 _)))
  have:=yS hq a3 c2;unfold Cg at this ⊢
  rwa [lJ] at this
 cases a1 with
 | a7 ea la _ _=>
  cases b1 with
  | a7 eb lb bx bm=>
   have e:x*m'=x'*m:=by unfold Cg at c;have:=eS.mp c;lia
   obtain ⟨e1,e2⟩:x=x'∧m=m':=by have u1:=Kp la lb.pos e;have u2:=Kp lb lb.pos rfl;exact ⟨u1.1.trans u2.1.symm,u1.2.trans u2.2.symm⟩
   subst e1 e2;exact ⟨x,m,.a7 ea la (by assumption) (by assumption),.a7 eb lb bx bm⟩
  | rem=>lia
 | rem a b d=>
  cases b1 with
  | a7=>lia
  | rem a' b' d'=>
   have:x=x':=by
    rw [gu,gu] at c;obtain ⟨k,hk⟩:=c;have:k=0:=by
     rcases Int.lt_trichotomy k 0 with z | z | z
     ·have:q*k≤q*(-1):=t8 (by lia) (by lia)
      lia
     ·exact z
     ·have:q*1≤q*k:=t8 (by lia) (by lia)
      lia
    rw [this,h_] at hk;lia
   subst this;exact ⟨x,1,.rem a b d,.rem a' b' d'⟩
variable {K:aC}
theorem FT(h:aV X H q v x m)(h':aV Y H q v' x m):iS K H 1 v v':=by
 cases h with
 | a7 e l _ _=>
  cases h' with
  | a7 e' l' _ _=>exact .inr ⟨_,_,_,_,rfl,rfl,.inr ⟨.of e,.of e'⟩,rfl,fun j x y hx hy=>by
    rw [hx] at hy;cases hy
    match j,hx with
    | 0,hx=>cases hx;exact ⟨rfl,rfl⟩
    | 1,hx=>cases hx;exact ⟨rfl,rfl⟩
    | j+2,hx=>simp at hx⟩
  | rem a b d=>lia
 | rem a b d=>
  cases h' with
  | a7=>lia
  | rem=>exact .inl ⟨rfl,rfl⟩
structure jD (H:Hp) (q:Int) (tab od am:Addr) (n:Nat) (o:List Nat) (rs:Nat→Addr) (vf:Nat→Nat→V) (av:Nat→V) (f:Nat→Nat→Int×Int):Prop where
 tab:WTab H tab n rs vf
 ord:H od=some (.lst (cm o))
 lh:o.Perm (List.range n)
 V5:gH H am n av
 num:∀i j,i<n→j<n→aV 1000 H q (vf i j) (f i j).1 (f i j).2
 V6:∀i,i<n→aV 1000 H q (av i) (f i n).1 (f i n).2
 sm:∀i j,i<n→j≤n→pz q (f i j).1 (f i j).2
variable {vf:Nat→Nat→V} {av:Nat→V}
theorem jD.mono{H':Hp}{tab od am:Addr}{o:List Nat}{rs:Nat→Addr}{f:Nat→Nat→Int×Int}(h:jD H q tab od am n o rs vf av f)(s:af H H'):jD H' q tab od am n o rs vf av f:=
 ⟨h.tab.mono s,s _ _ h.ord,h.lh,s _ _ h.V5,fun i j hi hj=>(h.num i j hi hj).mono s,fun i hi=>(h.V6 i hi).mono s,h.sm⟩
def V7(K:aC):Sp:=fun vs H Q _=>∃(sc:Addr) (ns:List Int) (k:Nat),vs=[.ref sc,.int (k:Int)]∧b5 K H sc (ns.map V.int)∧k≤900 ∧
 ∀(tp td tab od am:Addr) (q:Int) (n:Nat) (o:List Nat) (rs:Nat→Addr) (vf:Nat→Nat→V) (av:Nat→V) (f:Nat→Nat→Int×Int) (H':Hp),af H H'→H' tp=some (.tup [.ref td,.ref tab,.ref od,.ref am])→dw H' td q→aT q→1≤n→n≤6→jD H' q tab od am n o rs vf av f→H tab=none→H od=none→H am=none→(∀i,i<n→H (rs i)=none)→Q (.ref tp) H'
theorem V8(h1:k_ H q n vf)(h2:∀i,i<n→∃x m,aV 1000 H q (av i) x m∧mj q x m):∃f:Nat→Nat→Int×Int,(∀i j,i<n→j<n→aV 1000 H q (vf i j) (f i j).1 (f i j).2)∧(∀i,i<n→aV 1000 H q (av i) (f i n).1 (f i n).2)∧∀i j,i<n→j≤n→pz q (f i j).1 (f i j).2:=by
 have g1:∀i j,i<n→j<n→∃p:Int×Int,aV 1000 H q (vf i j) p.1 p.2∧pz q p.1 p.2:=fun i j hi hj=>let ⟨x,m,a,b⟩:=h1 i j hi hj;⟨(x,m),a,LL a b⟩
 have g2:∀i,i<n→∃p:Int×Int,aV 1000 H q (av i) p.1 p.2∧pz q p.1 p.2:=fun i hi=>let ⟨x,m,a,b⟩:=h2 i hi;⟨(x,m),a,LL a b⟩
 refine ⟨fun i j=>if h:i<n then (if h':j<n then (g1 i j h h').choose else (g2 i h).choose) else (0,1),fun i j hi hj=>?_,fun i hi=>?_,fun i j hi hj=>?_⟩
 ·dsimp only
  rw [fL hi,fL hj];exact (g1 i j hi hj).choose_spec.1
 ·dsimp only
  rw [fL hi,dif_neg (by lia)]
  exact (g2 i hi).choose_spec.1
 ·dsimp only
  rw [fL hi];by_cases h:j<n
  ·rw [fL h]
   exact (g1 i j hi h).choose_spec.2
  ·rw [dif_neg h]
   exact (g2 i hi).choose_spec.2
section
variable {H:Hp} {q:Int} {tab od am:Addr} {n:Nat} {o:List Nat} {rs:Nat→Addr} {vf:Nat→Nat→V} {av:Nat→V} {f:Nat→Nat→Int×Int}
theorem jD.uV(hq:aT q)(h:jD H q tab od am n o rs vf av f){i j:Nat}(hi:i<n)(hj:j<n):aH 997 H q (vf i j) (cW q n f i j) (dJ q i):=uW (h.num i j hi hj) (LM h.sm hi (by lia)) (BC hq i) (uZ h.sm i j) (qP i)
theorem jD.gj(hq:aT q)(h:jD H q tab od am n o rs vf av f)(n9:n≤9):Bx q n (bV n 997) (gR n n f) o (cW q n f) (dJ q):=
 Vi (by decide) (uZ h.sm) qP (gg h.lh) (fun i j hi hj=>by rw [LN hi hj];exact LM h.sm hi (by lia)) (BC hq) (fun i j hi hj z=>V3 (by rw [LN hi hj] at z;exact z)) (FL n n9).1 (FL n n9).2
theorem jD.V9(h:jD H q tab od am n o rs vf av f):jv 1000 H q tab (gR n n f):=FP h.tab.r h.num
end
variable {R:VK}
theorem V_{B':Nat}{u:V}(hv:aV B H q v x m)(hu:aV B' H q u x m)(k:R (.bl false) H):A9 K v u H R:=by
 cases hv with
 | a7 e l bx bm=>
  cases hu with
  | a7 e' l' _ _=>refine .inl ⟨_,_,_,_,rfl,rfl,.of e,.of e',rfl,rfl,?_⟩;rw [SO];exact k
  | rem h0 h1 _=>lia
 | rem h0 h1 h2=>
  cases hu with
  | a7 _ _ _ _=>lia
  | rem _ _ _=>refine .inr ⟨rfl,?_⟩;simpa using k
theorem We{lv:Nat→V}{T U:Nat→Int}(h:∀i,i<n→aH X H q (lv i) (T i) (U i)):∃fr:Nat→Int×Int,∀i,i<n→aV X H q (lv i) (fr i).1 (fr i).2:=by
 have g:∀i,i<n→∃p:Int×Int,aV X H q (lv i) p.1 p.2:=fun i hi=>let ⟨x,m,a,_⟩:=h i hi;⟨(x,m),a⟩
 refine ⟨fun i=>if h:i<n then (g i h).choose else (0,1),fun i hi=>?_⟩
 dsimp only;rw [fL hi];exact (g i hi).choose_spec
section
variable {q:Int} {M:aF} {o:List Nat} {n k:Nat}
theorem Wf(ho:o.Perm (List.range n)):(cO o n).Perm (List.range n):=by
 unfold cO;rw [p5 (by rw [gg ho];exact aN _)]
 exact (List.reverse_perm _).trans ho
end
theorem Wg(ah:dF)(j i:Nat):(iZ ah j i).Nodup:=by unfold iZ;refine List.Pairwise.map _ (fun a b (h:a≠b) z=>h ?_) (Am.filter _);have:=(Prod.mk.inj z).1;lia
theorem LP(ah:dF):∀j,(gi ah j).Nodup
 | 0=>by unfold gi;simp
 | j+1=>by rw [Fz];refine uc.mpr ⟨LP ah j,Wg ah j j,fun a ha b hb z=>?_⟩;obtain ⟨i,j',rfl,_,h2,_⟩:=FA.mp ha;unfold iZ at hb;obtain ⟨x,_,rfl⟩:=i_.mp hb;have:=(Prod.mk.inj z).2;lia
theorem LQ:∀z∈gi ah n,0≤z.1∧z.1<z.2∧z.2<(n:Int):=fun z hz=>by obtain ⟨i,j,rfl,h1,h2,_⟩:=FA.mp hz;dsimp only;lia
theorem dw.at{td:Addr}(h:dw H td q):Ko H td q:=by
 unfold Ko l9;rcases h with ⟨h1,h2⟩ | ⟨h1,h2⟩;·rw [ar h1];exact h2
 ·rw [au h1];exact h2
def gS(Cl:Addr→Prop)(H H':Hp):Prop:=∀b o,¬Cl b→H b=some o→H' b=some o
def lq(Cl:Addr→Prop)(H:Hp):Prop:=∀l,Cl l→∃ys,H l=some (.lst ys)
section
variable {Cl:Addr→Prop} {H H':Hp} {q:Int}
theorem gS.refl(Cl:Addr→Prop)(H:Hp):gS Cl H H:=fun _ _ _ e=>e
theorem lq.tup(h:lq Cl H){b:Addr}{xs:List V}(e:H b=some (.tup xs)):¬Cl b:=fun z=>by obtain ⟨ys,ey⟩:=h b z;rw [ey] at e;cases e
theorem aV.iC(h:aV B H q v x m)(l:lq Cl H)(o:gS Cl H H'):aV B H' q v x m:=by
 cases h with
 | a7 e a b c=>exact .a7 (o _ _ (l.tup e) e) a b c
 | rem a b c=>exact .rem a b c
theorem aH.iC{t u:Int}(h:aH B H q v t u)(l:lq Cl H)(o:gS Cl H H'):aH B H' q v t u:=let ⟨x,m,a,b⟩:=h;⟨x,m,a.iC l o,b⟩
theorem dU.iC{C z:Addr}(h:dU C H z q)(l:lq Cl H)(o:gS Cl H H'):dU C H' z q:=by obtain ⟨d,e⟩:=h;refine ⟨d,o _ _ (fun zz=>?_) e⟩;obtain ⟨ys,ey⟩:=l z zz;rw [ey] at e;cases e
theorem gS.clear{H0:Hp}{l:Addr}(h:gS Cl H0 H)(c:Cl l):gS Cl H0 (upd H l (.lst [])):=fun b o nb e=>by
 rw [aJ (fun z:b=l=>nb (by rw [z];exact c))]
 exact h b o nb e
theorem gS.same{Hn:Hp}(h:gS Cl H H')(nw:∀l,Cl l→Hn l=none)(s:af Hn H):af Hn H':=fun b o e=>h b o (fun z=>by rw [nw b z] at e;cases e) (s _ _ e)
variable {f f2 r r2:Addr} {X n:Nat} {o:List Nat} {M:aF} {L:cE} {lv lv2:Nat→V} {at' at2:Nat}
theorem eZ{α:Type}{j:Nat}{lv:Nat→α}{x:α}(h:((List.range n).map lv)[j]?=some x):j<n∧x=lv j:=by
 have hj:j<n:=by have:=(bZ.mp h).1;simpa using this
 rw [cC,i7 hj] at h;exact ⟨hj,(Option.some.inj h).symm⟩
end
theorem LR{te:TE}{σ:St}(M:V→Hp→Prop)(h1:∀R':VK,(∀x H,M x H→R' x H)→te σ H R')(h2:∀x H,M x H→R x H):te σ H R:=h1 R h2
end My
namespace L2
open PySem PySem.Spec PyProof.Rows
section
variable {X:Cx} {N:List Str} {scope:Scope} {cl:List (Str×Addr)} {x y:Str} {px py pos tp:Pos} {k4:Nat} {iter elt:Expr} {ifs:List Expr} {wi:TI} {ρ:St→St} {tt:TT} {te:TE}
theorem Wh{y9:Str}{u0 oY:Pos}{i0:Nat}(B:ET X N scope cl x y ρ)(hc:X.calm=true)(hN:X.N.Nodup)(yL:X.N[i0]?=some y9)(hy:Loc X.env.scope y9)(hi:PI X (.Tuple [.Name x px,.Name y py] k4 tp) iter wi)(ht:∀s₃ H₃ fp,j7 (X.bF N scope cl s₃ H₃ fp) ifs tt)(he:∀s₃ H₃ fp,PE (X.bF N scope cl s₃ H₃ fp) elt te)
  (yM:swapsWith (.ListComp elt [⟨.Tuple [.Name x px,.Name y py] k4 tp,iter,ifs,0⟩] scope pos) (some (.Name y9 u0)) oY.line X.env=pure true:=by rfl) (hf:X.fn y9=true∨X.env.scope.names.lookup y9=some .local:=by first | exact .inl rfl | exact .inr rfl | assumption)
  (hs:∀x,foldedSetIterable iter X.env x=pure x:=by intro _;rfl):PS X (.Assign [.Name y9 u0] (.ListComp elt [⟨.Tuple [.Name x px,.Name y py] k4 tp,iter,ifs,0⟩] scope pos) oY) (mY (Ba X.K wi ρ tt te) (bR i0)):=by
 intro pins s σ H D0 I h
 have h:Ba X.K wi ρ tt te σ H (fun v H1=>D0.nx (σ.set i0 (some v)) H1):=h
 rw [DS _ _ _ _ yM]
 refine b7 (tU (b7 ?_))
 show wpAny _ X.A (do let _ ←comprehension (.ListComp elt [⟨.Tuple [.Name x px,.Name y py] k4 tp,iter,ifs,0⟩] scope pos) scope X.env _ (newList []) false (eval iter X.env) (some (assign (.Name y9 u0) X.env))) _ _ s
 refine b7 (bW (Q:=fun _ s'=>SP X pins D0 .next s') ?_ (fun _ s' hq=>dM (dM hq)) fun _ _ e=>e)
 refine x5 (use:=some (assign (.Name y9 u0) X.env)) rfl hs B.qz B.kind B.names (aO (hi pins s σ H _ I h) fun v s1 h1=>aO h1 fun qk s2 h2=>?_)
 obtain ⟨it,fp,tn,J,H2,rfl,I2,T,fm,f2,q2⟩:=h2
 have nD:H2 s2.heap.objs.size=none:=I2.az.fresh (aN _)
 obtain ⟨W,⟨m0,w0⟩,turn⟩:=q2 _ nD
 refine tV (Ae B.yJ (by intro y hy;simp at hy) (fun h₁ fA fY=>?_) B.kind)
 dsimp only at fA fY ⊢
 generalize hD:s2.heap.objs.size=D at nD w0 turn fA fY ⊢
 generalize fZ:({s2 with heap:=s2.heap.push {cls:=.type "list",dict:=none,data:=.seq ([]:List Value).toArray}}:Shared)=s3
 have I3:Inv X pins σ (upd H2 D (.lst [])) s3:=by
  subst hD fZ
  exact I2.laid (t':=s2.toks) (fun b u e=>cz _ e) (aN _) ⟨cn _,[],_,.nil,fH _ rfl⟩
 have e3:s3.heap=s2.heap.push {cls:=.type "list",dict:=none,data:=.seq ([]:List Value).toArray}:=by rw [←fZ]
 have dS:∀b o,s2.heap.get? b=some o→s3.heap.get? b=some o:=fun b o e=>by rw [e3];exact cz _ e
 rw [←e3] at fA fY ⊢
 have below:∀b o,s3.heap.get? b=some o→b≠s3.heap.objs.size:=fun b o e=>d5 (bU e)
 have cK:∀b o,s3.heap.get? b=some o→h₁.get? b=some o:=fun b o e=>fY.extBut b o (below b o e) (cz _ e)
 have fO:∀b∈fp,∃o,s2.heap.get? b=some o∧∀v,o.data≠.cell v:=T.obj _ _ fm
 have m_:∀b∈fp,b≠D:=fun b hb z=>by
  obtain ⟨o,e,_⟩:=fO b hb
  rw [z,←hD] at e
  exact absurd (bU e) (gJ _)
 have cu:∀y c,cl.lookup y=some c→X.env.cells.lookup y=some c:=fun y c e=>B.sub (y,c) (jP e)
 have ng:=I3.qf
 have dH:(X.bF N scope cl s3 (upd H2 D (.lst [])) fp).Ok:=by
  refine ⟨I.ok.mod,B.kind,I.ok.glob,I.ok.blt,aN _,fun a b c e1 e2=>I.ok.inj a b c (cu a c e1) (cu b c e2),fun y hy=>B.has y hy,(fun _ _ z _=>absurd z de),(fun _=>I.ok.hd hc),I.ok.frames,.inl rfl,fun b hb=>⟨?_,fun y c e z=>?_⟩,fun b o e=>?_,aQ I.ok.gM I3.sz,fun b o e hb=>?_,fun b hb z=>?_,I3.stack,ng⟩
  ·obtain ⟨o,e,_⟩:=fO b hb
   exact below b o (dS b o e)
  ·exact (f2 b hb).2.2.2.2.1 y c (cu y c e) z
  ·exact I3.bs b o e
  ·rcases (f2 b hb).2.2.2.1 with z | z
   ·exact I.ok.mT b o e z
   ·exact absurd (dZ (bU e) (aQ I.ok.gM z)) (gJ _)
  ·rcases dy.mp (I3.qe b z) with z | z
   ·exact (f2 b hb).2.1 z
   ·exact (f2 b hb).2.2.1 z
 have IB:∀tk:Nat,Inv (X.bF N scope cl s3 (upd H2 D (.lst [])) fp) [] (none::none::ρ σ) (upd H2 D (.lst [])) {s3 with heap:=h₁,toks:=tk}:=fun tk=>by
  refine ⟨dH,rfl,I3.bare,Un.kept cK,⟨_,fA,fun j y v e1 e2 e3=>?_⟩,fun y c e=>?_,?_,fun y c e=>I3.iK y c (cu y c e),(fun p hp=>nomatch hp),I3.az.kept cK,?_⟩
  ·cases j with
   | zero=>cases e2
   | succ j=>
   cases j with
   | zero=>cases e2
   | succ j=>
    obtain ⟨i,y',a1,a2,a3,a4,a5,a6⟩:=B.qA σ j v e2
    have lZ:N[j+1+1]?=some y:=e1
    rw [lZ] at a1
    cases a1
    obtain ⟨m,hn,hl⟩:=I3.loc
    obtain ⟨u,r,l⟩:=hl i y v a2 a3 a4
    refine ⟨u,r,.inr ⟨a6,?_⟩⟩
    obtain ⟨c,ec⟩:=B.has y a6
    rcases l with ⟨k,_⟩ | ⟨_,c',iO,z⟩
    ·rcases a5 with q | q <;> (rw [k] at q;cases q)
    ·have:=cu y c ec
     rw [this] at iO
     cases iO
     obtain ⟨o,ho,hd⟩:=z
     exact ⟨c,ec,o,cK _ _ ho,hd⟩
  ·obtain ⟨v,o,ho,hd⟩:=I3.cell y c (cu y c e)
   exact ⟨v,o,cK _ _ ho,hd⟩
  ·exact I3.az.fresh (aN _)
  ·show (none::none::ρ σ).length=N.length
   rw [e_,e_]
   exact B.len σ I.len
 have kX:∀b o,s3.heap.get? b=some o→b≠s3.heap.objs.size:=below
 have fin:∀{σ':St} {H':Hp} {s':Shared},Inv (X.bF N scope cl s3 (upd H2 D (.lst [])) fp) [] σ' H' s'→D0.nx (σ.set i0 (some (.ref D))) H'→compPost (model X.prog X.w) X.A X.xe (some (assign (.Name y9 u0) X.env)) (fun _ s'=>SP X pins D0 .next s') (.ref D) s3.heap.objs.size (.ok .next) s':=fun{σ' H' s'} J q=>by
  obtain ⟨m,hn,_⟩:=J.loc
  have hn:s'.heap.Ns s3.heap.objs.size m:=hn
  have JC:H' s3.heap.objs.size=none:=J.free
  have u1:Un (cG X.stack) fp (upd H2 D (.lst [])) H' s3.heap s'.heap:=by
   refine ⟨fun b o e n hb hx=>J.base.keep b o e n hb hx,fun b o e n hb hx=>J.base.slot b o e n hb hx,J.base.free,fun b o e hx=>J.base.there b o e hx,J.base.gK,J.base.gA,J.base.gL⟩
  have IX:Inv X pins σ H' s':=I3.lO (ch:=fp) (J.os) u1 J.az J.bare fun b hb=>by
   obtain ⟨g0,g1,g2,g3,g4,g5⟩:=f2 b hb
   exact ⟨g3,g1,g4,g5⟩
  have nl:X.env.locals≠s3.heap.objs.size:=by
   obtain ⟨m3,⟨o3,_,_,e3,_⟩,_⟩:=I3.loc
   exact kX _ _ e3
  have nc:∀z c,X.env.cells.lookup z=some c→c≠s3.heap.objs.size:=fun z c e=>by
   obtain ⟨v3,o3,e3,_⟩:=I3.cell z c e
   exact kX _ _ e3
  refine Aa (Au (v:=.ref D) IX hN yL hy rfl (fun gZ kY kZ=>?_) hf)
  obtain ⟨a,kZ,ha⟩:=kZ
  have na:s3.heap.objs.size≠a:=by
   rcases ha with rfl | e
   ·exact fun z=>nl z.symm
   ·exact fun z=>nc _ _ e z.symm
  refine ⟨m,hn.sameBut kZ na,fun h' eG=>⟨σ.set i0 (some (.ref D)),H',?_,q⟩⟩
  have u2:Un (cG X.stack) [s3.heap.objs.size] H' H' gZ.heap h':=by
   refine ⟨fun b o e n hb hx=>(eG.2 b (by simpa using hx)).trans e,fun b o e n hb hx=>⟨o.slots,(eG.2 b (by simpa using hx)).trans e⟩,fun b o e n hx=>n,fun b o e hx=>⟨o,(eG.2 b (by simpa using hx)).trans e⟩,fun b xs z=>z,fun b o u z=>z,fun b ps z=>⟨#[],by simpa using z⟩⟩
  have ni:cA X.prog X.w H' h':=fun b u e=>by
   refine (kY.az b u e).jc (fun c v hc z=>(eG.2 c fun y=>?_).trans z) (fun _ z=>z) fun _ _ z=>z
   have y':c=s3.heap.objs.size:=y
   rcases hc with hc | hc
   ·rw [←hc,y',JC] at e
    cases e
   ·rw [y',JC] at hc
    cases hc
  refine kY.lO (s':={gZ with heap:=h'}) (ch:=[s3.heap.objs.size]) rfl u2 ni kY.bare fun b hb=>?_
  have eb:b=s3.heap.objs.size:=by simpa using hb
  subst eb
  refine ⟨.inr I3.sz,fun z=>nl z.symm,fun z c e=>nc z c e,fun p hp=>?_⟩
  exact kX _ _ (I3.pin p hp).1
 have eP:∀{H':Hp},(∀b∈fp,H' b=none)→∀b∈fp,kK (X.bF N scope cl s3 (upd H2 D (.lst [])) fp) [] H' b:=fun hn b hb=>by
  refine ⟨hn b hb,?_,?_,.inl hb,fun y c e z=>(f2 b hb).2.2.2.2.1 y c (cu y c e) z,fun p hp=>nomatch hp⟩
  ·obtain ⟨o,e,_⟩:=fO b hb
   exact below b o (dS b o e)
  ·exact dH.mU b hb
 have loop:∀tk:Nat,codeAny (model X.prog X.w) X.A (.compLoop (.ListComp elt [⟨.Tuple [.Name x px,.Name y py] k4 tp,iter,ifs,0⟩] scope pos) 0 (.ref it) (.ref D) (compEnvC scope cl s3.heap.objs.size X.env))
   (compPost (model X.prog X.w) X.A X.xe (some (assign (.Name y9 u0) X.env)) (fun _ s'=>SP X pins D0 .next s') (.ref D) s3.heap.objs.size) {s3 with heap:=h₁,toks:=tk}:=fun tk=>by
  refine J9 (fun n s'=>∃i ys o o2 H',Inv (X.bF N scope cl s3 (upd H2 D (.lst [])) fp) [] (o::o2::ρ σ) H' s'∧tn i s'.heap∧(∀b∈fp,H' b=none)∧W i n ys H') ?_ m0
   ⟨0,[],none,none,_,IB tk,T.keep _ _ _ fm fun b hb o e=>cK _ _ (dS _ _ e),fun b hb=>by rw [aJ (m_ b hb)];exact (f2 b hb).1,w0⟩
  rintro n s4 ⟨i,ys,o,o2,H4,I4,iP,iQ,w4⟩
  obtain ⟨A1,nk⟩:=turn i n ys H4 w4
  rcases nk with ⟨stop,qn⟩ | ⟨go,step⟩
  ·refine bW (T.done (X.bF N scope cl s3 (upd H2 D (.lst [])) fp) rfl rfl rfl hc i [] s4 _ H4 (fun _ _=>False) I4 (eP iQ) iP stop) (fun r s5 ⟨hr,I5⟩=>?_) fun _ _ z=>z.elim
   subst hr
   exact fin I5 qn
  ·refine bW (T.item (X.bF N scope cl s3 (upd H2 D (.lst [])) fp) rfl rfl rfl hc i [] s4 _ H4 (fun _ _=>False) I4 (eP iQ) iP go) (fun r s5 ⟨u,hr,h5⟩=>?_) fun _ _ z=>z.elim
   subst hr
   refine bW h5 (fun _ s5 ⟨y0,H5,I5,r5,y5,eQ,kL⟩=>?_) fun _ _ z=>z.elim
   obtain ⟨Tt,x1,x2,e0,EV,nB⟩:=step y0 _ y5
   subst e0
   have kM:=I5.pinned (eP kL) (T.obj _ _ eQ)
   have pg:PG (X.bF N scope cl s3 (upd H2 D (.lst [])) fp) (.Tuple [.Name x px,.Name y py] k4 tp) (Eb X.K 2 (yl (bR 0) (yl (bR 1) Ea))):=
    mX (X:=X.bF N scope cl s3 (upd H2 D (.lst [])) fp) hc (fM (bP (i:=0) B.nd B.n0 (.inl (jR B.hx)) (.inr (jR B.hx))) (fM (bP (i:=1) B.nd B.n1 (.inl (jR B.hy)) (.inr (jR B.hy))) mW))
   have again:∀{σ7:St} {H7:Hp} {s7:Shared},Inv (X.bF N scope cl s3 (upd H2 D (.lst [])) fp) ([]++iL fp s5.heap) σ7 H7 s7→Inv (X.bF N scope cl s3 (upd H2 D (.lst [])) fp) [] σ7 H7 s7∧tn (i+1) s7.heap∧∀b∈fp,H7 b=none:=fun{σ7 H7 s7} I7=>by
    refine ⟨I7.oI,T.keep _ _ _ eQ fun b hb o e=>(I7.pin (b,o) (cT _ (cT _ (jW hb e)))).1,fun b hb=>?_⟩
    obtain ⟨o,e,d⟩:=T.obj _ _ eQ b hb
    exact (I7.pin (b,o) (cT _ (cT _ (jW hb e)))).2.1
   refine bW (pg _ s5 _ H5 (.ref Tt) u (fun σ2 H6=>σ2=some x1::some x2::ρ σ∧H6=H5) kM r5 ⟨Tt,_,rfl,EV,rfl,_,_,rfl,_,_,rfl,rfl,rfl,rfl⟩) (fun _ s6 ⟨σ6,H6,I6,q6⟩=>?_) fun _ _ z=>z.elim
   obtain ⟨rfl,rfl⟩:=q6
   have tests:∀{f9:TT},j7 (X.bF N scope cl s3 (upd H2 D (.lst [])) fp) ifs f9→∀{R:Bool→Hp→Prop},f9 (some x1::some x2::ρ σ) H6 R→wpAny (model X.prog X.w) X.A
     (forIn ifs true fun c r=>if r=true then do let ok ←isTrue c (compEnvC scope cl s3.heap.objs.size X.env) (eval c (compEnvC scope cl s3.heap.objs.size X.env));pure (ForInStep.yield ok) else pure (ForInStep.yield r))
     (fun ok s7=>∃H7,Inv (X.bF N scope cl s3 (upd H2 D (.lst [])) fp) ([]++iL fp s5.heap) (some x1::some x2::ρ σ) H7 s7∧R ok H7) (fun _ _=>False) s6:=fun{f9} p {R} hR=>by
    cases p with
    | nil=>exact x8 ⟨_,I6,hR⟩
    | one p=>exact x9 (p _ s6 _ _ _ I6 hR)
   refine bW (tests (ht s3 _ fp) nB) (fun ok s7 ⟨H7,I7,q7⟩=>?_) fun _ _ z=>z.elim
   cases ok with
   | false=>
    obtain ⟨m',dB,w7⟩:=q7
    obtain ⟨a1,a2,a3⟩:=again I7
    exact ⟨m',dB,i+1,ys,_,_,H7,a1,a2,a3,w7⟩
   | true=>
    refine bW (he s3 _ fp _ s7 _ H7 _ I7 q7) (fun ev s8 ⟨z,H8,I8,r8,nC,hz,m',dB,w8⟩=>?_) fun _ _ z=>z.elim
    refine bW (iM (X:=X.bF N scope cl s3 (upd H2 D (.lst [])) fp) _ s8 _ H8 (.ref D) [z] (.ref D) [ev] (fun _ H9=>H9=upd H8 D (.lst (ys++[z]))) I8 rfl (.cons r8 .nil) ⟨D,ys,z,rfl,rfl,nC,hz,rfl⟩) (fun _ s9 ⟨_,H9,I9,_,q9⟩=>?_) fun _ _ z=>z.elim
    subst q9
    obtain ⟨a1,a2,a3⟩:=again I9
    exact ⟨m',dB,i+1,ys++[z],_,_,_,a1,a2,a3,w8⟩
 have start:=loop (s3.toks+([]:List (Str×Value)).length)
 have es:({s3 with heap:=h₁,toks:=s3.toks+([]:List (Str×Value)).length}:Shared)={s2 with heap:=h₁,toks:=s2.toks+([]:List (Str×Value)).length}:=by rw [←fZ]
 rw [es] at start
 exact x_ start (T.self _ 0 _ _ _ (T.keep _ _ _ fm fun b hb o e=>cK _ _ (dS _ _ e)) start)
end
section
variable {X:Cx} {e:Expr} {te:TE} {pos p2:Pos}
end
end L2
namespace My
open PySem L2
def hE(M:aF)(D:Nat→Int)(o:List Nat)(i k:Nat):Int:=aW M (cO o (o.idxOf k)) (M i) k*D k
def kj(M:aF)(D:Nat→Int)(o:List Nat)(i k:Nat):Int:=D i*bC M (cO o (o.idxOf k+1))
def ko(M:aF)(o:List Nat)(k j:Nat):Int:=aW M (cO o (o.idxOf k)) (M k) j
def mq(M:aF)(D:Nat→Int)(o:List Nat)(k _j:Nat):Int:=D k*bC M (cO o (o.idxOf k))
def pA(d:Nat→Int):Nat→Int
 | 0=>1
 | m+1=>pA d m*d m
theorem LS{d:Nat→Int}:∀{n t:Nat},t<n→d t*d (t+1)∣pA d (n+1)
 | 0,t,h=>by lia
 | n+1,t,h=>by
  by_cases e:t=n
  ·subst e
   show d t*d (t+1)∣pA d t*d t*d (t+1);exact ⟨pA d t,by grind⟩
  ·exact An (LS (show t<n by lia))
theorem LU{q:Int}(hq:aT q){d:Nat→Int}:∀{n:Nat},(∀t,t<n→¬q∣d t)→¬q∣pA d n
 | 0,_=>uP hq
 | n+1,h=>eX hq (LU hq fun t ht=>h t (by lia)) (h n (by lia))
theorem FU{F:Nat}{d:Nat→Int}(h:∀t,(d t).natAbs≤F):∀n,(pA d n).natAbs≤F ^ n
 | 0=>by show (1:Int).natAbs≤1;decide
 | n+1=>by show (pA d n*d n).natAbs≤_;rw [dC,Nat.pow_succ];exact fJ (FU h n) (h n)
section
variable {q:Int} {M:aF} {D:Nat→Int} {o:List Nat} {n:Nat}
def dP(M:aF)(o:List Nat)(n:Nat):Int:=pA (fun s=>bC M (cO o s)) (n+1)
def dW(M:aF)(o:List Nat)(n t:Nat):Int:=dP M o n / (bC M (cO o t)*bC M (cO o (t+1)))
def nW(M:aF)(o:List Nat)(n i j k:Nat):Int:=aW M (cO o (o.idxOf k)) (M i) k*aW M (cO o (o.idxOf k)) (M k) j*dW M o n (o.idxOf k)
variable {t:Nat}
theorem FV(hq:aT q)(g:ck q M (cO o n))(ht:t<n):bC M (cO o t)*bC M (cO o (t+1))*dW M o n t=dP M o n:=Int.mul_ediv_cancel' (LS (d:=fun s=>bC M (cO o s)) ht)
theorem LV(hq:aT q)(ho:o.Perm (List.range n))(g:ck q M (cO o n))(i j:Nat):∀m,m≤n→((List.range m).map fun t=>aW M (cO o t) (M i) (o.getD t 0)*aW M (cO o t) (M (o.getD t 0)) j*dW M o n t).sum+aW M (cO o m) (M i) j*(dP M o n / bC M (cO o m))=M i j*dP M o n
 | 0,_=>by have e:dP M o n / bC M (cO o 0)=dP M o n:=Int.ediv_one _;rw [e];show 0+aW M [] (M i) j*_=_;rw [Bt,eU]
 | m+1,hm=>by
  have lo:=gg ho;have ml:m<o.length:=by lia
  have ih:=LV hq ho g i j m (by lia)
  have gm:=mh g (show m≤n by lia)
  have em:o.getD m 0=o[m]:=getD_at ml;have cs:cO o (m+1)=o[m]::cO o m:=ph ml;have st:=yU hq gm o[m] (M i) j;rw [←cs] at st;have yZ:aW M (cO o m) (M o[m]) o[m]=bC M (cO o (m+1)):=by rw [cs];rfl
  rw [yZ] at st;have Wi:bC M (cO o m)≠0:=pe (iW hq gm);have Wj:bC M (cO o (m+1))≠0:=pe (iW hq (mh g hm));have w:=FV hq g (show m<n by lia)
  have v0:dP M o n / bC M (cO o m)=bC M (cO o (m+1))*dW M o n m:=by rw [←w,kG];exact gW _ Wi
  have v1:dP M o n / bC M (cO o (m+1))=bC M (cO o m)*dW M o n m:=by rw [←w,dD (bC M (cO o m)),kG];exact gW _ Wj
  rw [lK,i9,List.sum_append,Ap,List.sum_singleton,v1,←ih,v0,em];grind
variable {j:Nat}
theorem Wl(hq:aT q)(ho:o.Perm (List.range n))(g:ck q M (cO o n))(i:Nat)(hj:j<n):((List.range n).map fun k=>nW M o n i j k).sum=M i j*dP M o n:=by
 have lo:=gg ho;have e:=LV hq ho g i j n (aN _);rw [Bu ((Wf ho).mem_iff.mpr (e8.mpr hj)),gv,Int.add_zero] at e;rw [←e,←By (ho.map _)]
 congr 1
 refine fK (by simp [lo]) fun t h1 h2=>?_
 have ht:t<o.length:=by simpa using h1
 rw [fh,fh,gw,getD_at ht];unfold nW;rw [nR (k7 ho) ht]
theorem za(q x:Int):Cg q (x % q) x:=by unfold Cg;have:=yf x q;exact ⟨-(x / q),by grind⟩
variable {X:Nat} {x:Int}
theorem LW(hq:aT q)(X1:1000≤X)(h:q=0→x.natAbs≤X):(x % q).natAbs≤X:=by
 rcases hq with rfl | ⟨h1,h2,_⟩;·rw [Int.emod_zero];exact h rfl
 ·have a:=fg x (show q≠0 by lia)
  have b:=fI x (show 0<q by lia)
  lia
theorem Wm(h:¬q∣x):¬q∣x % q:=fun d=>h ((Int.dvd_iff_emod_eq_zero).mpr (by
 have:=(Int.dvd_iff_emod_eq_zero).mp d
 rwa [Int.emod_emod] at this))
theorem Wn{Y m:Nat}{T U:aF}{t u:Nat→Int}{S:aF}{R:Nat→Int}(hq:aT q)(s0:∀i,i<n→S i 0=0)(FI:∀i k,i<n→k<m→(S i k*(U i k*u k)+T i k*t k*R i)*R i=S i (k+1)*(R i*(U i k*u k)))(nz:∀i,i<n→¬q∣R i)
  (bd:q=0→∀i k,i<n→k≤m→(S i k).natAbs≤X∧(R i).natAbs≤X) (pr:∀i k,i<n→k<m→(T i k*t k).natAbs≤Y∧(U i k*u k).natAbs≤Y) (cx:X≤10 ^ 140) (FJ:Y≤10 ^ 140) (X1:1000≤X):BA q X Y n m T U t u (fun i k=>S i k % q) (fun i=>R i % q):=by
 refine ⟨fun i hi=>by rw [s0 i hi];exact Int.zero_emod q,fun i k hi hk=>?_,fun i hi=>Wm (nz i hi),fun i k hi hk=>⟨LW hq X1 fun z=>(bd z i k hi hk).1,LW hq X1 fun z=>(bd z i 0 hi (cn _)).2⟩,pr,cx,FJ,X1⟩
 have a:=za q (S i k);have b:=za q (R i);have c:=za q (S i (k+1));obtain ⟨x,hx⟩:=a;obtain ⟨y,hy⟩:=b;obtain ⟨z,hz⟩:=c;have e1:S i k % q=S i k+q*x:=by lia
 have e2:R i % q=R i+q*y:=by lia
 have e3:S i (k+1) % q=S i (k+1)+q*z:=by lia
 have s:=FI i k hi hk;rw [e1,e2,e3];refine ⟨(x*(U i k*u k)+T i k*t k*y)*(R i+q*y)+(S i k*(U i k*u k)+T i k*t k*R i)*y-(z*((R i+q*y)*(U i k*u k))+S i (k+1)*(y*(U i k*u k))),?_⟩;grind
theorem Wo(hq:aT q)(g:ck q M (cO o n))(ht:t<n):(dW M o n t).natAbs≤(dP M o n).natAbs:=by
 have w:=FV hq g ht;have d0:bC M (cO o t)*bC M (cO o (t+1))≠0:=fun z=>(mL.mp z).elim (pe (iW hq (mh g (by lia)))) (pe (iW hq (mh g (by lia))))
 rw [←w,dC];exact jT _ (lH.mpr d0)
theorem Wq(hq:aT q)(ho:o.Perm (List.range n))(g:ck q M (cO o n)):¬q∣dP M o n:=LU hq fun t ht=>iW hq (mh g (by lia))
theorem Wr:∀n,n≤6→(cS n 997*(cS n 997*997)≤10 ^ 140∧(997*cS n 997)*(997*cS n 997)≤10 ^ 140)∧(n*(cS n 18*cS n 18*cS n 18 ^ (n+1))≤10 ^ 140∧18*cS n 18 ^ (n+1)≤10 ^ 140):=fun n hn=>(show ∀n∈List.range 7,(cS n 997*(cS n 997*997)≤10 ^ 140∧(997*cS n 997)*(997*cS n 997)≤10 ^ 140)∧(n*(cS n 18*cS n 18*cS n 18 ^ (n+1))≤10 ^ 140∧18*cS n 18 ^ (n+1)≤10 ^ 140) by decide +kernel) n (e8.mpr (by lia))
theorem Ws(hq:aT q)(ho:o.Perm (List.range n))(g:ck q M (cO o n))(n6:n≤6)(hM:∀i k,(M i k).natAbs≤997)(hD:∀i,(D i).natAbs≤997)(nD:∀i,¬q∣D i)(BD:q=0→∀i k,(M i k).natAbs≤18)(Wu:q=0→∀i,(D i).natAbs≤18)(i:Nat) :
  BA q (10 ^ 140) (10 ^ 140) n n (fun j k=>ko M o k j) (fun j k=>mq M D o k j) (hE M D o i) (kj M D o i) (fun j m=>((List.range m).map fun k=>nW M o n i j k).sum % q) (fun _=>(D i*dP M o n) % q):=by
 have lo:=gg ho;have b1:1≤997:=by decide
 have BE:1≤18:=by decide
 obtain ⟨⟨u1,u2⟩,u3,u4⟩:=Wr n n6;have idx:∀{k},k<n→o.idxOf k<n:=fun{k} hk=>by have:=(gG ((dI ho).mpr hk)).1;lia
 refine Wn (S:=fun j m=>((List.range m).map fun k=>nW M o n i j k).sum) (R:=fun _=>D i*dP M o n) hq (fun _ _=>rfl) (fun j k hj hk=>?_) (fun _ _=>eX hq (nD i) (Wq hq ho g)) (fun z j m hj hm=>⟨?_,?_⟩) (fun j k hj hk=>⟨?_,?_⟩) (aN _) (aN _) (by decide +kernel)
 ·have w:=FV hq g (idx hk)
  rw [lK,i9,List.sum_append,Ap,List.sum_singleton];unfold nW ko mq hE kj;rw [←w];grind
 ·have h1:=Lw (F:=fun k=>if k<n then nW M o n i j k else 0) (Z:=cS n 18*cS n 18*cS n 18 ^ (n+1)) (fun k=>by
   split
   ·rename_i hk
    unfold nW;rw [dC,dC];exact fJ (fJ (nS BE (BD z) lo _ _ _) (nS BE (BD z) lo _ _ _)) (aQ (Wo hq g (idx hk)) (FU (fun t=>pj BE (BD z) lo t) (n+1)))
   ·exact cn _) (List.range m)
  rw [show ((List.range m).map fun k=>if k<n then nW M o n i j k else 0)=(List.range m).map fun k=>nW M o n i j k from iG fun k hk=>ar (by have:=e8.mp hk;lia),cN] at h1
  exact aQ (aQ h1 (Nat.mul_le_mul_right _ hm)) u3
 ·rw [dC]
  exact aQ (fJ (Wu z i) (FU (fun t=>pj BE (BD z) lo t) (n+1))) u4
 ·unfold ko hE
  rw [dC,dC];exact aQ (fJ (nS b1 hM lo _ _ _) (fJ (nS b1 hM lo _ _ _) (hD k))) u1
 ·unfold mq kj
  rw [dC,dC,dC];exact aQ (fJ (fJ (hD k) (pj b1 hM lo _)) (fJ (hD i) (pj b1 hM lo _))) u2
variable {i:Nat}
theorem LX(hq:aT q)(ho:o.Perm (List.range n))(hi:i<n):hE M D o i i=kj M D o i i:=by have kl:=(gG ((dI ho).mpr hi)).1;unfold hE kj;rw [ph kl,(gG ((dI ho).mpr hi)).2];exact dD _ _
variable {k:Nat}
theorem FW(hq:aT q)(ho:o.Perm (List.range n))(g:ck q M (cO o n))(hi:i<n)(hk:k<n)(h:o.idxOf i<o.idxOf k):hE M D o i k=0:=by have:=(gG ((dI ho).mpr hk)).1;have lo:=gg ho;unfold hE;rw [yV hq (mh g (by lia)) i ((mf ho).mpr ⟨hi,h⟩),gv]
theorem FX(ho:o.Perm (List.range n))(hj:j<n)(h:o.idxOf j<o.idxOf k):ko M o k j=0:=Bu ((mf ho).mpr ⟨hj,h⟩)
theorem LY(hq:aT q)(ho:o.Perm (List.range n))(g:ck q M (cO o n)){L:cE}(zero:∀a b,a<n→b<n→a≠b→¬aL n L a b→M a b=0){p:Nat}{ms:List Nat}(hp:p<n)(hi:i<n)(h:o.idxOf p<o.idxOf i)(jA:kh n L o p ms)(nm:i∉ms):aW M (cO o (o.idxOf p)) (M i) p=0∧aW M (cO o (o.idxOf p)) (M p) i=0:=by
 have lo:=gg ho;have kl:=(gG ((dI ho).mpr hp)).1;have gk:=mh g (show o.idxOf p≤n by lia)
 have nc:i∉cO o (o.idxOf p):=fun z=>by have:=((mf ho).mp z).2;lia
 have pc:p∉cO o (o.idxOf p):=fun z=>by have:=((mf ho).mp z).2;lia
 have ne:p≠i:=fun z=>by rw [z] at h;lia
 have nw:¬Wk (aL n L) (·∈cO o (o.idxOf p)) p i:=fun z=>nm ((jA i).mpr ⟨hi,h,z.mono fun x hx=>(mf ho).mp hx⟩);have lc:∀c∈cO o (o.idxOf p),c<n:=fun c hc=>((mf ho).mp hc).1;exact ⟨qM hq zero gk lc i p hi hp nc pc (Ne.symm ne) fun z=>nw (z.symm Bs),qM hq zero gk lc p i hp hi pc nc ne nw⟩
theorem LZ(hq:aT q)(ho:o.Perm (List.range n))(hi:i<n)(hk:k<n)(h:o.idxOf k<o.idxOf i):sT M D o n i k=hE M D o i k∧sU M D o n i k=kj M D o i k:=by
 have lo:=gg ho;have:=(gG ((dI ho).mpr hk)).1;unfold sT sU hE kj;rw [au (by lia),au (by lia),au (by lia),au (by lia)]
 exact ⟨rfl,rfl⟩
theorem L0(ho:o.Perm (List.range n))(hk:k<n)(h:o.idxOf k≤o.idxOf j):sT M D o n k j=ko M o k j∧sU M D o n k j=mq M D o k j:=by
 have lo:=gg ho;have:=(gG ((dI ho).mpr hk)).1;unfold sT sU ko mq;rw [au (by lia),ar h,au (by lia),ar h]
 exact ⟨rfl,rfl⟩
end
structure nX (H0 H:Hp) (q:Int) (X n:Nat) (o:List Nat) (M:aF) (D:Nat→Int) (fd lo up:Addr) (rl ru:Nat→Addr) (lf uf:Nat→Nat→V):Prop where
 tup:H fd=some (.tup [.ref lo,.ref up])
 low:cM H lo n n rl lf
 gq:cM H up n n ru uf
 wl:dj X H q n lf (hE M D o) (kj M D o)
 wu:dj X H q n uf (ko M o) (mq M D o)
 new:H0 fd=none∧H0 lo=none∧H0 up=none∧∀i,i<n→H0 (rl i)=none∧H0 (ru i)=none
variable {H H':Hp} {q:Int} {n:Nat} {o:List Nat}
theorem nX.mono{H0:Hp}{X:Nat}{M:aF}{D:Nat→Int}{fd lo up:Addr}{rl ru:Nat→Addr}{lf uf:Nat→Nat→V}(h:nX H0 H q X n o M D fd lo up rl ru lf uf)(s:af H H'):nX H0 H' q X n o M D fd lo up rl ru lf uf:=
 ⟨s _ _ h.tup,h.low.mono s,h.gq.mono s,fun i j hi hj=>(h.wl i j hi hj).mono s,fun i j hi hj=>(h.wu i j hi hj).mono s,h.new⟩
def BF(H:Hp)(tn:Addr)(n:Nat)(o:List Nat):Prop:=H tn=some (.lst ((List.range n).map fun j=>V.int ((o.idxOf j:Nat):Int)))
def Wv(C:Addr):Sp:=fun vs H Q _=>∃(z w tn:Addr) (q:Int) (X n i:Nat) (o:List Nat) (wv:Nat→V) (T U:Nat→Int),vs=[.ref z,.ref w,.ref tn,.int (i:Int)]∧dU C H z q∧aT q∧n≤40∧i<n∧o.Perm (List.range n)∧gH H w n wv∧BF H tn n o∧1000≤X∧(∀j,j<n→(T j).natAbs≤X∧(U j).natAbs≤X∧¬q∣U j)∧(∀j,j<n→o.idxOf j<o.idxOf i→aH X H q (wv j) (T j) (U j))∧(∀j,j<n→o.idxOf i<o.idxOf j→T j=0)∧T i=U i ∧
 ∀(r:Addr) (lv:Nat→V) (H':Hp),af H H'→H r=none→gH H' r n lv→(∀j,j<n→aH X H' q (lv j) (T j) (U j))→Q (.ref r) H'
def Ww(C:Addr):Sp:=fun vs H Q _=>∃(z w tn:Addr) (q:Int) (X n i:Nat) (o:List Nat) (wv:Nat→V) (T U:Nat→Int),vs=[.ref z,.ref w,.ref tn,.int (i:Int)]∧dU C H z q∧aT q∧n≤40∧i<n∧o.Perm (List.range n)∧gH H w n wv∧BF H tn n o∧1000≤X∧(∀j,j<n→(T j).natAbs≤X∧(U j).natAbs≤X∧¬q∣U j)∧(∀j,j<n→o.idxOf i≤o.idxOf j→aH X H q (wv j) (T j) (U j))∧(∀j,j<n→o.idxOf j<o.idxOf i→T j=0) ∧
 ∀(r:Addr) (lv:Nat→V) (H':Hp),af H H'→H r=none→gH H' r n lv→(∀j,j<n→aH X H' q (lv j) (T j) (U j))→Q (.ref r) H'
def Wx(C:Addr):Sp:=fun vs H Q _=>∃(z a tn:Addr) (q:Int) (X n:Nat) (o:List Nat) (ra:Nat→Addr) (vf:Nat→Nat→V) (T U:aF),vs=[.ref z,.ref a,.ref tn]∧dU C H z q∧aT q∧n≤40∧o.Perm (List.range n)∧cM H a n n ra vf∧BF H tn n o∧1000≤X∧(∀i j,i<n→j<n→(T i j).natAbs≤X∧(U i j).natAbs≤X∧¬q∣U i j)∧(∀i j,i<n→j<n→o.idxOf j<o.idxOf i→aH X H q (vf i j) (T i j) (U i j))∧(∀i j,i<n→j<n→o.idxOf i<o.idxOf j→T i j=0)∧(∀i,i<n→T i i=U i i) ∧
 ∀(r:Addr) (rr:Nat→Addr) (lf:Nat→Nat→V) (H':Hp),af H H'→H r=none→(∀i,i<n→H (rr i)=none)→cM H' r n n rr lf→dj X H' q n lf T U→Q (.ref r) H'
def Wy(C:Addr):Sp:=fun vs H Q _=>∃(z a tn:Addr) (q:Int) (X n:Nat) (o:List Nat) (ra:Nat→Addr) (vf:Nat→Nat→V) (T U:aF),vs=[.ref z,.ref a,.ref tn]∧dU C H z q∧aT q∧n≤40∧o.Perm (List.range n)∧cM H a n n ra vf∧BF H tn n o∧1000≤X∧(∀i j,i<n→j<n→(T i j).natAbs≤X∧(U i j).natAbs≤X∧¬q∣U i j)∧(∀i j,i<n→j<n→o.idxOf i≤o.idxOf j→aH X H q (vf i j) (T i j) (U i j))∧(∀i j,i<n→j<n→o.idxOf j<o.idxOf i→T i j=0) ∧
 ∀(r:Addr) (rr:Nat→Addr) (lf:Nat→Nat→V) (H':Hp),af H H'→H r=none→(∀i,i<n→H (rr i)=none)→cM H' r n n rr lf→dj X H' q n lf T U→Q (.ref r) H'
def Wz(C:Addr):Sp:=fun vs H Q _=>∃(z a d:Addr) (q:Int) (B X n:Nat) (ah:dF) (o:List Nat) (M:aF) (D:Nat→Int),vs=[.ref z,.ref a,.ref d]∧dU C H z q∧aT q∧jv B H q a ah∧B≤10 ^ 100∧ah.length=n∧1≤n∧n≤40∧(∀ps∈ah,ps.length=n)∧H d=some (.lst (cm o))∧o.Perm (List.range n)∧Bx q n X ah o M D∧(∀i j,i<n→j<n→(hE M D o i j).natAbs≤X∧(kj M D o i j).natAbs≤X∧(ko M o i j).natAbs≤X∧(mq M D o i j).natAbs≤X) ∧
 (∀(k:Nat) (hk:k<o.length),ck q M (cO o k)→q∣aW M (cO o k) (M o[k]) o[k]→∀H',af H H'→Q .aI H') ∧
 (ck q M (cO o n)→∀(fd lo up:Addr) (rl ru:Nat→Addr) (lf uf:Nat→Nat→V) (H':Hp),af H H'→nX H H' q X n o M D fd lo up rl ru lf uf→Q (.ref fd) H')
variable {f:Nat→V}
theorem BG{i:Nat}{x y:V}(h:(((List.range ((List.range n).map f).length).zip ((List.range n).map f)).map fun p=>(V.int (p.1:Int),p.2))[i]?=some (x,y)):i<n∧x=.int (i:Int)∧y=f i:=by
 rw [cC] at h;cases e:((List.range ((List.range n).map f).length).zip ((List.range n).map f))[i]? with
 | none=>rw [e] at h;cases h
 | some p=>
  rw [e] at h;obtain ⟨h1,h2⟩:=List.getElem?_zip_eq_some.mp e;obtain ⟨hi,e2⟩:=eZ h2;have e1:p.1=i:=by have h3:=(bZ.mp h1).2;simpa using h3.symm
  have h4:=Option.some.inj h;rw [Prod.mk.injEq] at h4;refine ⟨hi,?_,?_⟩;·rw [←h4.1,e1]
  ·rw [←h4.2,e2]
variable {B:Nat} {v:V}
theorem aH.bG{t u:Int}{D:Addr}{ys:List V}(h:aH B H q v t u)(e:H D=some (.lst ys))(k:∀b o,b≠D→H b=some o→H' b=some o):aH B H' q v t u:=let ⟨x,m,a,b⟩:=h;⟨x,m,a.bG e k,b⟩
theorem pB:(((List.range ((List.range n).map f).length).zip ((List.range n).map f)).map fun p=>(V.int (p.1:Int),p.2)).length=n:=by simp
def WA:Sp:=fun vs H Q _=>∃(td a:Addr) (q:Int) (B n:Nat) (ra:Nat→Addr) (vf:Nat→Nat→V) (T U:aF),vs=[.ref td,.ref a,.int (n:Int)]∧dw H td q∧aT q∧cM H a n n ra vf∧dj B H q n vf T U∧n≤60∧∀H',af H H'→Q (.bl true) H'
def WB:Sp:=fun vs H Q _=>∃(td a b:Addr) (q:Int) (X Y n:Nat) (ra rb:Nat→Addr) (lf uf:Nat→Nat→V) (lT lU uT uU:aF) (S:Nat→Nat→Nat→Int) (R:aF),vs=[.ref td,.ref a,.ref b]∧dw H td q∧aT q∧cM H a n n ra lf∧cM H b n n rb uf∧n≤40∧dj X H q n lf lT lU∧dj X H q n uf uT uU∧(∀i,i<n→BA q X Y n n (fun j k=>uT k j) (fun j k=>uU k j) (lT i) (lU i) (S i) (R i)) ∧
 ∀(D:Addr) (rr:Nat→Addr) (pf:Nat→Nat→V) (H':Hp),af H H'→H D=none→cM H' D n n rr pf→(∀i j,i<n→j<n→aH X H' q (pf i j) (S i j n) (R i j))→Q (.ref D) H'
theorem WC(ho:o.Perm (List.range n)){p:Nat}(hp:p<n):(o.map iN)[o.idxOf p]?=some (p:Int)∧∀m,m<o.idxOf p→(o.map iN)[m]?≠some (p:Int):=by
 obtain ⟨h1,h2⟩:=gG ((dI ho).mpr hp);refine ⟨?_,fun m hm e=>?_⟩
 ·rw [cC,cY h1,h2]
  rfl
 ·have L3:m<o.length:=by lia
  rw [cC,cY L3] at e;have e':((o[m]:Nat):Int)=(p:Int):=Option.some.inj e;have e2:o[m]=p:=by lia
  have:=nR (k7 ho) L3;rw [e2] at this;lia
def WD:Sp:=fun vs H Q _=>∃(td tab od am lo up:Addr) (q:Int) (X n:Nat) (o:List Nat) (rt rl ru:Nat→Addr) (vf lf uf:Nat→Nat→V) (av:Nat→V) (f:Nat→Nat→Int×Int),vs=[.ref td,.ref tab,.ref od,.ref lo,.ref up]∧dw H td q∧aT q∧n≤6∧jD H q tab od am n o rt vf av f∧cM H lo n n rl lf∧cM H up n n ru uf∧dj X H q n lf (hE (cW q n f) (dJ q) o) (kj (cW q n f) (dJ q) o)∧dj X H q n uf (ko (cW q n f) o) (mq (cW q n f) (dJ q) o)∧X≤10 ^ 100∧ck q (cW q n f) (cO o n)∧∀H',af H H'→Q (.bl true) H'
theorem WE{f:Nat→Nat→Int×Int}(h:∀i j,i<n→j≤n→pz q (f i j).1 (f i j).2)(z:q=0)(i j:Nat):(cW q n f i j).natAbs≤18:=by
 unfold cW
 split
 ·rename_i qi
  have hs:=h i j qi.1 qi.2;obtain ⟨h1,⟨c,hc⟩,h3⟩:=hs.1 z;have e:6 / (f i j).2=c:=by rw [hc];exact gW _ (by lia)
  have c6:c.natAbs≤6:=by
   have:(6:Int).natAbs=(f i j).2.natAbs*c.natAbs:=by rw [←dC,←hc]
   have m1:1≤(f i j).2.natAbs:=by lia
   have:=jT c.natAbs m1;have e6:(6:Int).natAbs=6:=rfl;lia
  rw [e,dC];exact fJ h1 c6
 ·decide
theorem aV.up{B':Nat}{x m:Int}(h:aV B H q v x m)(le:B≤B'):aV B' H q v x m:=by
 cases h with
 | a7 e l bx bm=>exact .a7 e l (aQ bx le) (aQ bm le)
 | rem a b c=>exact .rem a b c
theorem WG(z:q=0)(i:Nat):(dJ q i).natAbs≤18:=by unfold dJ;rw [ar z];decide
end My
namespace L2
open PySem PySem.Spec PyProof.Rows
theorem WH{X:Cx}{K:aC}{o e:Expr}{es:List Expr}{to:TE}{t:TA}{name:Str}{apos fv:Pos}{T id:String}{r:V→List V→Hp→VK→Prop}(pa:PlainAttrs T)(slot:Slot T name id)(yz:typeOf (.builtin id)=pure (.type "method_descriptor"))(hm:AO X id r)(ho:PE X o to)(ha:PA X (e::es) t)(hk:X.K=K:=by rfl)
  (yA:attributeBase o name X.env (eval o X.env)=eval o X.env:=by rfl)
  (Ex:((backTo fv (starEach (e::es) X.env)).all (fun x=>!x.1) && (backToKw fv (keywordEach [] X.env)).all (fun x=>x.1.isSome)
   && decide ((e::es).length+([]:List Keyword).length+(if ([]:List Keyword).isEmpty then 0 else 1)<30))=true:=by rfl)
  (yB:(apos.endLine == fv.line)=true:=by rfl) (hs:starEach (e::es) X.env=(false,eval e X.env)::starEach es X.env:=by rfl) (Ey:(backTo fv (starEach es X.env)).any (·.1)=false:=by rfl) :
  PE X (.Call (.Attribute o name apos) (e::es) [] fv) (JL K T r to t):=by
 subst hk;exact j4 pa slot yz hm ho ha yA Ex yB hs Ey
end L2
namespace My
open PySem L2
inductive pD (H0 H:Hp) (q:Int) (X n:Nat) (o:List Nat) (M:aF) (D:Nat→Int) (v:V):Prop where
 | no (k:Nat) (hk:k<o.length):ck q M (cO o k)→q∣aW M (cO o k) (M o[k]) o[k]→v=.aI→pD H0 H q X n o M D v
 | yes (fd lo up:Addr) (rl ru:Nat→Addr) (lf uf:Nat→Nat→V):ck q M (cO o n)→v=.ref fd→nX H0 H q X n o M D fd lo up rl ru lf uf→pD H0 H q X n o M D v
variable {H0 H H':Hp} {q:Int} {X n:Nat} {o:List Nat} {M:aF} {D:Nat→Int} {v:V}
theorem pD.mono(h:pD H0 H q X n o M D v)(s:af H H'):pD H0 H' q X n o M D v:=by
 cases h with
 | no k hk a b c=>exact .no k hk a b c
 | yes fd lo up rl ru lf uf a b c=>exact .yes fd lo up rl ru lf uf a b (c.mono s)
def WI:Sp:=fun vs H Q _=>∃(td tab od am:Addr) (v:V) (q:Int) (n:Nat) (o:List Nat) (rt:Nat→Addr) (vf:Nat→Nat→V) (av:Nat→V) (f:Nat→Nat→Int×Int) (H0:Hp),vs=[.ref td,.ref tab,.ref od,v]∧dw H td q∧aT q∧1≤n∧n≤6∧jD H q tab od am n o rt vf av f∧pD H0 H q (bV n 997) n o (cW q n f) (dJ q) v∧∀H',af H H'→Q (.bl true) H'
theorem WJ{L:cE}{g:Nat→List Nat}(hq:aT q)(ho:o.Perm (List.range n))(gd:ck q M (cO o n))(zero:∀a b,a<n→b<n→a≠b→¬aL n L a b→M a b=0)(jA:∀p,p<n→kh n L o p (g p)){i j:Nat}(hi:i<n)(hj:j<n)(ne:i≠j)(n1:j∉g i)(n2:i∉g j):hE M D o i j=0∧ko M o i j=0:=by
 have iR:=uR ho hi hj ne;rcases Nat.lt_or_gt_of_ne iR with h | h;·exact ⟨FW hq ho gd hi hj h,(LY hq ho gd zero hi hj h (jA i hi) n1).2⟩
 ·refine ⟨?_,FX ho hj h⟩
  unfold hE;rw [(LY hq ho gd zero hj hi h (jA j hj) n2).1,gv]
variable {K:aC} {a:Addr}
theorem WK{xs:List V}{H1:Hp}(h:H1 a=some (.tup xs)):nM (uj K a) xs H1 where
 go:=fun i Hc s hi=>⟨xs,xs[i],.of (s _ _ h),by simp [hi]⟩
 eO:=fun i Hc x H' s y=>⟨y.1,fun _=>y.2 xs (.of (s _ _ h))⟩
 stop:=fun i Hc s hi=>⟨xs,.of (s _ _ h),hi⟩
section
variable {Cl:Addr→Prop} {H0 H H':Hp} {q:Int} {X n:Nat} {o:List Nat} {M:aF} {D:Nat→Int} {fd lo up:Addr} {rl ru:Nat→Addr} {lf uf:Nat→Nat→V}
theorem cM.iC{m:Nat}{ra:Nat→Addr}{vf:Nat→Nat→V}(h:cM H a n m ra vf)(o:gS Cl H H')(na:¬Cl a)(nr:∀i,i<n→¬Cl (ra i)):cM H' a n m ra vf:=⟨o _ _ na h.lst,fun i hi=>o _ _ (nr i hi) (h.at' i hi)⟩
theorem nX.iC(h:nX H0 H q X n o M D fd lo up rl ru lf uf)(l:lq Cl H)(oc:gS Cl H H')(nl:¬Cl lo)(nu:¬Cl up)(nr:∀i,i<n→¬Cl (rl i)∧¬Cl (ru i)):nX H0 H' q X n o M D fd lo up rl ru lf uf:=
 ⟨oc _ _ (l.tup h.tup) h.tup,h.low.iC oc nl fun i hi=>(nr i hi).1,h.gq.iC oc nu fun i hi=>(nr i hi).2,fun i j hi hj=>(h.wl i j hi hj).iC l oc,fun i j hi hj=>(h.wu i j hi hj).iC l oc,h.new⟩
end
structure pE (H0 H:Hp) (n:Nat) (kp k0 k1:Addr) (r0 r1:Nat→Addr) (lf uf:Nat→Nat→V):Prop where
 lst:H kp=some (.lst [.ref k0,.ref k1])
 low:cM H k0 n n r0 lf
 gq:cM H k1 n n r1 uf
 new:H0 kp=none∧H0 k0=none∧H0 k1=none∧∀i,i<n→H0 (r0 i)=none∧H0 (r1 i)=none
variable {kp k0 k1:Addr} {r0 r1:Nat→Addr} {lf uf:Nat→Nat→V}
theorem pE.mono(h:pE H0 H n kp k0 k1 r0 r1 lf uf)(s:af H H'):pE H0 H' n kp k0 k1 r0 r1 lf uf:=⟨s _ _ h.lst,h.low.mono s,h.gq.mono s,h.new⟩
theorem pE.iC{Cl:Addr→Prop}(h:pE H0 H n kp k0 k1 r0 r1 lf uf)(oc:gS Cl H H')(nw:∀l,Cl l→∃u,H0 l=some u):pE H0 H' n kp k0 k1 r0 r1 lf uf:=by
 have no:∀{l},H0 l=none→¬Cl l:=fun{l} e z=>by obtain ⟨u,hu⟩:=nw l z;rw [e] at hu;cases hu
 obtain ⟨a,b,c,d⟩:=h.new;exact ⟨oc _ _ (no a) h.lst,h.low.iC oc (no b) fun i hi=>no (d i hi).1,h.gq.iC oc (no c) fun i hi=>no (d i hi).2,h.new⟩
variable {b:Addr} {m:Nat} {ra rb:Nat→Addr} {zb:Nat→Nat→V}
theorem BH(h:cM H a n m ra lf)(g:cM H b n m rb zb)(k:∀i j,i<n→j<m→iS K H 1 (lf i j) (zb i j)):iS K H 3 (.ref a) (.ref b):=by
 refine .inr ⟨a,b,_,_,rfl,rfl,.inl ⟨.of h.lst,.of g.lst⟩,by simp,fun i x y hx hy=>?_⟩
 obtain ⟨hi,rfl⟩:=eZ hx;obtain ⟨_,rfl⟩:=eZ hy;refine .inr ⟨_,_,_,_,rfl,rfl,.inl ⟨.of (h.at' i hi),.of (g.at' i hi)⟩,by simp,fun j x y hx hy=>?_⟩
 obtain ⟨hj,rfl⟩:=eZ hx;obtain ⟨_,rfl⟩:=eZ hy;exact k i j hi hj
theorem L4(h:cM H a n m ra lf)(g:cM H b n m rb zb)(k:∀i j,i<n→j<m→iS K H 1 (lf i j) (zb i j)):∀(j:Nat) (x y:V),((List.range n).map fun i=>V.ref (ra i))[j]?=some x→((List.range n).map fun i=>V.ref (rb i))[j]?=some y→iS K H 2 x y:=fun i x y hx hy=>by
 obtain ⟨hi,rfl⟩:=eZ hx;obtain ⟨_,rfl⟩:=eZ hy;refine .inr ⟨_,_,_,_,rfl,rfl,.inl ⟨.of (h.at' i hi),.of (g.at' i hi)⟩,by simp,fun j x y hx hy=>?_⟩
 obtain ⟨hj,rfl⟩:=eZ hx;obtain ⟨_,rfl⟩:=eZ hy;exact k i j hi hj
theorem L5{c d:Addr}(h1:iS K H 3 (.ref a) (.ref c))(h2:iS K H 3 (.ref b) (.ref d)):∀(j:Nat) (x y:V),[V.ref a,.ref b][j]?=some x→[V.ref c,.ref d][j]?=some y→iS K H 3 x y:=fun j x y hx hy=>by
 match j,hx,hy with
 | 0,hx,hy=>cases hx;cases hy;exact h1
 | 1,hx,hy=>cases hx;cases hy;exact h2
 | j+2,hx,_=>simp at hx
theorem BI(hq:aT q){Y:Nat}{v':V}{t u:Int}(h:aH X H q v t u)(h':aH Y H q v' t u):iS K H 1 v v':=by obtain ⟨x,m,u1,u2⟩:=FR hq h h' (Cg.refl _);exact FT u1 u2
theorem lub{f:Nat→Nat→Int×Int}(hM:∀i j,(cW q n f i j).natAbs≤997)(lo:o.length=n):∀i j,i<n→j<n→(hE (cW q n f) (dJ q) o i j).natAbs≤bV n 997∧(kj (cW q n f) (dJ q) o i j).natAbs≤bV n 997∧(ko (cW q n f) o i j).natAbs≤bV n 997∧(mq (cW q n f) (dJ q) o i j).natAbs≤bV n 997:=fun i j _ _=>by
 have b1:1≤997:=by decide
 exact ⟨(nV b1 (nS b1 hM lo _ _ _) (qP j)).1,(nV b1 (pj b1 hM lo _) (qP i)).2,aQ (nS b1 hM lo _ _ _) (y6 b1),(nV b1 (pj b1 hM lo _) (qP i)).2⟩
end My
set_option maxRecDepth 100000
set_option maxHeartbeats 4000000
namespace My
open PySem L2
def top(i:Nat):Stmt:=PySem.Challenge.pw_bandwright_k37_factors_of_a_table.main.body.getD i (.Pass ⟨0,0,0,0⟩)
abbrev BJ:Stmt:=top 8
abbrev BK:Stmt:=top 9
abbrev BL:Stmt:=top 13
abbrev FY:Stmt:=top 14
abbrev BM:Stmt:=top 15
abbrev BN:Stmt:=top 16
abbrev BO:Stmt:=top 18
abbrev BP:Stmt:=top 19
abbrev BQ:Stmt:=top 20
abbrev BR:Stmt:=top 22
abbrev BS:Stmt:=top 23
abbrev BU:Stmt:=top 24
abbrev BV:Stmt:=top 25
abbrev BW:Stmt:=top 26
abbrev BX:Stmt:=top 28
abbrev BY:Stmt:=top 29
abbrev BZ:Stmt:=top 31
abbrev B0:Stmt:=top 32
abbrev B1:Stmt:=top 33
abbrev B2:Stmt:=top 34
abbrev B3:Stmt:=top 35
abbrev B4:Stmt:=top 37
abbrev B5:Stmt:=top 38
abbrev B6:Stmt:=top 39
abbrev B7:Stmt:=top 40
abbrev B8:Stmt:=top 41
abbrev B9:Stmt:=top 43
abbrev B_:Stmt:=top 44
abbrev Ca:Stmt:=top 47
abbrev Cb:Stmt:=top 48
abbrev Cc:Stmt:=top 51
abbrev Cd:Stmt:=top 52
abbrev Ce:Stmt:=top 53
abbrev Cf:Stmt:=top 54
abbrev Ci:Stmt:=top 55
abbrev Cj:Stmt:=top 56
abbrev Ck:Stmt:=top 57
abbrev Cm:Stmt:=top 58
abbrev Cn:Stmt:=top 59
abbrev Co:Stmt:=top 60
abbrev Cp:Stmt:=top 61
abbrev Cq:Stmt:=top 62
abbrev Cr:Stmt:=top 63
abbrev Cs:Stmt:=top 64
abbrev Ct:Stmt:=top 65
abbrev Cu:Stmt:=top 66
abbrev Cv:Stmt:=top 67
abbrev Cw:Stmt:=top 68
abbrev Cy:Stmt:=top 69
abbrev Cz:Stmt:=top 70
abbrev CA:Stmt:=top 71
abbrev CB:Stmt:=top 72
abbrev CD:Stmt:=top 73
abbrev CF:Stmt:=top 74
abbrev CG:Stmt:=top 75
abbrev CH:Stmt:=top 76
abbrev CI:Stmt:=top 77
abbrev CJ:Stmt:=top 78
abbrev CK:Stmt:=top 79
abbrev CL:Stmt:=top 80
abbrev CM:Stmt:=top 81
abbrev CN:Stmt:=inClass (top 49) 0
abbrev kq:Stmt:=inClass (top 49) 3
abbrev FZ:Stmt:=inClass (top 49) 4
abbrev CO:Stmt:=inClass (top 49) 5
abbrev CP:Stmt:=inClass (top 49) 6
abbrev CQ:Stmt:=inClass (top 49) 7
set_option genInjectivity false in
set_option genSizeOf false in
structure F0 where
 qQ:Addr
 u5:FuncData
 qS:Addr
 u6:FuncData
 qT:Addr
 u7:FuncData
 u9:Addr
 zc:FuncData
 qU:Addr
 u_:FuncData
 qV:Addr
 va:FuncData
 qW:Addr
 vb:FuncData
 qX:Addr
 vc:FuncData
 qY:Addr
 vd:FuncData
 qZ:Addr
 ve:FuncData
 q5:Addr
 vg:FuncData
 q8:Addr
 vh:FuncData
 q_:Addr
 vi:FuncData
 rf:Addr
 vj:FuncData
 rj:Addr
 vk:FuncData
 rn:Addr
 vm:FuncData
 rp:Addr
 vn:FuncData
 rq:Addr
 vo:FuncData
 rz:Addr
 vp:FuncData
 rA:Addr
 vq:FuncData
 rB:Addr
 vt:FuncData
 rC:Addr
 vv:FuncData
 rE:Addr
 vw:FuncData
 rF:Addr
 vx:FuncData
 rH:Addr
 vy:FuncData
 rJ:Addr
 vz:FuncData
 rK:Addr
 vA:FuncData
 rM:Addr
 vB:FuncData
 rN:Addr
 vC:FuncData
 rO:Addr
 vD:FuncData
 rP:Addr
 vE:FuncData
 rQ:Addr
 vF:FuncData
 rR:Addr
 vG:FuncData
 rS:Addr
 vH:FuncData
 rV:Addr
 vI:FuncData
 rW:Addr
 vJ:FuncData
 rX:Addr
 vK:FuncData
 rY:Addr
 vL:FuncData
 rZ:Addr
 vM:FuncData
 r6:Addr
 vN:FuncData
 r9:Addr
 vO:FuncData
 r_:Addr
 vP:FuncData
 sk:Addr
 vQ:FuncData
 sq:Addr
 vR:FuncData
 sr:Addr
 vS:FuncData
 sv:Addr
 vT:FuncData
 sA:Addr
 vU:FuncData
 sC:Addr
 vV:FuncData
 sD:Addr
 vW:FuncData
 sE:Addr
 vX:FuncData
 sF:Addr
 vY:FuncData
 sG:Addr
 vZ:FuncData
 sI:Addr
 v_:FuncData
 sJ:Addr
 wc:FuncData
 sL:Addr
 we:FuncData
 sM:Addr
 wg:FuncData
 sN:Addr
 wj:FuncData
 sO:Addr
 wm:FuncData
 sP:Addr
 wo:FuncData
 sQ:Addr
 wq:FuncData
 pF:Addr
 sR:FuncData
 sS:Addr
 wx:FuncData
 nY:Addr
 zd:FuncData
 wz:Addr
 ze:FuncData
 sW:Addr
 wA:FuncData
 sX:Addr
 wB:FuncData
 sY:Addr
 wC:FuncData
 bI:Addr
 sZ:Addr
 jE:Addr
 nZ:Addr
 n4:Addr
abbrev bo (mg:dh) (x:Str) (f:Addr):Prop:=mg x=some (.ref f)
abbrev CS (K:aC) (a:Addr):Prop:=PySem.W.excIn K a [.type "ValueError",.type "Exception",.type "BaseException",.type "object"] "ValueError.__new__"=true
structure Txt (K:aC) (mg:dh) (t:F0):Prop where
 wD:ax K "width" BJ t.qQ t.u5
 L6:Binds K t.u5 ["table"] []
 L7:bo mg "width" t.qQ
 wF:ax K "square_size" BK t.qS t.u6
 L8:Binds K t.u6 ["table"] []
 L9:bo mg "square_size" t.qS
 s_:ax K "is_whole" BL t.qT t.u7
 F8:Binds K t.u7 ["thing"] []
 F9:bo mg "is_whole" t.qT
 CT:ax K "shortened" FY t.u9 t.zc
 WL:Binds K t.zc ["one","other"] []
 WM:bo mg "shortened" t.u9
 mr:ax K "common_divisor" BM t.qU t.u_
 wG:Binds K t.u_ ["one","other"] []
 wH:bo mg "common_divisor" t.qU
 wI:ax K "is_prime" BN t.qV t.va
 L_:Binds K t.va ["number"] []
 Ma:bo mg "is_prime" t.qV
 wJ:ax K "links_of_place" BO t.qW t.vb
 Mb:Binds K t.vb ["world","table","i"] []
 Mc:bo mg "links_of_place" t.qW
 wK:ax K "shape_of" BP t.qX t.vc
 Md:Binds K t.vc ["world","table"] []
 Me:bo mg "shape_of" t.qX
 wL:ax K "neighbours" BQ t.qY t.vd
 Mf:Binds K t.vd ["shape"] []
 Mg:bo mg "neighbours" t.qY
 wM:ax K "is_order" BR t.qZ t.ve
 Mh:Binds K t.ve ["thing","n"] []
 Mi:bo mg "is_order" t.qZ
 wN:ax K "check_order" BS t.q5 t.vg
 Mj:Binds K t.vg ["order","n"] []
 Ml:bo mg "check_order" t.q5
 tf:ax K "turns_of" BU t.q8 t.vh
 F_:Binds K t.vh ["order"] []
 Ga:bo mg "turns_of" t.q8
 wO:ax K "link_all" BV t.q_ t.vi
 Mm:Binds K t.vi ["linked","places"] []
 Mn:bo mg "link_all" t.q_
 wQ:ax K "later" BW t.rf t.vj
 Mo:Binds K t.vj ["shape","order"] []
 Mp:bo mg "later" t.rf
 wR:ax K "undo_place" BX t.rj t.vk
 Mq:Binds K t.vk ["world","work","place","others"] []
 Mr:bo mg "undo_place" t.rj
 wU:ax K "packed" BY t.rn t.vm
 Ms:Binds K t.vm ["world","table","order"] []
 Mt:bo mg "packed" t.rn
 wV:ax K "lower_row" BZ t.rp t.vn
 Mu:Binds K t.vn ["world","row","turns","i"] []
 Mv:bo mg "lower_row" t.rp
 wW:ax K "upper_row" B0 t.rq t.vo
 Mw:Binds K t.vo ["world","row","turns","i"] []
 Mx:bo mg "upper_row" t.rq
 wX:ax K "lower_of" B1 t.rz t.vp
 Mz:Binds K t.vp ["world","table","turns"] []
 MA:bo mg "lower_of" t.rz
 wY:ax K "upper_of" B2 t.rA t.vq
 MB:Binds K t.vq ["world","table","turns"] []
 MC:bo mg "upper_of" t.rA
 tj:ax K "factors" B3 t.rB t.vt
 Gb:Binds K t.vt ["world","table","order"] []
 Gd:bo mg "factors" t.rB
 wZ:ax K "ratio" B4 t.rC t.vv
 MD:Binds K t.vv ["top","bottom"] []
 ME:bo mg "ratio" t.rC
 w5:ax K "ratio_plus" B5 t.rE t.vw
 MF:Binds K t.vw ["a","b"] []
 MG:bo mg "ratio_plus" t.rE
 w9:ax K "ratio_minus" B6 t.rF t.vx
 MH:Binds K t.vx ["a","b"] []
 MI:bo mg "ratio_minus" t.rF
 pG:ax K "ratio_times" B7 t.rH t.vy
 CU:Binds K t.vy ["a","b"] []
 CV:bo mg "ratio_times" t.rH
 w_:ax K "ratio_over" B8 t.rJ t.vz
 MJ:Binds K t.vz ["a","b"] []
 MK:bo mg "ratio_over" t.rJ
 xa:ax K "remainder_back" B9 t.rK t.vA
 ML:Binds K t.vA ["prime","number"] []
 MM:bo mg "remainder_back" t.rK
 tu:ax K "remainder_over" B_ t.rM t.vB
 Ge:Binds K t.vB ["prime","a","b"] []
 Gf:bo mg "remainder_over" t.rM
 xb:ax K "is_fractions" Ca t.rN t.vC
 MN:Binds K t.vC ["told"] []
 MO:bo mg "is_fractions" t.rN
 xc:ax K "is_wheel" Cb t.rO t.vD
 MP:Binds K t.vD ["told"] []
 MQ:bo mg "is_wheel" t.rO
 xf:ax K "_law_acell" Cc t.rP t.vE
 MR:Binds K t.vE ["script","k"] []
 MS:bo mg "_law_acell" t.rP
 n5:ax K "_law_atape" Cd t.rQ t.vF
 zf:Binds K t.vF ["script","k"] []
 zg:bo mg "_law_atape" t.rQ
 gT:ax K "_law_adigit" Ce t.rR t.vG
 jF:Binds K t.vG ["tape","many"] []
 jG:bo mg "_law_adigit" t.rR
 tD:ax K "_law_adivisor" Cf t.rS t.vH
 Gg:Binds K t.vH ["one","other"] []
 Gh:bo mg "_law_adivisor" t.rS
 tE:ax K "_law_aturned" Ci t.rV t.vI
 Gi:Binds K t.vI ["number","p"] []
 Gj:bo mg "_law_aturned" t.rV
 jH:ax K "_law_anumber" Cj t.rW t.vJ
 n8:Binds K t.vJ ["told","top","bottom"] []
 n_:bo mg "_law_anumber" t.rW
 xg:ax K "_law_aplus" Ck t.rX t.vK
 MT:Binds K t.vK ["told","a","b"] []
 MU:bo mg "_law_aplus" t.rX
 tF:ax K "_law_atimes" Cm t.rY t.vL
 Gk:Binds K t.vL ["told","a","b"] []
 Gm:bo mg "_law_atimes" t.rY
 xh:ax K "_law_aless" Cn t.rZ t.vM
 MV:Binds K t.vM ["told","a","b"] []
 MW:bo mg "_law_aless" t.rZ
 xi:ax K "_law_aover" Co t.r6 t.vN
 MX:Binds K t.vN ["told","a","b"] []
 MY:bo mg "_law_aover" t.r6
 xj:ax K "_law_aworld" Cp t.r9 t.vO
 MZ:Binds K t.vO ["tape"] []
 M0:bo mg "_law_aworld" t.r9
 og:ax K "_law_asome" Cq t.r_ t.vP
 zh:Binds K t.vP ["told","tape"] []
 zk:bo mg "_law_asome" t.r_
 iD:ax K "_law_anought" Cr t.sk t.vQ
 lz:Binds K t.vQ ["told"] []
 lA:bo mg "_law_anought" t.sk
 xk:ax K "_law_atable" Cs t.sq t.vR
 M1:Binds K t.vR ["told","tape","size","links"] []
 M3:bo mg "_law_atable" t.sq
 xl:ax K "_law_alinks" Ct t.sr t.vS
 M4:Binds K t.vS ["tape","size"] []
 M5:bo mg "_law_alinks" t.sr
 xn:ax K "_law_aorder" Cu t.sv t.vT
 M6:Binds K t.vT ["tape","size"] []
 M7:bo mg "_law_aorder" t.sv
 xo:ax K "_law_arow" Cv t.sA t.vU
 M8:Binds K t.vU ["told","tape","size"] []
 M9:bo mg "_law_arow" t.sA
 xp:ax K "_law_acarried" Cw t.sC t.vV
 M_:Binds K t.vV ["told","table","row"] []
 Na:bo mg "_law_acarried" t.sC
 xq:ax K "_law_atied" Cy t.sD t.vW
 Nb:Binds K t.vW ["told","table","places"] []
 Nc:bo mg "_law_atied" t.sD
 xr:ax K "_law_afirst_tied" Cz t.sE t.vX
 Nd:Binds K t.vX ["told","table","order"] []
 Nf:bo mg "_law_afirst_tied" t.sE
 xt:ax K "_law_ashape" CA t.sF t.vY
 Ng:Binds K t.vY ["told","table"] []
 Nh:bo mg "_law_ashape" t.sF
 xu:ax K "_law_alater" CB t.sG t.vZ
 Ni:Binds K t.vZ ["size","links","order"] []
 Nj:bo mg "_law_alater" t.sG
 pH:ax K "_law_awhole" CD t.sI t.v_
 CW:Binds K t.v_ ["found"] []
 CY:bo mg "_law_awhole" t.sI
 xv:ax K "_law_ais_number" CF t.sJ t.wc
 Nk:Binds K t.wc ["told","found"] []
 Nl:bo mg "_law_ais_number" t.sJ
 xw:ax K "_law_ais_row" CG t.sL t.we
 Nm:Binds K t.we ["told","found","size"] []
 Nn:bo mg "_law_ais_row" t.sL
 xx:ax K "_law_apiece" CH t.sM t.wg
 Np:Binds K t.wg ["script","start"] []
 Nq:bo mg "_law_apiece" t.sM
 tG:ax K "_law_ais_table" CI t.sN t.wj
 Gn:Binds K t.wj ["told","found","size"] []
 Gp:bo mg "_law_ais_table" t.sN
 xy:ax K "_law_aproduct" CJ t.sO t.wm
 Nr:Binds K t.wm ["told","one","other"] []
 Nt:bo mg "_law_aproduct" t.sO
 xA:ax K "_law_aare_factors" CK t.sP t.wo
 Nu:Binds K t.wo ["told","table","order","lower","upper"] []
 Nv:bo mg "_law_aare_factors" t.sP
 xB:ax K "_law_atold_right" CL t.sQ t.wq
 Nw:Binds K t.wq ["told","table","order","found"] []
 Nx:bo mg "_law_atold_right" t.sQ
 xC:ax K "law" CM t.pF t.sR
 WN:Binds K t.sR ["script"] []
 Ny:bo mg "law" t.pF
 zl:eE K "__init__" "World.__init__" CN t.sS t.wx
 Nz:Binds K t.wx ["self","told"] []
 CZ:Mk K t.bI t.sS
 NA:jt K "of" "World.of" kq 1 t.nY t.zd
 WO:Binds K t.zd ["self","top","bottom"] []
 zm:∃v,Vals [V.int 1] [v]∧Binds K t.zd ["self","top","bottom"] [v]
 WQ:∀(s:Shared) (us ws:List Value),K.In s.heap→ws.length=1→us.length+1=(["self","top","bottom"]:List Str).length→BindsTo s t.zd ⟨us,[("bottom":Str)].zip ws⟩ ((["self","top","bottom"]:List Str).zip (us++ws))
 xD:Meth K t.bI "of" t.nY
 C0:eE K "plus" "World.plus" FZ t.wz t.ze
 WR:Binds K t.ze ["self","a","b"] []
 Gq:Meth K t.bI "plus" t.wz
 zo:eE K "minus" "World.minus" CO t.sW t.wA
 NB:Binds K t.wA ["self","a","b"] []
 C1:Meth K t.bI "minus" t.sW
 zp:eE K "times" "World.times" CP t.sX t.wB
 NC:Binds K t.wB ["self","a","b"] []
 C2:Meth K t.bI "times" t.sX
 zq:eE K "over" "World.over" CQ t.sY t.wC
 ND:Binds K t.wC ["self","a","b"] []
 C3:Meth K t.bI "over" t.sY
 fE:kP K t.bI
 NF:bo mg "World" t.bI
 jI:qo K t.bI "prime"
 NG:bo mg "NoWorld" t.sZ
 C4:bo mg "NoOver" t.jE
 Gr:bo mg "NoFit" t.nZ
 NH:bo mg "NoOrder" t.n4
 WS:mg "ValueError"=none
 C5:mg "abs"=none
 NI:mg "all"=none
 NJ:mg "any"=none
 Gs:mg "bool"=none
 tH:mg "enumerate"=none
 zt:mg "int"=none
 kr:mg "isinstance"=none
 dY:mg "len"=none
 jJ:mg "list"=none
 NK:mg "max"=none
 NL:mg "min"=none
 da:mg "range"=none
 WT:mg "reversed"=none
 C6:mg "sorted"=none
 WU:mg "sum"=none
 xE:mg "tuple"=none
 WV:mg "zip"=none
 NM:∃u,mg "GREATEST_PRIME"=some u∧RelV (.int 997) u
 NN:∃u,mg "LONG"=some u∧RelV (.int 2048) u
 NO:CS K t.sZ
 C7:CS K t.jE
 Gu:CS K t.nZ
 NP:CS K t.n4
section
variable {P:Program} {w:World} {K:aC} {mg:dh} {base:Heap} {t:F0}
theorem WW:aZ ["thing"] ["thing"] (aG BL):=bw
theorem NQ(T:Txt K mg t):aS P w K mg base bH 1 t.qT t.u7 ["thing"] J2:=by
 have S:=WW;refine T.s_.bQ S (fun _ _ _ _ H _ Q _ hr h=>?_);obtain ⟨v,rfl,ha,k⟩:=h;refine ⟨_,(ao (aE (oG (b6 (kU (K:=K)) rfl T.kr boot_isinstance (aa (pv 0) (aa (kJ (v:=.ty "int") rfl T.zt boot_int rfl) ae))) (ue (IQ (b6 (kU (K:=K)) rfl T.kr boot_isinstance (aa (pv 0) (aa (kJ (v:=.ty "bool") rfl T.Gs boot_bool rfl) ae)))))))),?_⟩;obtain ⟨Ty,ty,k1,k2,_⟩:=ha.AY (K:=K);refine ⟨_,rfl,_,_,_,_,rfl,rfl,ty,k1,_,rfl,bS (fun h1=>?_) (fun h1=>?_)⟩
 ·refine ⟨_,rfl,_,_,_,_,rfl,rfl,ty,k2,_,rfl,?_⟩
  have e:(!nJ v)=nH v:=by
   cases h2:nJ v with
   | true=>rw [J1 h2];rfl
   | false=>rw [h2,Bool.or_false] at h1;rw [h1];rfl
  show Q (.bl (!nJ v)) H;rw [e];exact k
 ·have e:nH v=false:=by
   cases h2:nH v with
   | true=>rw [h2] at h1;exact absurd rfl h1
   | false=>rfl
  rw [e] at k;exact k
theorem WX:aZ ["one","other","left","shorter"] ["one","other"] (aG BM):=bw
theorem zu(T:Txt K mg t):aS P w K mg base bH 1 t.qU t.u_ ["one","other"] Sg:=by
 have S:=WX;obtain ⟨uL,hL,rL⟩:=T.NN;refine T.mr.bQ S (fun _ _ _ _ H _ _ _ hr h=>?_);obtain ⟨a,b,rfl,mb,k⟩:=h
 refine ⟨_,(ak (putL 0 S.nd (b6 Ek rfl T.C5 boot_abs (aa (pv 0) ae)))
  (ak (putL 1 S.nd (b6 Ek rfl T.C5 boot_abs (aa (pv 1) ae)))
  (ak (qj cb (aY oK (pv 1) ag) (ak (putL 2 S.nd (aA fq (pv 0) (pv 1)))
  (ak (putL 0 S.nd (pv 1))
  (ak (putL 1 S.nd (pv 2))
  (ao (bK (aY oK (AR PySem.F.plainAttrs_int PySem.F.slot_int_bit_length PySem.F.type_int_bit_length Sa (pv 0)) (IM (v:=.int 2048) rfl hL rL)) PZ bL))))))
  (ao (aE (pv 0)))))),?_⟩
 refine ⟨_,rfl,a,rfl,_,rfl,b,rfl,fun m σ H'=>H'=H∧∃(x y:Nat) (v u:Option V),σ=[some (.int (x:Int)),some (.int (y:Int)),v,u]∧m=y∧y≤b.natAbs∧Nat.gcd x y=Int.gcd a b,⟨b.natAbs,rfl,a.natAbs,b.natAbs,none,none,?_,rfl,aN _,rfl⟩,?_⟩
 ·show [some (V.int (if a<0 then -a else a)),some (V.int (if b<0 then -b else b)),none,none]=_
  rw [EM,EM]
 ·rintro m σ H' ⟨rfl,x,y,v,u,rfl,em,hb,hg⟩
  refine ⟨_,rfl,_,_,rfl,rfl,_,rfl,bS (fun hy=>?_) (fun hy=>?_)⟩
  ·have hy:(0:Int)<y:=dN hy
   refine ⟨fun σ' H2=>H2=H'∧σ'=[some (.int (y:Int)),some (.int (((x % y:Nat)):Int)),some (.int (((x % y:Nat)):Int)),u],?_,?_⟩
   ·rintro σ' H2 ⟨rfl,rfl⟩
    exact ⟨x % y,by rw [em];exact Nat.mod_lt _ (by lia),rfl,y,x % y,_,_,rfl,rfl,aQ (Nat.le_of_lt (Nat.mod_lt _ (by lia))) hb,by rw [Sd];exact hg⟩
   ·have hm:eK (y:Int):=jQ (by rw [yb];exact hb) mb
    have hbt:=Sb hm;refine ⟨_,rfl,_,rfl,_,_,rfl,rfl,hy,_,rfl,_,rfl,_,rfl,rfl,_,rfl,rfl,_,_,rfl,rfl,_,rfl,bS (fun hz=>?_) (fun _=>⟨rfl,rfl⟩)⟩;have hz:=dN hz;exact absurd hz (by lia)
  ·have hy:¬(0:Int)<y:=fun z=>hy (cj z)
   have y0:y=0:=by lia
   subst y0;rw [Nat.gcd_zero_right] at hg;rw [←hg] at k;exact ⟨_,rfl,k⟩
theorem WY:aZ ["number","divisor"] ["number"] (aG BN):=bw
theorem WZ(T:Txt K mg t):aS P w K mg base bH 1 t.qV t.va ["number"] Sh:=by
 have S:=WY;refine T.wI.bQ S (fun _ _ _ _ H _ Q _ hr h=>?_);obtain ⟨n,rfl,W0,ur,k⟩:=h
 refine ⟨_,(ak (putL 1 S.nd ag)
  (ak (qj cb (aY AI (aA gC (pv 1) (pv 1)) (pv 0)) (ak (bK (aY eB (aA fq (pv 0) (pv 1)) ag) (ao (aE d9)) bL)
  (ao (P6 (i:=1) S.nd rfl (Or.inl rfl) ag P9))))
  (ao (aE (lW Qn (pv 0) ag))))),?_⟩
 refine ⟨fun m σ H'=>H'=H∧∃d:Int,σ=[some (.int n),some (.int d)]∧2≤d∧d≤32∧m=(33-d).toNat∧∀e:Int,2≤e→e<d→n % e≠0,⟨_,rfl,2,rfl,by lia,by lia,rfl,fun e a b=>by lia⟩,?_⟩
 rintro m σ H' ⟨rfl,d,rfl,h1,h2,rfl,h3⟩;refine ⟨_,rfl,_,rfl,_,_,rfl,rfl,.inl ⟨by lia,by lia⟩,_,rfl,_,_,rfl,rfl,_,rfl,bS (fun hq=>?_) (fun hq=>?_)⟩
 ·have hq:=dN hq
  have hd:d<32:=by
   by_cases z:d<32;·exact z
   ·have:d=32:=by lia
    subst this;lia
  refine ⟨fun σ' H2=>H2=H'∧σ'=[some (.int n),some (.int (d+1))]∧n % d≠0,?_,?_⟩
  ·rintro σ' H2 ⟨rfl,rfl,hm⟩
   refine ⟨(33-(d+1)).toNat,by lia,rfl,d+1,rfl,by lia,by lia,rfl,fun e a b=>?_⟩
   by_cases z:e=d;·subst z;exact hm
   ·exact h3 e a (by lia)
  ·refine ⟨_,rfl,_,rfl,_,_,rfl,rfl,(show (0:Int)<d by lia),rfl,_,rfl,bS (fun hm=>?_) (fun hm=>?_)⟩
   ·have hm:=V.int.inj (dN hm)
    rw [JY ur h1 hq hm] at k;exact k
   ·exact ⟨_,rfl,_,_,rfl,rfl,rfl,rfl,fun z=>hm (cj (hV V.int z))⟩
 ·have hq:¬d*d≤n:=fun z=>hq (cj z)
  refine ⟨_,rfl,_,_,rfl,rfl,?_⟩;rw [RZ (n:=n) (d:=d) (by lia) h1 h3] at k
  have e:decide ((2:Int)≤n)=true:=cj W0;show Q (.bl (decide ((2:Int)≤n))) H';rw [e];exact k
theorem W9:aZ ["told"] ["told"] (aG Ca):=bw
theorem W_(T:Txt K mg t):aS P w K mg base bH 1 t.rN t.vC ["told"] Si:=by
 have S:=W9;refine T.xb.bQ S (fun _ _ _ _ H _ _ _ hr h=>?_);obtain ⟨p,d,rfl,hp,k⟩:=h;refine ⟨_,(ao (aE (oG (b6 (kU (K:=K)) rfl T.kr boot_isinstance (aa (pv 0) (aa (kJ (v:=.ty "tuple") rfl T.xE boot_tuple rfl) ae))) (oG (lW eB (b6 eC rfl T.dY d8 (aa (pv 0) ae)) ag) (ue (lW eB (aj aM (pv 0) ag) fT)))))),?_⟩;refine ⟨_,rfl,_,_,_,true,rfl,rfl,.of (.tup hp),qD,true,rfl,dQ ?_⟩;cases d with
 | a x=>refine ⟨_,rfl,p,_,rfl,.inr (.of hp),rfl,true,rfl,dQ ?_⟩;refine ⟨_,rfl,p,_,0,.str x,rfl,rfl,.of hp,rfl,rfl,?_⟩;rw [EL];exact k
 | b x n=>exact ⟨_,rfl,p,_,rfl,.inr (.of hp),rfl,false,rfl,bM k⟩
theorem Xa:aZ ["told"] ["told"] (aG Cb):=bw
theorem Xb(T:Txt K mg t):aS P w K mg base bH 2 t.rO t.vD ["told"] Sj:=by
 have S:=Xa;obtain ⟨uG,hG,rG⟩:=T.NM;refine T.xc.bQ S (fun _ _ _ _ H _ _ _ hr h=>?_);obtain ⟨p,d,rfl,hp,k⟩:=h
 refine ⟨_,(ak (bK (PW.pt (pw_or (je (gN (b6 (kU (K:=K)) rfl T.kr boot_isinstance (aa (pv 0) (aa (kJ (v:=.ty "tuple") rfl T.xE boot_tuple rfl) ae))))) (pw_or (aY iq (b6 eC rfl T.dY d8 (aa (pv 0) ae)) ag) (pw_or1 (aY iq (aj aM (pv 0) ag) fT))))) (ao (aE d9)) bL)
  (ao (aE (oG (aB (NQ T) hr T.F9 T.s_.kp T.F8 aD (aa (aj aM (pv 0) ag) ae)) (oG (Jm AI AI ag (aj aM (pv 0) ag) (IM (v:=.int 997) rfl hG rG)) (ue (aB (WZ T) hr T.Ma T.wI.kp T.L_ aD (aa (aj aM (pv 0) ag) ae)))))))),?_⟩
 refine ⟨_,rfl,_,_,_,true,rfl,rfl,.of (.tup hp),qD,true,rfl,bM ?_⟩;cases d with
 | a x=>exact ⟨_,rfl,p,_,rfl,.inr (.of hp),rfl,true,rfl,dQ (dQ k)⟩
 | b x n=>
  refine ⟨_,rfl,p,_,rfl,.inr (.of hp),rfl,false,rfl,bM ?_⟩;refine ⟨_,rfl,p,_,0,.str x,rfl,rfl,.of hp,rfl,rfl,_,rfl,bS (fun hw=>?_) (fun hw=>?_)⟩
  ·have hw:¬x="wheel":=by rw [EL] at hw;simpa using hw
   have e:(Td.b x n).j6=false:=by simp [Td.j6,hw]
   rw [e] at k;exact k
  ·have hw:x="wheel":=by rw [EL] at hw;simpa using hw
   refine ⟨_,rfl,p,_,1,.int n,rfl,rfl,.of hp,rfl,.int n,rfl,.int n,true,rfl,dQ ?_⟩;refine ⟨_,rfl,p,_,1,.int n,rfl,rfl,.of hp,rfl,_,_,rfl,rfl,_,rfl,?_⟩;refine bS (fun h2=>?_) (fun h2=>?_)
   ·have h2:=dN h2
    refine ⟨_,_,rfl,rfl,_,rfl,bS (fun h3=>?_) (fun h3=>?_)⟩
    ·have h3:=dN h3
     refine ⟨_,rfl,p,_,1,.int n,rfl,rfl,.of hp,rfl,n,rfl,h2,h3,?_⟩;have e:(Td.b x n).j6=fz n:=by simp [Td.j6,hw,h2,h3]
     rw [e] at k;exact k
    ·have h3:¬n≤997:=fun z=>h3 (cj z)
     have e:(Td.b x n).j6=false:=by simp [Td.j6,h3]
     rw [e] at k;exact k
   ·have h2:¬2≤n:=fun z=>h2 (cj z)
    have e:(Td.b x n).j6=false:=by simp [Td.j6,h2]
    rw [e] at k;exact ⟨false,rfl,bM k⟩
theorem Xc:aZ ["self","told"] ["self","told"] (aG CN):=bw
theorem Xd(T:Txt K mg t):aS P w K mg base (dR P w) 3 t.sS t.wx ["self","told"] (Sk t.bI t.sZ):=by
 have S:=Xc;refine T.zl.dH S (fun _ _ _ _ H _ _ _ hr h L=>?_);obtain ⟨x,dx,p,d,rfl,hx,hp,k1,k2⟩:=h;refine ⟨_,(ao (bK (gN (aB (W_ T) hr T.MO T.xb.kp T.MN aD (aa (pv 1) ae))) (ao (Jr (pv 0) kI rfl)) (ao (bK (gN (aB (Xb T) hr T.MQ T.xc.kp T.MP aD (aa (pv 1) ae))) (ao (Jr (pv 0) (aj aM (pv 1) ag) rfl)) (ao (qw L rfl p7 T.NO rfl T.NG (aa fT ae))))))),?_⟩;refine ⟨_,rfl,p,d,rfl,hp,_,rfl,bS (fun hF=>?_) (fun hF=>?_)⟩
 ·refine ⟨_,rfl,x,t.bI,dx,[],rfl,hx,T.fE,T.jI,(by show 0<1000;decide),?_⟩
  have e:d.prime=.aI:=by
   cases d with
   | a x=>rfl
   | b x n=>cases hF
  have k:=k1 (by unfold Td.good;rw [hF];rfl)
  rw [e] at k;exact k
 ·have hF:d.yI=false:=by simpa using hF
  refine ⟨_,rfl,p,d,rfl,hp,_,rfl,bS (fun hW=>?_) (fun hW=>?_)⟩
  ·have k:=k1 (by unfold Td.good;rw [hW,Bool.or_true])
   cases d with
   | a x=>cases hW
   | b y n=>exact ⟨_,rfl,p,_,1,.int n,rfl,rfl,.of hp,rfl,_,rfl,x,t.bI,dx,[],rfl,hx,T.fE,T.jI,(by show 0<1000;decide),k⟩
  ·have hW:d.j6=false:=by simpa using hW
   exact ⟨by show 1≤sizeLine;decide,k2 (by unfold Td.good;rw [hF,hW];rfl)⟩
theorem Xe:aZ ["top","bottom","shared"] ["top","bottom"] (aG B4):=bw
theorem Xf(T:Txt K mg t):aS P w K mg base (dR P w) 2 t.rC t.vv ["top","bottom"] (SH t.jE):=by
 have S:=Xe;refine T.wZ.dH S (fun _ _ _ _ H _ _ _ hr h L=>?_);obtain ⟨a,b,rfl,mb,kE,k⟩:=h
 refine ⟨_,(ak (bK (aY eB (pv 1) ag) (ao (qw L rfl p7 T.C7 rfl T.C4 (aa fT ae))) bL)
  (eN.lQ (ak (putL 2 S.nd (aB (zu T) hr T.wH T.mr.kp T.wG aD (aa (pv 0) (aa (pv 1) ae))))
  (ak (bK (aY lV (pv 1) ag) (ao (putL 2 S.nd (AE AH (pv 2)))) bL)
  (ao (aE (fU (aa (aA A2 (pv 0) (pv 2)) (aa (aA A2 (pv 1) (pv 2)) ae))))))))),?_⟩
 have n2:2≤sizeLine:=by decide
 refine ⟨_,rfl,rfl,_,rfl,bS (fun hz=>?_) (fun hz=>?_)⟩
 ·have hz:b=0:=V.int.inj (dN hz)
  exact ⟨by show 1≤sizeLine;decide,kE hz⟩
 have hz:b≠0:=fun z=>hz (cj (by rw [z]))
 have ok:=Sf (a:=a) hz mb;have kk:=k hz;unfold l5 l6 at kk;refine ⟨_,rfl,_,rfl,a,b,rfl,mb,_,rfl,_,_,rfl,rfl,_,rfl,bS (fun hn=>?_) (fun hn=>?_)⟩
 ·have hn:b<0:=dN hn
  have e:lowG a b=-(Int.gcd a b:Int):=by unfold lowG;rw [ar hn,ua]
  rw [e] at ok kk;refine ⟨_,rfl,_,rfl,_,rfl,_,rfl,_,_,rfl,rfl,ok,_,rfl,_,rfl,_,_,rfl,rfl,ok,n2,fun r hr=>kk r _ (bf hr) ay⟩
 ·have hn:¬b<0:=fun z=>hn (cj z)
  have e:lowG a b=(Int.gcd a b:Int):=by unfold lowG;rw [au hn]
  rw [e] at ok kk;refine ⟨_,rfl,_,rfl,_,_,rfl,rfl,ok,_,rfl,_,rfl,_,_,rfl,rfl,ok,n2,fun r hr=>kk r _ (bf hr) ay⟩
theorem Xg:aZ ["prime","number","last","last_times","now","now_times","fits","left","left_times"] ["prime","number"] (aG B9):=bw
theorem Xh(T:Txt K mg t):aS P w K mg base (dR P w) 1 t.rK t.vA ["prime","number"] (Sv t.jE):=by
 have S:=Xg;refine T.xa.dH S (fun _ _ _ _ H _ _ _ hr h L=>?_);obtain ⟨q,b,rfl,q1,q2,q3,b0,b1,kE,k⟩:=h
 refine ⟨_,(ak (bK (aY eB (pv 1) ag) (ao (qw L rfl p7 T.C7 rfl T.C4 (aa fT ae))) bL)
  (eN.lQ (ak (putL 2 S.nd (pv 0))
  (ak (putL 3 S.nd ag)
  (ak (putL 4 S.nd (pv 1))
  (ak (putL 5 S.nd ag)
  (ak (qj cb (aY oK (pv 4) ag) (ak (putL 6 S.nd (aA AG (pv 2) (pv 4)))
  (ak (putL 7 S.nd (aA m6 (pv 2) (aA gC (pv 6) (pv 4))))
  (ak (putL 8 S.nd (aA m6 (pv 3) (aA gC (pv 6) (pv 5))))
  (ak (putL 2 S.nd (pv 4))
  (ak (putL 3 S.nd (pv 5))
  (ak (putL 4 S.nd (pv 7))
  (ao (putL 5 S.nd (pv 8))))))))))
  (ao (aE (aA fq (pv 5) (pv 0))))))))))),?_⟩
 refine ⟨_,rfl,rfl,_,rfl,bS (fun hz=>?_) (fun hz=>?_)⟩
 ·have hz:b=0:=V.int.inj (dN hz)
  exact ⟨by show 1≤sizeLine;decide,kE hz⟩
 have hz:b≠0:=fun z=>hz (cj (by rw [z]))
 refine ⟨_,rfl,_,rfl,fun m σ H'=>H'=H∧∃(l lt n nt:Int) (v1 v2 v3:Option V),σ=[some (.int q),some (.int b),some (.int l),some (.int lt),some (.int n),some (.int nt),v1,v2,v3]∧m=n.toNat∧nK q b l lt n nt∧l≤997,
  ⟨b.toNat,rfl,q,0,b,1,none,none,none,rfl,rfl,nK.start q1 q2 q3 (by lia) b1,q2⟩,?_⟩
 rintro m σ H' ⟨rfl,l,lt,n,nt,v1,v2,v3,rfl,em,hb,hl⟩;have p1:=hb.pos;have p2:=hb.less;refine ⟨_,rfl,_,_,rfl,rfl,_,rfl,bS (fun hy=>?_) (fun hy=>?_)⟩
 ·have hy:1<n:=dN hy
  have hs:=hb.step hy;have f0:0≤l / n:=Ao (by lia) (by lia)
  have f1:l / n≤l:=Int.ediv_le_self _ (by lia)
  refine ⟨fun σ' H2=>H2=H'∧σ'=[some (.int q),some (.int b),some (.int n),some (.int nt),some (.int (l-l / n*n)),some (.int (lt-l / n*nt)),some (.int (l / n)),some (.int (l-l / n*n)),some (.int (lt-l / n*nt))],?_,?_⟩
  ·rintro σ' H2 ⟨rfl,rfl⟩
   exact ⟨(l-l / n*n).toNat,by rw [em];lia,rfl,_,_,_,_,_,_,_,rfl,rfl,hs.1,by lia⟩
  ·exact ⟨_,rfl,_,rfl,_,_,rfl,rfl,⟨by lia,by lia⟩,_,rfl,_,rfl,_,rfl,_,_,rfl,rfl,.inr ⟨by lia,by lia⟩,_,_,rfl,rfl,
    _,rfl,_,rfl,_,rfl,_,_,rfl,rfl,.inl ⟨by lia,by lia⟩,_,_,rfl,rfl,_,rfl,_,rfl,_,rfl,_,rfl,rfl,rfl⟩
 ·have hy:¬1<n:=fun z=>hy (cj z)
  have n1:n=1:=by lia
  subst n1;exact ⟨_,rfl,_,rfl,_,_,rfl,rfl,(show (0:Int)<q by lia),k hz _ (fg _ (by lia)) (fI _ (by lia)) (hb.done q1)⟩
theorem Xi:aZ ["prime","a","b"] ["prime","a","b"] (aG B_):=bw
theorem NR(T:Txt K mg t):aS P w K mg base (dR P w) 2 t.rM t.vB ["prime","a","b"] (Sy t.jE):=by
 have S:=Xi;refine T.tu.dH S (fun _ _ _ _ H _ _ _ hr h L=>?_);obtain ⟨q,i,j,rfl,q1,q2,q3,i0,i1,j0,j1,kE,k⟩:=h;refine ⟨_,(ao (aE (aA fq (aA gC (pv 1) (aB (Xh T) hr T.MM T.xa.kp T.ML (oO L) (aa (pv 0) (aa (pv 2) ae)))) (pv 0)))),?_⟩
 exact ⟨_,rfl,_,rfl,_,rfl,q,j,rfl,q1,q2,q3,j0,j1,kE,fun hj r r0 r1 xF=>⟨_,_,rfl,rfl,.inl ⟨by lia,by lia⟩,_,rfl,_,_,rfl,rfl,(show (0:Int)<q by lia),
  k hj _ (fg _ (by lia)) (fI _ (by lia)) (SD q1 i0 i1 xF)⟩⟩
theorem Xj:aZ ["self","top","bottom"] ["self","top","bottom"] (aG kq):=bw
theorem C8(T:Txt K mg t):aS P w K mg base (dR P w) 3 t.nY t.zd ["self","top","bottom"] (SI t.bI t.jE):=by
 have S:=Xj;refine T.NA.EE S (fun vs H Q E h=>?_) (fun ba A outer s H vs Q E hr h L=>?_)
 ·obtain ⟨z,q,a,b,rfl,_⟩:=h
  rfl
 ·obtain ⟨z,q,a,b,rfl,⟨dx,hx⟩,hq,mb,kE,k⟩:=h
  refine ⟨_,(ak (bK (aY um (lX (pv 0) rfl) kI) (ao (aE (aB (Xf T) hr T.ME T.wZ.kp T.MD (oO L) (aa (pv 1) (aa (pv 2) ae))))) bL)
   (ao (aE (aB (NR T) hr T.Gf T.tu.kp T.Ge (oO L) (aa (lX (pv 0) rfl) (aa (aA fq (pv 1) (lX (pv 0) rfl)) (aa (aA fq (pv 2) (lX (pv 0) rfl)) ae))))))),?_⟩
  refine ⟨_,rfl,z,t.bI,dx,_,_,rfl,hx,T.fE,T.jI,l4 _,rfl,_,rfl,?_⟩;rcases hq with rfl | ⟨q2,q3,q4⟩
  ·rw [ar rfl]
   refine dQ ⟨_,rfl,_,rfl,a,b,rfl,mb,fun hb=>kE (by unfold oW;rw [ar rfl];exact hb),fun hb r H' s' er=>k (fun hn=>hb (by unfold oW at hn;rw [ar rfl] at hn;exact hn)) _ H' s' (.inl ⟨rfl,r,rfl,er⟩)⟩
  ·have hq:q≠0:=by lia
   rw [au hq] at hx ⊢;have p0:(0:Int)<q:=by lia
   refine bM ⟨_,rfl,z,t.bI,dx,_,_,rfl,hx,T.fE,T.jI,l4 _,_,rfl,_,rfl,z,t.bI,dx,_,_,rfl,hx,T.fE,T.jI,l4 _,_,_,rfl,rfl,p0,_,rfl,_,rfl,z,t.bI,dx,_,_,rfl,hx,T.fE,T.jI,l4 _,_,_,rfl,rfl,p0,?_⟩;have nv:oW q b↔b % q=0:=by unfold oW;rw [au hq]
   exact ⟨q,a % q,b % q,rfl,q2,q3,q4,fg _ hq,fI _ p0,fg _ hq,fI _ p0,fun hj=>kE (nv.mpr hj),fun hj r r0 r1 xF=>k (fun z=>hj (nv.mp z)) _ H (af.refl H) (.inr ⟨q2,r,rfl,r0,r1,xF⟩)⟩
theorem Xk:aZ ["a","b","shared","top","again"] ["a","b"] (aG B5):=bw
theorem Xl(T:Txt K mg t):aS P w K mg base bH 2 t.rE t.vw ["a","b"] Sr:=by
 have S:=Xk;refine T.w5.bQ S (fun _ _ _ _ H _ _ _ hr h=>?_);obtain ⟨p,q,x,m,y,n,rfl,hp,hq,la,lb,bx,bm,fF,bn,k⟩:=h
 refine ⟨_,(ak (putL 2 S.nd (aB (zu T) hr T.wH T.mr.kp T.wG aD (aa (aj aM (pv 0) ag) (aa (aj aM (pv 1) ag) ae))))
  (ak (bK (aY eB (pv 2) ag) (ao (aE (fU (aa (aA fo (aA gE (aj aM (pv 0) ag) (aj aM (pv 1) ag)) (aA gE (aj aM (pv 1) ag) (aj aM (pv 0) ag))) (aa (aA gE (aj aM (pv 0) ag) (aj aM (pv 1) ag)) ae))))) bL)
  (ak (putL 3 S.nd (aA fo (aA gE (aj aM (pv 0) ag) (aA nG (aj aM (pv 1) ag) (pv 2))) (aA gE (aj aM (pv 1) ag) (aA nG (aj aM (pv 0) ag) (pv 2)))))
  (ak (putL 4 S.nd (aB (zu T) hr T.wH T.mr.kp T.wG aD (aa (pv 3) (aa (pv 2) ae))))
  (ao (aE (fU (aa (aA nG (pv 3) (pv 4)) (aa (aA gE (aA nG (aj aM (pv 0) ag) (pv 2)) (aA nG (aj aM (pv 1) ag) (pv 4))) ae))))))))),?_⟩
 have n2:2≤sizeLine:=by decide
 have m0:=la.pos;have n0:=lb.pos;refine ⟨_,rfl,p,_,_,_,rfl,rfl,.of hp,rfl,_,rfl,q,_,_,_,rfl,rfl,.of hq,rfl,m,n,rfl,bn.mid,?_⟩;have gp:(0:Int)<(Int.gcd m n:Int):=A7 (by lia)
 have gb:b8 (Int.gcd m n:Int):=bn.gcd (by lia)
 refine ⟨_,rfl,rfl,_,rfl,bS (fun e=>?_) (fun _=>?_)⟩
 ·have e:Int.gcd m n=1:=by have z:=dN e;have z:=V.int.inj z;lia
  exact ⟨_,rfl,p,_,_,_,rfl,rfl,.of hp,rfl,_,rfl,q,_,_,_,rfl,rfl,.of hq,rfl,_,_,rfl,rfl,⟨bx.mid,bn.mid⟩,
   _,rfl,q,_,_,_,rfl,rfl,.of hq,rfl,_,rfl,p,_,_,_,rfl,rfl,.of hp,rfl,_,_,rfl,rfl,⟨fF.mid,bm.mid⟩,_,_,rfl,rfl,
   _,rfl,p,_,_,_,rfl,rfl,.of hp,rfl,_,rfl,q,_,_,_,rfl,rfl,.of hq,rfl,_,_,rfl,rfl,⟨bm.mid,bn.mid⟩,n2,fun r hr=>k r _ _ _ (bf hr) ay (Sm la lb e) rfl⟩
 refine ⟨_,rfl,p,_,_,_,rfl,rfl,.of hp,rfl,_,rfl,q,_,_,_,rfl,rfl,.of hq,rfl,_,rfl,_,_,rfl,rfl,⟨gp,gb.mid⟩,_,_,rfl,rfl,⟨bx.mid,bn.over.mid⟩,
  _,rfl,q,_,_,_,rfl,rfl,.of hq,rfl,_,rfl,p,_,_,_,rfl,rfl,.of hp,rfl,_,rfl,_,_,rfl,rfl,⟨gp,gb.mid⟩,_,_,rfl,rfl,⟨fF.mid,bm.over.mid⟩,_,_,rfl,rfl,?_⟩
 refine ⟨_,rfl,_,rfl,_,_,rfl,gb.mid,?_⟩;have ap:(0:Int)<(Int.gcd (x*(n / (Int.gcd m n:Int))+y*(m / (Int.gcd m n:Int))) (Int.gcd m n:Int):Int):=A7 (by lia)
 have ab:b8 (Int.gcd (x*(n / (Int.gcd m n:Int))+y*(m / (Int.gcd m n:Int))) (Int.gcd m n:Int):Int):=gb.gcd (by lia)
 have z:=Sn la lb _ _ rfl _ rfl rfl
 exact ⟨_,rfl,_,rfl,_,_,rfl,rfl,⟨ap,ab.mid⟩,_,rfl,p,_,_,_,rfl,rfl,.of hp,rfl,_,rfl,_,_,rfl,rfl,⟨gp,gb.mid⟩,_,rfl,q,_,_,_,rfl,rfl,.of hq,rfl,_,rfl,_,_,rfl,rfl,⟨ap,ab.mid⟩,_,_,rfl,rfl,⟨bm.over.mid,bn.over.mid⟩,n2,
  fun r hr=>k r _ _ _ (bf hr) ay z.1 z.2⟩
theorem Xm:aZ ["a","b"] ["a","b"] (aG B6):=bw
theorem Xn(T:Txt K mg t):aS P w K mg base bH 3 t.rF t.vx ["a","b"] Ss:=by
 have S:=Xm;refine T.w9.bQ S (fun _ _ _ _ H _ _ _ hr h=>?_);obtain ⟨p,q,x,m,y,n,rfl,hp,hq,la,lb,bx,bm,fF,bn,k⟩:=h;refine ⟨_,(ao (aE (aB (Xl T) hr T.MG T.w5.kp T.MF aD (aa (pv 0) (aa (fU (aa (AE AH (aj aM (pv 1) ag)) (aa (aj aM (pv 1) ag) ae))) ae))))),?_⟩
 exact ⟨_,rfl,_,rfl,q,_,_,_,rfl,rfl,.of hq,rfl,_,rfl,_,rfl,q,_,_,_,rfl,rfl,.of hq,rfl,by show 2≤sizeLine;decide,fun r hr=>⟨p,r,x,m,-y,n,rfl,bf hr _ _ hp,ay,la,lb.neg,bx,bm,fF.neg,bn,
  fun r' H' u d s' e l z=>k r' H' u d ((bf hr).trans s') e l (by rw [z,t_,Int.sub_eq_add_neg])⟩⟩
theorem Xo:aZ ["a","b","first","second"] ["a","b"] (aG B7):=bw
theorem Gv(T:Txt K mg t):aS P w K mg base bH 2 t.rH t.vy ["a","b"] Su:=by
 have S:=Xo;refine T.pG.bQ S (fun _ _ _ _ H _ _ _ hr h=>?_);obtain ⟨p,q,x,m,y,n,rfl,hp,hq,la,lb,bx,bm,fF,bn,k⟩:=h
 refine ⟨_,(ak (putL 2 S.nd (aB (zu T) hr T.wH T.mr.kp T.wG aD (aa (aj aM (pv 0) ag) (aa (aj aM (pv 1) ag) ae))))
  (ak (putL 3 S.nd (aB (zu T) hr T.wH T.mr.kp T.wG aD (aa (aj aM (pv 1) ag) (aa (aj aM (pv 0) ag) ae))))
  (ao (aE (fU (aa (aA gE (aA nG (aj aM (pv 0) ag) (pv 2)) (aA nG (aj aM (pv 1) ag) (pv 3))) (aa (aA gE (aA nG (aj aM (pv 0) ag) (pv 3)) (aA nG (aj aM (pv 1) ag) (pv 2))) ae))))))),?_⟩
 have n2:2≤sizeLine:=by decide
 have m0:=la.pos;have n0:=lb.pos;have gp:(0:Int)<(Int.gcd x n:Int):=A7 (by lia)
 have gb:b8 (Int.gcd x n:Int):=bn.gcd (by lia)
 have ap:(0:Int)<(Int.gcd y m:Int):=A7 (by lia)
 have ab:b8 (Int.gcd y m:Int):=bm.gcd (by lia)
 refine ⟨_,rfl,p,_,_,_,rfl,rfl,.of hp,rfl,_,rfl,q,_,_,_,rfl,rfl,.of hq,rfl,x,n,rfl,bn.mid,?_⟩;refine ⟨_,rfl,q,_,_,_,rfl,rfl,.of hq,rfl,_,rfl,p,_,_,_,rfl,rfl,.of hp,rfl,y,m,rfl,bm.mid,?_⟩;have z:=Sl la lb
 exact ⟨_,rfl,p,_,_,_,rfl,rfl,.of hp,rfl,_,rfl,_,_,rfl,rfl,⟨gp,gb.mid⟩,_,rfl,q,_,_,_,rfl,rfl,.of hq,rfl,_,rfl,_,_,rfl,rfl,⟨ap,ab.mid⟩,_,_,rfl,rfl,⟨bx.over.mid,fF.over.mid⟩,
  _,rfl,p,_,_,_,rfl,rfl,.of hp,rfl,_,rfl,_,_,rfl,rfl,⟨ap,ab.mid⟩,_,rfl,q,_,_,_,rfl,rfl,.of hq,rfl,_,rfl,_,_,rfl,rfl,⟨gp,gb.mid⟩,_,_,rfl,rfl,⟨bm.over.mid,bn.over.mid⟩,n2,
  fun r hr=>k r _ _ _ (bf hr) ay z.1 z.2⟩
theorem Xp:aZ ["a","b"] ["a","b"] (aG B8):=bw
theorem Xq(T:Txt K mg t):aS P w K mg base (dR P w) 3 t.rJ t.vz ["a","b"] (Sx t.jE):=by
 have S:=Xp;refine T.w_.dH S (fun _ _ _ _ H _ _ _ hr h L=>?_);obtain ⟨p,q,x,m,y,n,rfl,hp,hq,la,lb,bx,bm,fF,bn,kE,k⟩:=h
 refine ⟨_,(ak (bK (aY eB (aj aM (pv 1) ag) ag) (ao (qw L rfl p7 T.C7 rfl T.C4 (aa fT ae))) bL)
  (eN.lQ (ak (bK (aY lV (aj aM (pv 1) ag) ag) (ao (aE (aB (Gv T) hr T.CV T.pG.kp T.CU aD (aa (pv 0) (aa (fU (aa (AE AH (aj aM (pv 1) ag)) (aa (AE AH (aj aM (pv 1) ag)) ae))) ae))))) bL)
  (ao (aE (aB (Gv T) hr T.CV T.pG.kp T.CU aD (aa (pv 0) (aa (fU (aa (aj aM (pv 1) ag) (aa (aj aM (pv 1) ag) ae))) ae)))))))),?_⟩
 have n2:2≤sizeLine:=by decide
 refine ⟨_,rfl,q,_,_,_,rfl,rfl,.of hq,rfl,rfl,_,rfl,bS (fun hz=>?_) (fun hz=>?_)⟩
 ·have hz:y=0:=V.int.inj (dN hz)
  exact ⟨by show 1≤sizeLine;decide,kE hz⟩
 have hz:y≠0:=fun z=>hz (cj (by rw [z]))
 refine ⟨_,rfl,q,_,_,_,rfl,rfl,.of hq,rfl,_,_,rfl,rfl,_,rfl,bS (fun hn=>?_) (fun hn=>?_)⟩
 ·have hn:y<0:=dN hn
  exact ⟨_,rfl,_,rfl,q,_,_,_,rfl,rfl,.of hq,rfl,_,rfl,_,rfl,q,_,_,_,rfl,rfl,.of hq,rfl,_,rfl,n2,fun r hr=>⟨p,r,x,m,-n,-y,rfl,bf hr _ _ hp,ay,la,SA lb hn,bx,bm,bn.neg,fF.neg,
   fun r' H' u d s' e l z=>k hz r' H' u d ((bf hr).trans s') e l (by rw [lI,lI,lI,t_] at z;omega)⟩⟩
 ·have hn:¬y<0:=fun z=>hn (cj z)
  exact ⟨_,rfl,_,rfl,q,_,_,_,rfl,rfl,.of hq,rfl,_,rfl,q,_,_,_,rfl,rfl,.of hq,rfl,n2,fun r hr=>⟨p,r,x,m,n,y,rfl,bf hr _ _ hp,ay,la,Sz lb (by lia),bx,bm,bn,fF,
   fun r' H' u d s' e l z=>k hz r' H' u d ((bf hr).trans s') e l z⟩⟩
theorem Xr:aZ ["self","a","b"] ["self","a","b"] (aG CO):=bw
theorem Xs(T:Txt K mg t):aS P w K mg base bH 4 t.sW t.wA ["self","a","b"] (qF t.bI (fun x m y n=>x*n-y*m) (fun i j=>i-j)):=by
 have S:=Xr;refine T.zo.bQ S (fun _ _ _ _ H _ _ _ hr h=>?_);obtain ⟨z,q,v,u,rfl,⟨dx,hx⟩,hc⟩:=h
 refine ⟨_,(ak (bK (aY um (lX (pv 0) rfl) kI) (ao (aE (aB (Xn T) hr T.MI T.w9.kp T.MH aD (aa (pv 1) (aa (pv 2) ae))))) bL)
  (ao (aE (aA fq (aA m6 (pv 1) (pv 2)) (lX (pv 0) rfl))))),?_⟩
 refine ⟨_,rfl,z,t.bI,dx,_,_,rfl,hx,T.fE,T.jI,l4 _,rfl,_,rfl,?_⟩;rcases hc with ⟨rfl,p,r,x,m,y,n,rfl,rfl,h1⟩ | ⟨q2,i,j,rfl,rfl,i0,i1,k⟩
 ·rw [ar rfl]
  exact dQ ⟨_,rfl,_,rfl,p,r,x,m,y,n,rfl,h1⟩
 ·have hq:q≠0:=by lia
  rw [au hq] at hx ⊢;exact bM ⟨_,rfl,_,rfl,_,_,rfl,rfl,_,rfl,z,t.bI,dx,_,_,rfl,hx,T.fE,T.jI,l4 _,_,_,rfl,rfl,(show (0:Int)<q by lia),k⟩
theorem Xt:aZ ["self","a","b"] ["self","a","b"] (aG CP):=bw
theorem Xu(T:Txt K mg t):aS P w K mg base bH 4 t.sX t.wB ["self","a","b"] (qF t.bI (fun x m y n=>x*y) (fun i j=>i*j)):=by
 have S:=Xt;refine T.zp.bQ S (fun _ _ _ _ H _ _ _ hr h=>?_);obtain ⟨z,q,v,u,rfl,⟨dx,hx⟩,hc⟩:=h
 refine ⟨_,(ak (bK (aY um (lX (pv 0) rfl) kI) (ao (aE (aB (Gv T) hr T.CV T.pG.kp T.CU aD (aa (pv 1) (aa (pv 2) ae))))) bL)
  (ao (aE (aA fq (aA gC (pv 1) (pv 2)) (lX (pv 0) rfl))))),?_⟩
 refine ⟨_,rfl,z,t.bI,dx,_,_,rfl,hx,T.fE,T.jI,l4 _,rfl,_,rfl,?_⟩;rcases hc with ⟨rfl,p,r,x,m,y,n,rfl,rfl,h1⟩ | ⟨q2,i,j,rfl,rfl,i0,i1,k⟩
 ·rw [ar rfl]
  exact dQ ⟨_,rfl,_,rfl,p,r,x,m,y,n,rfl,h1⟩
 ·have hq:q≠0:=by lia
  rw [au hq] at hx ⊢;exact bM ⟨_,rfl,_,rfl,_,_,rfl,rfl,.inl ⟨by lia,by lia⟩,_,rfl,z,t.bI,dx,_,_,rfl,hx,T.fE,T.jI,l4 _,_,_,rfl,rfl,(show (0:Int)<q by lia),k⟩
theorem Xv:aZ ["self","a","b"] ["self","a","b"] (aG CQ):=bw
theorem Xw(T:Txt K mg t):aS P w K mg base (dR P w) 4 t.sY t.wC ["self","a","b"] (ES t.bI t.jE):=by
 have S:=Xv;refine T.zq.dH S (fun _ _ _ _ H _ _ _ hr h L=>?_);obtain ⟨z,q,v,u,rfl,⟨dx,hx⟩,hc⟩:=h
 refine ⟨_,(ak (bK (aY um (lX (pv 0) rfl) kI) (ao (aE (aB (Xq T) hr T.MK T.w_.kp T.MJ (oO L) (aa (pv 1) (aa (pv 2) ae))))) bL)
  (ao (aE (aB (NR T) hr T.Gf T.tu.kp T.Ge (oO L) (aa (lX (pv 0) rfl) (aa (pv 1) (aa (pv 2) ae))))))),?_⟩
 refine ⟨_,rfl,z,t.bI,dx,_,_,rfl,hx,T.fE,T.jI,l4 _,rfl,_,rfl,?_⟩;rcases hc with ⟨rfl,p,r,x,m,y,n,rfl,rfl,h1⟩ | ⟨q2,i,j,rfl,rfl,h1⟩
 ·rw [ar rfl]
  exact dQ ⟨_,rfl,_,rfl,p,r,x,m,y,n,rfl,h1⟩
 ·have hq:q≠0:=by lia
  rw [au hq] at hx ⊢;exact bM ⟨_,rfl,z,t.bI,dx,_,_,rfl,hx,T.fE,T.jI,l4 _,_,rfl,_,rfl,q,i,j,rfl,q2,h1⟩
theorem Xx:aZ ["world","work","place","others","head","i","row","j"] ["world","work","place","others"] (aG BX):=bw
theorem Xy(T:Txt K mg t):aS P w K mg base bH 5 t.rj t.vk ["world","work","place","others"] (UY t.bI):=by
 have S:=Xx;have Xz:=Xw (P:=P) (w:=w) (base:=base) T;have XA:=Xs (P:=P) (w:=w) (base:=base) T;have XB:=Xu (P:=P) (w:=w) (base:=base) T;refine T.wR.bQ S (fun _ A _ _ H _ _ _ hr h=>?_);obtain ⟨z,a,b,q,n,X,p,rs,vf,ms,Tw,U,T',U',rfl,hw,hq,hW,eb,bz,pn,Gw,nd,xG,X1,iY,hF,hB,gr,kk⟩:=h
 refine ⟨_,(ak (putL 4 S.nd (aj a9 (pv 1) (pv 2)))
  (ao (cI cb rfl (d_ (pv 3)) (bP (i:=5) S.nd rfl (Or.inl rfl))
   (ak (putL 6 S.nd (aj a9 (pv 1) (pv 5)))
  (ak (@ig _ _ _ _ _ _ (oN (pv 0) T.fE T.C3 Xz (hr.mono (by decide)) T.ND .nil m9 (aa (aj a9 (pv 6) (pv 2)) (aa (aj a9 (pv 4) (pv 2)) ae))) (jf (pv 6) (pv 2) set_list) (by rfl) (by rfl) (by rfl))
  (ao (cI cb rfl (d_ (pv 3)) (bP (i:=7) S.nd rfl (Or.inl rfl))
   (ao (@ig _ _ _ _ _ _ (oN (pv 0) T.fE T.C1 XA (hr.mono (by decide)) T.NB .nil aD (aa (aj a9 (pv 6) (pv 7)) (aa (oN (pv 0) T.fE T.C2 XB (hr.mono (by decide)) T.NC .nil aD (aa (aj a9 (pv 6) (pv 2)) (aa (aj a9 (pv 4) (pv 7)) ae))) ae))) (jf (pv 6) (pv 7) set_list) (by rfl) (by rfl) (by rfl)))))))))),?_⟩
 obtain ⟨dz,hz⟩:=id hw;have zr:∀{Hx:Hp},fQ n rs H Hx→dU t.bI Hx z q:=fun{Hx} o=>⟨dz,o z _ (fun i hi=>(bz i hi).2) hz⟩;have br:∀{Hx:Hp},fQ n rs H Hx→Hx b=some (.lst (cm ms)):=fun{Hx} o=>o b _ (fun i hi=>(bz i hi).1) eb;have zw:X≤10 ^ 300:=aQ iY (by decide +kernel)
 have XX:X*X≤10 ^ 300:=aQ (fJ iY iY) (by decide +kernel)
 refine aw fun _ hR=>a8 ⟨_,rfl,_,rfl,a,_,_,_,rfl,rfl,.of hW.lst,bD pn,hR _ _ ?_⟩;refine ⟨_,rfl,b,rfl,⟨_,.of eb⟩,?_⟩;refine jg (K:=K) (a:=b) (xs:=cm ms) (fun k σ Hc=>∃(fD:Nat→Nat→V) (v5 v6 v7:Option V),σ=[some (.ref z),some (.ref a),some (.int (p:Int)),some (.ref b),some (.ref (rs p)),v5,v6,v7]∧fQ n rs H Hc∧WTab Hc a n rs fD∧dj X Hc q n fD (eY (fun i _=>decide (i∈ms.take k)) Tw T') (eY (fun i _=>decide (i∈ms.take k)) U U')) ⟨vf,_,_,_,rfl,fQ.refl _ _ _,hW,hF.to fun i j _ _=>⟨cJ (by simp),cJ (by simp)⟩⟩ (fun k σ Hc _ ⟨_,_,_,_,_,oc,_⟩=>.of (br oc)) ?_ ?_
 ·rintro k x σ Hc hx ⟨fD,v5,v6,v7,rfl,oc,Wc,Fc⟩
  obtain ⟨i,hi,rfl⟩:=int_at hx;have im:=pV hi;obtain ⟨du,ip⟩:=Gw i im;have ik:=Ln nd hi;have pk:p∉ms.take k:=fun z=>(Gw p (List.mem_of_mem_take z)).2 rfl;have fi:decide (i∈ms.take k)=false:=dc ik;have fp:decide (p∈ms.take k)=false:=dc pk;dsimp only [bR];refine aw fun _ hR=>a8 ⟨_,rfl,_,rfl,a,_,_,_,rfl,rfl,.of Wc.lst,bD du,hR _ _ ?_⟩;have tI:=Fc i p du pn;have Gx:=Fc p p pn pn;rw [cJ fi,cJ fi] at tI;rw [cJ fp,cJ fp] at Gx;obtain ⟨C9,C_⟩:=zr oc;refine aw fun _ hR=>a8 ⟨_,rfl,z,C9,_,rfl,C_,oR (by decide +kernel),_,rfl,_,rfl,rs i,_,_,_,rfl,rfl,.of (Wc.at' i du),bD pn,_,rfl,_,rfl,rs p,_,_,_,rfl,rfl,.of (Wc.at' p pn),bD pn,?_⟩
  dsimp only [qr];show ES t.bI t.jE [.ref z,fD i p,fD p p] _ _ _;refine UX (Y':=(Tw i p*U p p).natAbs+(U i p*Tw p p).natAbs) (zr oc) hq tI Gx zw zw gr.jz (by lia) (by lia) fun v' H1 s1 w1=>?_
  have W1:=Wc.mono s1;have w1:=(w1.eq hq (gr.low i im) (gr.nz i p du pn)).bd (gr.bt i p du pn).1 (gr.bt i p du pn).2;refine ⟨_,rfl,_,rfl,rs i,_,_,p,rfl,rfl,W1.at' i du,by rw [aX,cN];exact ke pn,hR _ _ ?_⟩
  have W2:=W1.put (j:=p) v' du;have Dc:fQ n rs H (upd H1 (rs i) (.lst (((List.range n).map (fD i)).set p v'))):=(oc.same s1).put du;have F2:dj X (upd H1 (rs i) (.lst (((List.range n).map (fD i)).set p v'))) q n (ki fD i p v') (eY (fun i' j'=>decide (i'∈ms.take k) || (decide (i'=i) && (decide (j'=p) || decide (j'∈ms.take 0)))) Tw T') (eY (fun i' j'=>decide (i'∈ms.take k) || (decide (i'=i) && (decide (j'=p) || decide (j'∈ms.take 0)))) U U'):=Fc.put (fun v t u h=>(h.mono s1).put (W1.at' i du)) (by rw [dX (by simp),dX (by simp)];exact w1.put (W1.at' i du)) fun i' j' _ _ ne=>by
   by_cases h1:i'∈ms.take k
   ·rw [dX (by simp [h1]),dX (by simp [h1]),dX (by simp [h1]),dX (by simp [h1])]
    exact ⟨rfl,rfl⟩
   ·by_cases h2:i'=i
    ·have h3:j'≠p:=fun z=>ne ⟨h2,z⟩
     rw [cJ (by simp [h1,h3]),cJ (by simp [h1]),cJ (by simp [h1,h3]),cJ (by simp [h1])]
     exact ⟨rfl,rfl⟩
    ·rw [cJ (by simp [h1,h2]),cJ (by simp [h1]),cJ (by simp [h1,h2]),cJ (by simp [h1])]
     exact ⟨rfl,rfl⟩
  generalize upd H1 (rs i) (.lst (((List.range n).map (fD i)).set p v'))=H2 at W2 Dc F2 ⊢;refine ⟨_,rfl,b,rfl,⟨_,.of (br Dc)⟩,?_⟩;refine jg (K:=K) (a:=b) (xs:=cm ms) (fun l σ Hd=>∃(pI:Nat→Nat→V) (v7:Option V),σ=[some (.ref z),some (.ref a),some (.int (p:Int)),some (.ref b),some (.ref (rs p)),some (.int (i:Int)),some (.ref (rs i)),v7]∧fQ n rs H Hd∧WTab Hd a n rs pI∧dj X Hd q n pI (eY (fun i' j'=>decide (i'∈ms.take k) || (decide (i'=i) && (decide (j'=p) || decide (j'∈ms.take l)))) Tw T') (eY (fun i' j'=>decide (i'∈ms.take k) || (decide (i'=i) && (decide (j'=p) || decide (j'∈ms.take l)))) U U')) ⟨_,_,rfl,Dc,W2,F2⟩ (fun l σ Hd _ ⟨_,_,_,od,_⟩=>.of (br od)) ?_ ?_
  ·clear F2 W2 Dc w1 W1 tI Gx Fc Wc oc
   rintro l x σ Hd hx ⟨pI,v7,rfl,od,Wd,Fd⟩;obtain ⟨j,hj,rfl⟩:=int_at hx;have jm:=pV hj;obtain ⟨jB,jp⟩:=Gw j jm;have jl:=Ln nd hj;have xH:=Fd i j du jB;have tI:=Fd i p du pn;have Gy:=Fd p j pn jB;rw [cJ (by simp [ik,jp,jl]),cJ (by simp [ik,jp,jl])] at xH
   rw [dX (by simp),dX (by simp)] at tI
   rw [cJ (by simp [pk,Ne.symm ip]),cJ (by simp [pk,Ne.symm ip])] at Gy
   obtain ⟨C9,C_⟩:=zr od;dsimp only [bR];refine a8 ⟨_,rfl,z,C9,_,rfl,C_,oR (by decide +kernel),_,rfl,_,rfl,rs i,_,_,_,rfl,rfl,.of (Wd.at' i du),bD jB,_,rfl,z,C9,_,rfl,C_,oR (by decide +kernel),_,rfl,_,rfl,rs i,_,_,_,rfl,rfl,.of (Wd.at' i du),bD pn,_,rfl,_,rfl,rs p,_,_,_,rfl,rfl,.of (Wd.at' p pn),bD jB,?_⟩
   have oh:=tI.choose_spec.choose_spec.2.2;have tJ:=Gy.choose_spec.choose_spec.2.2;have XC:=xH.choose_spec.choose_spec.2.2;dsimp only [qr];show qF t.bI (fun x m y n=>x*y) (fun i j=>i*j) [.ref z,pI i p,pI p j] _ _ _;refine UW (Y':=(T' i p*Tw p j).natAbs+(U' i p*U p j).natAbs) (zr od) hq tI Gy zw zw (eX hq oh tJ) (by lia) (by lia) fun v1 H1 s1 w1=>?_
   have w1:aH (X*X) H1 q v1 (T' i p*Tw p j) (U' i p*U p j):=w1.bd (by rw [dC];exact fJ (gr.bt i p du pn).1 (hB p j pn jB).1) (by rw [dC];exact fJ (gr.bt i p du pn).2 (hB p j pn jB).2)
   show qF t.bI (fun x m y n=>x*n-y*m) (fun i j=>i-j) [.ref z,pI i j,v1] _ _ _;refine UU (Y':=(Tw i j*(U' i p*U p j)-T' i p*Tw p j*U i j).natAbs+(U i j*(U' i p*U p j)).natAbs) (zr (od.same s1)) hq (xH.mono s1) w1 zw XX (eX hq XC (eX hq oh tJ)) (by lia) (by lia) fun v2 H2 s2 w2=>?_
   have W1:=Wd.mono (s1.trans s2);have w2:=(w2.eq hq (gr.ent i im j jm) (gr.nz i j du jB)).bd (gr.bt i j du jB).1 (gr.bt i j du jB).2;refine ⟨_,rfl,_,rfl,rs i,_,_,j,rfl,rfl,W1.at' i du,by rw [aX,cN];exact ke jB,?_⟩
   refine ⟨_,_,rfl,(od.same (s1.trans s2)).put du,W1.put (j:=j) v2 du,Fd.put (fun v t u h=>(h.mono (s1.trans s2)).put (W1.at' i du)) (by rw [dX (by simp [take_snoc hj]),dX (by simp [take_snoc hj])];exact w2.put (W1.at' i du)) fun i' j' _ _ ne=>?_⟩
   have ej:(fun i' j'=>decide (i'∈ms.take k) || (decide (i'=i) && (decide (j'=p) || decide (j'∈ms.take (l+1))))) i' j'=(fun i' j'=>decide (i'∈ms.take k) || (decide (i'=i) && (decide (j'=p) || decide (j'∈ms.take l)))) i' j':=by
    dsimp only;by_cases h2:i'=i
    ·have h3:j'≠j:=fun z=>ne ⟨h2,z⟩
     rw [take_snoc hj];simp [h3]
    ·simp [h2]
   constructor <;> (unfold eY;rw [ej])
  ·rintro σ Hd ⟨pI,v7,rfl,od,Wd,Fd⟩
   refine ⟨pI,_,_,_,rfl,od,Wd,Fd.Lo hq fun i' j' c_ dr=>?_⟩;have ll:(cm ms).length=ms.length:=aX _;rw [ll,oF,take_snoc hi];by_cases h1:i'∈ms.take k
   ·refine .inl ?_
    rw [dX (by simp [h1]),dX (by simp [h1]),dX (by simp [h1]),dX (by simp [h1])]
    exact ⟨rfl,rfl⟩
   ·by_cases h2:i'=i
    ·subst h2
     by_cases h3:j'=p∨j'∈ms
     ·refine .inl ?_
      rw [dX (by simp),dX (by simpa [h1] using h3),dX (by simp),dX (by simpa [h1] using h3)]
      exact ⟨rfl,rfl⟩
     ·rw [not_or] at h3
      refine .inr ?_;have a1:∀A A':Nat→Nat→Int,eY (fun i _=>decide (i∈ms.take k++[i'])) A A' i' j'=A' i' j':=fun A A'=>dX (by simp)
      have a2:∀A A':Nat→Nat→Int,eY (fun NS NT=>decide (NS∈ms.take k) || (decide (NS=i') && (decide (NT=p) || decide (NT∈ms)))) A A' i' j'=A i' j':=fun A A'=>cJ (by simp [h1,h3.1,h3.2])
      rw [a1,a1,a2,a2];exact ⟨gr.Lm i' j' c_ dr (.inr h3),gr.nz i' j' c_ dr,gr.bt i' j' c_ dr⟩
    ·refine .inl ?_
     rw [cJ (by simp [h1,h2]),cJ (by simp [h1,h2]),cJ (by simp [h1,h2]),cJ (by simp [h1,h2])]
     exact ⟨rfl,rfl⟩
 ·rintro σ Hc ⟨fD,v5,v6,v7,rfl,oc,Wc,Fc⟩
  have ll:(cm ms).length=ms.length:=aX _;rw [ll,oF] at Fc;refine kk Hc fD oc Wc (Fc.Lo hq fun i' j' c_ dr=>?_);by_cases h1:i'∈ms
  ·refine .inl ?_
   rw [dX (by simp [h1]),dX (by simp [h1])]
   exact ⟨rfl,rfl⟩
  ·refine .inr ?_
   rw [cJ (by simp [h1]),cJ (by simp [h1])]
   exact ⟨gr.Lm i' j' c_ dr (.inl h1),gr.nz i' j' c_ dr,gr.bt i' j' c_ dr⟩
theorem XD:aZ ["table","wide"] ["table"] (aG BJ):=bw
theorem XE(T:Txt K mg t):aS P w K mg base (dR P w) 1 t.qQ t.u5 ["table"] (TH t.nZ):=by
 have S:=XD;refine T.wD.dH S (fun _ _ _ _ H vs _ _ hr h L=>?_);obtain ⟨a,q,B,ah,m,rfl,⟨vs,ea,hl,hn⟩,h1,zx,hm,k⟩:=h
 refine ⟨_,(ak (bK (aY eB (b6 eC rfl T.dY d8 (aa (pv 0) ae)) ag) (ao (aE ag)) bL)
  (ak (A4 1 S.nd (b6 eC rfl T.dY d8 (aa (aj a9 (pv 0) ag) ae)))
  (ak (bK (gN (b6 (SS (K:=K) rfl) rfl T.NJ boot_any (aa (j8 (N:=["row","wide"]) (ρ:=(fun σ=>[σ[1]?.join])) (eV [1] rfl) rfl (d_ (pv 0)) (fun _ _ _=>.nil) (fun _ _ _=>(lW iq (b6 (Tb (K:=K)) rfl T.dY d8 (aa (pv 0) ae)) (pv 1)))) ae))) (ao (qw L rfl p7 T.Gu rfl T.Gr (aa fT ae))) bL)
  (ao (aE (pv 1)))))),?_⟩
 have h0:0<vs.length:=by lia
 refine ⟨_,rfl,a,vs,rfl,.inl (.of ea),rfl,false,by rw [f_,dc (by lia)],bM ?_⟩
 have XF:0<ah.length:=by lia
 obtain ⟨r,er,us,eu,lu,_⟩:=hn 0 vs[0] ah[0] (by simp [h0]) (by simp [XF])
 have hm0:=hm ah[0] (fj ..);refine ⟨_,rfl,a,vs,_,vs[0],rfl,rfl,.of ea,(by exact jo (j:=0) (by simp [h0])),r,us,by rw [er],.inl (.of eu),?_⟩
 have em:(us.length:Int)=(m:Int):=by lia
 rw [em];dsimp only [bR];have XG:∀(i:Nat) (v:V),vs[i]?=some v→∃(r:Addr) (us:List V),v=.ref r∧H r=some (.lst us)∧us.length=m:=fun i v e=>by
  have c_:i<ah.length:=by rw [←hl];exact (bZ.mp e).1
  obtain ⟨r,e1,us,e2,e3,_⟩:=hn i v ah[i] e (by simp [c_])
  exact ⟨r,us,e1,e2,by rw [e3];exact hm _ (fj ..)⟩
 refine oX (Tf (Tg (EW (A_ (xs:=vs) (fun R h=>⟨_,rfl,a,rfl,⟨_,.of ea⟩,h _ _ (af.refl _) (j_ (.of ea))⟩) (by rw [hl];exact cB (by lia)) (fun _ i y _=>y=.bl false) (fun _ _ _ _ _ _ h _ _=>h) ?_ ?_))))
 ·intro D i v hi Hc R sc _ kc
  obtain ⟨r',ku,rfl,e2,e3⟩:=XG i v hi;refine ⟨_,rfl,r',ku,rfl,.inl (.of (sc _ _ e2)),_,rfl,rfl,?_⟩;have zz:(!decide (V.int (ku.length:Int)=V.int (m:Int)))=false:=by rw [f_,cj (by lia)];rfl
  rw [zz];exact kc _ Hc (af.refl _) rfl
 ·intro D ys Hc sc lB hP eD
  refine ⟨D,List.replicate ys.length false,rfl,.of (by rw [eD];exact hV _ (hV _ (Kn hP))),false,by rw [Th],bM ?_⟩
  exact ⟨_,rfl,k Hc sc⟩
theorem XH:aZ ["table"] ["table"] (aG BK):=bw
theorem XI(T:Txt K mg t):aS P w K mg base (dR P w) 2 t.qS t.u6 ["table"] (TJ t.nZ):=by
 have S:=XH;refine T.wF.dH S (fun _ _ _ _ H vs _ _ hr h L=>?_);obtain ⟨a,q,B,ah,m,rfl,hA,h1,zx,hm,kE,k⟩:=h
 refine ⟨_,(ak (bK (aY iq (aB (XE T) hr T.L7 T.wD.kp T.L6 (oO L) (aa (pv 0) ae)) (b6 eC rfl T.dY d8 (aa (pv 0) ae))) (ao (qw L rfl p7 T.Gu rfl T.Gr (aa fT ae))) bL)
  (ao (aE (b6 eC rfl T.dY d8 (aa (pv 0) ae))))),?_⟩
 refine ⟨_,rfl,a,q,B,ah,m,rfl,hA,h1,zx,hm,fun H1 s1=>?_⟩;obtain ⟨vs,ea,lv,_⟩:=id (hA.mono s1);refine ⟨_,rfl,a,vs,rfl,.inl (.of ea),rfl,_,rfl,bS (fun iR=>?_) (fun iR=>?_)⟩
 ·have iR:m≠ah.length:=fun z=>by
   have:(m:Int)=(vs.length:Int):=by lia
   rw [f_,cj this] at iR;cases iR
  exact ⟨by show 1≤sizeLine;decide,kE iR H1 s1⟩
 ·have heq:m=ah.length:=by
   by_cases z:(m:Int)=(vs.length:Int);·lia
   ·exact absurd (by rw [f_,dc z];rfl) iR
  have z:=k heq H1 s1;dsimp only [D8];refine ⟨_,rfl,a,vs,rfl,.inl (.of ea),?_⟩;rw [show (vs.length:Int)=(m:Int) by lia]
  exact z
theorem XJ:aZ ["world","table","i","nought"] ["world","table","i"] (aG BO):=bw
theorem XM(T:Txt K mg t):aS P w K mg base bH 4 t.qW t.vb ["world","table","i"] (TR t.bI):=by
 have S:=XJ;have pJ:=C8 (P:=P) (w:=w) (base:=base) T;obtain ⟨dv,pK,eR⟩:=T.zm;refine T.wJ.bQ S (fun _ _ _ _ H vs _ _ hr h=>?_);obtain ⟨z,a,q,B,ah,n,i,rfl,⟨dz,hd⟩,hq,hT,ln,iE,hm,hi,kk⟩:=h;have hu:=hr.oM
 refine ⟨_,(ak (A4 3 S.nd (oN (pv 0) T.fE T.xD pJ (hr.mono (by decide)) eR pK m9 (aa ag ae)))
  (ao (aE (j8 (N:=["j","i","table","nought"]) (ρ:=(fun σ=>[σ[2]?.join,σ[1]?.join,σ[3]?.join])) (eV [2,1,3] rfl) rfl (AD rfl T.da (aa (aA fo (pv 2) ag) (aa (b6 eC rfl T.dY d8 (aa (pv 1) ae)) ae))) (fun _ _ _=>(.one (PW.pt (pw_or (aY (Bn (K:=K) hu) (aj (iT (K:=K)) (aj (iT (K:=K)) (pv 2) (pv 1)) (pv 0)) (pv 3)) (pw_or1 (aY (Bn (K:=K) hu) (aj (iT (K:=K)) (aj (iT (K:=K)) (pv 2) (pv 0)) (pv 1)) (pv 3))))))) (fun _ _ _=>(fU (aa (pv 1) (aa (pv 0) ae)))))))),?_⟩
 have nv:=Bi hq;refine ⟨_,rfl,z,dz,_,rfl,hd,oR (by decide +kernel),z,q,0,1,rfl,⟨dz,hd⟩,hq,eK.of_lt (by decide) (by decide),fun h=>absurd h nv,fun _ v0 H1 s1 ho=>?_⟩
 have h0:=yP (B:=1000) (by decide) ho hq (.inl rfl)
 dsimp only [bR];obtain ⟨vs,ea,lv,hv⟩:=id (hT.mono s1);have cell:∀i j,i<n→j<n→∃(r:Addr) (ws:List V) (v:V),vs[i]?=some (.ref r)∧H1 r=some (.lst ws)∧ws[j]?=some v∧aV B H1 q v ((ah.getD i []).getD j o1).1 ((ah.getD i []).getD j o1).2:=fun i j hi hj=>by
  have i1:i<vs.length:=by lia
  have i2:i<ah.length:=by lia
  obtain ⟨r,e,ws,er,lw,fw⟩:=hv i vs[i] ah[i] (by simp [i1]) (by simp [i2])
  have lp:=hm ah[i] (fj i2);have j1:j<ws.length:=by lia
  have j2:j<ah[i].length:=by lia
  refine ⟨r,ws,ws[j],by rw [←e];simp [i1],er,by simp [j1],?_⟩
  rw [getD_at i2,getD_at j2];exact fw j _ _ (by simp [j1]) (by simp [j2])
 refine gP (Ky (xs:=(List.range (n-(i+1))).map fun k:Nat=>V.int ((i:Int)+1+(k:Int))) (fun k=>cy ah i (i+1+k)) (fun R h=>⟨_,rfl,_,_,rfl,rfl,_,rfl,a,vs,rfl,.inl (.of ea),_,_,rfl,⟨by lia,by lia,by lia,by lia⟩,h _ ?_⟩) (by rw [aX,cN];exact cB (by lia)) (fun _ k y Hx=>∃b:Addr,y=.ref b∧Hx b=some (.tup [.int (i:Int),.int ((i+1+k:Nat):Int)])) (fun D k y Ha Hb ys ⟨b,h1,h2⟩ e f=>⟨b,h1,f b _ (fun z=>by rw [z,e] at h2;cases h2) h2⟩) ?_ ?_ ?_)
 ·rw [show ((vs.length:Int)-((i:Int)+1)).toNat=n-(i+1) by lia]
  exact nN
 ·intro k x hx Hc R sc hR
  have hk:k<n-(i+1):=by have:=(bZ.mp hx).1;simpa using this
  rw [cC,i7 hk] at hx;cases hx;have ej:(i:Int)+1+(k:Int)=((i+1+k:Nat):Int):=by lia
  obtain ⟨r1,w1,v1,a1,a2,a3,a4⟩:=cell i (i+1+k) hi (by lia)
  obtain ⟨r2,w2,v2,b1,b2,b3,b4⟩:=cell (i+1+k) i (by lia) hi
  have Dd:=sc _ _ ea;refine ⟨_,rfl,_,rfl,a,vs,_,.ref r1,rfl,rfl,.of Dd,jo a1,_,rfl,r1,w1,_,v1,rfl,rfl,.of (sc _ _ a2),(by show jn w1 ((i:Int)+1+(k:Int))=_;rw [ej];exact jo a3),_,rfl,oZ (a4.mono sc) (h0.mono sc) ⟨_,rfl,bS (fun hb=>?_) (fun hb=>?_)⟩⟩
  ·have e:cy ah i (i+1+k)=true:=by unfold cy jx;rw [hb,Bool.true_or]
   rw [e] at hR;exact hR
  ·have e:cy ah i (i+1+k)=jx ah (i+1+k) i:=by
    have zy:jx ah i (i+1+k)=false:=by unfold jx;simpa using hb
    unfold cy;rw [zy,x4]
   rw [e] at hR;refine ⟨_,rfl,_,rfl,a,vs,_,.ref r2,rfl,rfl,.of Dd,(by show jn vs ((i:Int)+1+(k:Int))=_;rw [ej];exact jo b1),_,rfl,r2,w2,_,v2,rfl,rfl,.of (sc _ _ b2),jo b3,_,rfl,oZ (b4.mono sc) (h0.mono sc) ⟨_,rfl,hR⟩⟩
 ·intro D k x hx Hc R sc _ kc
  have hk:k<n-(i+1):=by have:=(bZ.mp hx).1;simpa using this
  rw [cC,i7 hk] at hx;cases hx;refine ⟨_,rfl,_,rfl,by show 2≤sizeLine;decide,fun tp gs=>?_⟩
  refine kc _ _ (bf gs) ⟨tp,rfl,?_⟩;rw [ay,show ((i+1+k:Nat):Int)=(i:Int)+1+(k:Int) by lia]
 ·intro D ys Hc nD sc jK hP eD
  rw [aX,cN] at jK hP;refine kk D ys Hc (s1.trans sc) (none_of s1 nD) eD ⟨by unfold ma;rw [aX];exact jK,fun k v p h1 h2=>?_⟩
  unfold ma at h2;rw [cC] at h2;cases e:((List.range (n-(i+1))).filter fun k=>cy ah i (i+1+k))[k]? with
  | none=>rw [e] at h2;cases h2
  | some k'=>rw [e] at h2;cases h2;exact hP k k' v h1 e
theorem XN:aZ ["world","table","n","links","i"] ["world","table"] (aG BP):=bw
theorem XO(T:Txt K mg t):aS P w K mg base (dR P w) 6 t.qX t.vc ["world","table"] (TU t.bI t.nZ):=by
 have S:=XN;refine T.wK.dH S (fun _ _ _ _ H _ _ _ hr h L=>?_);obtain ⟨z,a,q,B,ah,m,rfl,hz,hq,hT,h1,zx,hm,kE,kk⟩:=h
 refine ⟨_,(ak (putL 2 S.nd (aB (XI T) hr T.L9 T.wF.kp T.L8 (oO L) (aa (pv 1) ae)))
  (eN.lQ (ak (putL 3 S.nd (fV ae))
  (ak (cI cb rfl (eA rfl T.da (aa (pv 2) ae)) (bP (i:=4) S.nd rfl (Or.inl rfl))
   (ao (gX (j4 ie PySem.F.slot_list_extend PySem.F.type_list_extend Rf (pv 3) (aa (aB (XM T) hr T.Mc T.wJ.kp T.Mb aD (aa (pv 0) (aa (pv 1) (aa (pv 4) ae)))) ae)))))
  (ao (aE (fU (aa (pv 2) (aa (jj Q9 rfl T.xE boot_tuple (aa (pv 3) ae)) ae))))))))),?_⟩
 refine ⟨_,rfl,a,q,B,ah,m,rfl,hT,h1,zx,hm,fun iR H1 s1=>kE iR H1 s1,fun heq H1 s1=>?_⟩;subst heq;have kk:=kk rfl;dsimp only [bR];refine ⟨by show 0≤sizeLine;decide,fun fd zA=>?_⟩
 have s2:af H1 (upd H1 fd (.lst [])):=bf zA;have ef:upd H1 fd (.lst []) fd=some (.lst []):=ay;dsimp only [bR];generalize upd H1 fd (.lst [])=H2 at s2 ef ⊢;have dq:=s1.trans s2;have XQ:H fd=none:=none_of s1 zA;refine ⟨_,rfl,(ah.length:Int),rfl,by lia,by lia,?_⟩
 rw [df];have XR:∀i,i≤ah.length→(fB ah.length (cy ah) i).length≤40*i:=fun i=>by
  induction i with
  | zero=>intro _;exact aN _
  | succ i ih=>
   intro hi;have a:=ih (by lia)
   show (fB ah.length (cy ah) i++ma ah.length (cy ah) i).length≤_;have b:(ma ah.length (cy ah) i).length≤40:=by unfold ma;rw [aX];refine aQ (DV _ _) ?_;rw [cN];lia
   rw [fe];lia
 refine gB (fun i σ Hc=>∃(us:List V) (v4:Option V),σ=[some (.ref z),some (.ref a),some (.int (ah.length:Int)),some (.ref fd),v4]∧af H Hc∧Hc fd=some (.lst us)∧cR Hc us (fB ah.length (cy ah) i)) ⟨[],_,rfl,dq,ef,cR.nil _⟩ ?_ ?_
 ·rintro i σ Hc hi ⟨us,v4,rfl,sc,zB,hL⟩
  refine ⟨_,rfl,.inl ⟨rfl,_,.of zB⟩,_,rfl,_,rfl,_,rfl,z,a,q,B,ah,ah.length,i,?_,hz.mono sc,hq,hT.mono sc,rfl,zx,hm,hi,fun r ws Hd sd nr XS hR=>?_⟩
  ·show [V.ref z,V.ref a,V.int (0+(i:Int))]=_
   rw [eU]
  have l1:=hL.1;have l2:=hR.1;have l3:=XR (i+1) (by lia)
  have e3:fB ah.length (cy ah) (i+1)=fB ah.length (cy ah) i++ma ah.length (cy ah) i:=rfl;rw [e3,fe] at l3;refine ⟨fd,r,us,ws,rfl,rfl,sd _ _ zB,XS,aQ (show _≤2000 by lia) (by decide),us++ws,_,rfl,gF (sc.trans sd) XQ,ay,?_⟩
  rw [e3];exact ((hL.mono sd).cat hR).bG (sd _ _ zB) fun b o nb e=>by rw [aJ nb];exact e
 ·rintro σ Hc ⟨us,v4,rfl,sc,zB,hL⟩
  refine ⟨_,rfl,_,rfl,fd,us,rfl,.inl ⟨.of zB,fun lt XT=>?_⟩⟩;have sl:af Hc (upd Hc lt (.tup us)):=bf XT;have el:upd Hc lt (.tup us) lt=some (.tup us):=ay;generalize upd Hc lt (.tup us)=Hd at sl el ⊢;refine ⟨by show 2≤sizeLine;decide,fun tp gs=>?_⟩
  have st:af Hd (upd Hd tp (.tup [.int (ah.length:Int),.ref lt])):=bf gs;exact kk tp _ (sc.trans (sl.trans st)) (none_of (sc.trans sl) gs) ⟨lt,us,ay,st _ _ el,(hL.mono sl).mono st⟩
theorem XU:aZ ["shape","linked","i","j"] ["shape"] (aG BQ):=bw
theorem XW(T:Txt K mg t):aS P w K mg base bH 1 t.qY t.vd ["shape"] Up:=by
 have S:=XU;refine T.wL.bQ S (fun _ _ _ _ H _ _ _ hr h=>?_);obtain ⟨tp,n,L,rfl,⟨lt,us,iF,elt,hL⟩,ok,n9,kk⟩:=h;have hu:=jQ (Nat.add_le_add_left (show 1≤64 by decide) _) hr.units
 have De:((List.range n).map fun i:Nat=>V.int (0+(i:Int))).length=n:=by rw [aX,cN]
 refine ⟨_,(ak (l7 (i0:=1) (N:=["place"]) (ρ:=(fun σ=>[])) (eV [] rfl) rfl S.nd rfl (Or.inl rfl) (eA rfl T.da (aa (aj aM (pv 0) ag) ae)) (fun _ _ _=>.nil) (fun _ _ _=>Uh))
  (ak (cI cb rfl (I_ (aj aM (pv 0) ag)) (mX rfl (fM (bP (i:=2) S.nd rfl (Or.inl rfl)) (fM (bP (i:=3) S.nd rfl (Or.inl rfl)) mW)))
   (ak (E8 hu (aj a9 (pv 1) (pv 2)) (pv 3) d9 rfl)
  (ao (E8 hu (aj a9 (pv 1) (pv 3)) (pv 2) d9 rfl))))
  (ao (aE (pv 1))))),?_⟩
 refine oX (a8 (jw (xs:=(List.range n).map fun i:Nat=>V.int (0+(i:Int))) (n:=n) De (fun R h=>⟨_,rfl,tp,_,_,_,rfl,rfl,.of iF,rfl,(n:Int),rfl,by lia,by lia,h _ _ (af.refl _) (by rw [df];exact nN)⟩) (cB (by lia)) (fun _ i y Hx=>Hx y=some (.dK (dk []))∧H y=none) ?_ ?_ ?_))
 ·intro D i y Ha Hb ys ⟨h1,h2⟩ hy e f
  exact ⟨f y _ hy h1,h2⟩
 ·intro D i x hx Hc R sc _ kc
  refine fun p np=>kc p _ (gF (af.refl _) np) np ⟨_,ay⟩ ⟨ay,?_⟩;cases e:H p with
  | none=>rfl
  | some o=>rw [sc _ _ e] at np;cases np
 ·intro D ds H1 nD s1 inj hA eD
  have K0:eL H1 D n ds (fun _=>True) (fun _=>[]):=⟨eD,inj,fun i hi=>(hA i hi).2,fun i hi _=>(hA i hi).1.1,fun i _=>iA.nil n⟩;have fr:∀i,i<n→H (ds i)=none:=fun i hi=>(hA i hi).1.2;dsimp only [bR];refine oX ⟨_,rfl,tp,_,_,_,rfl,rfl,.of (s1 _ _ iF),rfl,lt,rfl,⟨_,.of (s1 _ _ elt)⟩,?_⟩;refine Qi (K:=K) (a:=lt) (xs:=us) (fun k σ Hc=>∃(f:Nat→List Nat) (v2 v3:Option V),σ=[some (.ref tp),some (.ref D),v2,v3]∧af H Hc∧eL Hc D n ds (fun _=>True) f∧iU n (L.take k) f) ⟨_,_,_,rfl,s1,K0,iU.nil n⟩ (fun k σ Hc _ ⟨_,_,_,_,sc,_⟩=>.of (sc _ _ elt)) ?_ ?_
  ·rintro k x σ Hc hx ⟨f,v2,v3,rfl,sc,KL,nb⟩
   have hk:k<L.length:=by rw [←hL.1];exact (bZ.mp hx).1
   obtain ⟨b,rfl,eb⟩:=hL.2 k x L[k] hx (by simp [hk])
   have pk:=ok L[k] (fj hk);have tk:L.take (k+1)=L.take k++[L[k]]:=by rw [List.take_succ,cY hk];rfl
   generalize L[k]=p at eb pk tk;obtain ⟨p1,p2⟩:=p;dsimp only at pk eb;obtain ⟨i,rfl⟩:=p8 pk.1;obtain ⟨j,rfl⟩:=p8 pk.2.2.1;have hi:i<n:=by lia
   have hj:j<n:=by lia
   refine ⟨b,_,rfl,.of (sc _ _ eb),rfl,_,_,rfl,_,_,rfl,rfl,?_⟩;obtain ⟨q1,K1⟩:=KL.put hi hj trivial n9;obtain ⟨q2,K2⟩:=K1.put hj hi trivial n9;refine ⟨_,rfl,_,rfl,D,_,_,_,rfl,rfl,.of KL.lst,KL.ix hi,_,rfl,_,_,rfl,q1,?_⟩;refine ⟨_,rfl,_,rfl,D,_,_,_,rfl,rfl,.of K1.lst,K1.ix hj,_,rfl,_,_,rfl,q2,?_⟩;have off:∀(Hx:Hp) (i:Nat) (o:HO),i<n→af H Hx→af H (upd Hx (ds i) o):=fun Hx i o hi sx a u e=>by
    rw [aJ (fun z=>by rw [z,fr i hi] at e;cases e)]
    exact sx _ _ e
   exact ⟨_,_,_,rfl,off _ _ _ hj (off _ _ _ hi sc),K2,by rw [tk];exact nb.more hi hj⟩
  ·rintro σ Hc ⟨f,v2,v3,rfl,sc,KL,nb⟩
   rw [hL.1,oF] at nb;exact ⟨_,rfl,kk _ _ _ _ sc nD fr KL nb⟩
theorem XZ:aZ ["thing","n"] ["thing","n"] (aG BR):=bw
theorem X0(T:Txt K mg t):aS P w K mg base bH 2 t.qZ t.ve ["thing","n"] Uu:=by
 have S:=XZ;refine T.wM.bQ S (fun _ _ _ _ H _ _ _ hr h=>?_);obtain ⟨a,zs,n,rfl,ea,zC,n1,k⟩:=h;have jL:=hr.units
 refine ⟨_,(ak (bK (PW.pt (pw_or (je (gN (b6 (kU (K:=K)) rfl T.kr boot_isinstance (aa (pv 0) (aa (kJ (v:=.ty "list") rfl T.jJ boot_list rfl) ae))))) (pw_or1 (je (gN (b6 (R3 (K:=K) rfl) rfl T.NI boot_all (aa (j8 (N:=["place"]) (ρ:=(fun σ=>[])) (eV [] rfl) rfl (d_ (pv 0)) (fun _ _ _=>.nil) (fun _ _ _=>(aB (NQ T) hr T.F9 T.s_.kp T.F8 aD (aa (pv 0) ae)))) ae))))))) (ao (aE d9)) bL)
  (ao (aE (lW (Ur jL) (b6 E9 rfl T.C6 DX (aa (pv 0) ae)) (jj (R7 rfl) rfl T.jJ boot_list (aa (jj R5 rfl T.da R8 (aa (pv 1) ae)) ae)))))),?_⟩
 refine ⟨_,rfl,_,_,_,true,rfl,rfl,.of (.lst ea),qD,true,rfl,bM ?_⟩;unfold IP tB;refine EW (A_ (xs:=zs.map V.int) (fun R h=>⟨_,rfl,a,rfl,⟨_,.of ea⟩,h _ _ (af.refl _) (j_ (.of ea))⟩) (by rw [aX];exact cB (by lia)) (fun _ i y _=>y=.bl true) (fun _ _ _ _ _ _ h _ _=>h) ?_ ?_)
 ·intro D i v hi Hc R sc _ kc
  obtain ⟨z,rfl⟩:∃z:Int,v=.int z:=by
   rw [cC] at hi;cases e:zs[i]? with
   | none=>rw [e] at hi;cases hi
   | some z=>rw [e] at hi;exact ⟨z,(Option.some.inj hi).symm⟩
  exact ⟨_,rfl,.int z,rfl,.int z,kc _ Hc (af.refl _) rfl⟩
 ·intro D ys Hc sc lB hP eD
  refine ⟨D,List.replicate ys.length true,rfl,.of (by rw [eD];exact hV _ (hV _ (Kn hP))),?_⟩
  rw [Ti];refine ⟨true,rfl,bM ?_⟩;dsimp only [D8];have Dd:=sc _ _ ea;refine ⟨_,rfl,a,zs,rfl,Dd,zC,fun ws D2 p o n2=>?_⟩;refine ⟨_,rfl,(n:Int),rfl,fun p1 Gz=>⟨p1,n,rfl,ay,by lia,fun l nl=>?_⟩⟩
  have d1:D2≠p1:=fun z=>by rw [←z,ay] at Gz;cases Gz
  have d2:D2≠l:=fun z=>by rw [←z,aJ d1,ay] at nl;cases nl
  refine ⟨D2,l,ws,(List.range n).map iN,rfl,rfl,.of ?_,.of ?_,?_⟩;·rw [aJ d2,aJ d1,ay]
  ·rw [ay]
   unfold uy;rw [ic];rfl
  ·rw [Ut p o]
   exact k _ (Bq (Bq (Bq sc n2) Gz) nl)
theorem X2:aZ ["order","n"] ["order","n"] (aG BS):=bw
theorem X3(T:Txt K mg t):aS P w K mg base (dR P w) 3 t.q5 t.vg ["order","n"] (Uv t.n4):=by
 have S:=X2;refine T.wN.dH S (fun _ _ _ _ H _ _ _ hr h L=>?_);obtain ⟨a,zs,n,rfl,ea,zC,n1,kE,k⟩:=h;refine ⟨_,(ao (bK (je (gN (aB (X0 T) hr T.Mi T.wM.kp T.Mh aD (aa (pv 0) (aa (pv 1) ae))))) (ao (qw L rfl p7 T.NP rfl T.NH (aa fT ae))) bL)),?_⟩;refine ⟨_,rfl,_,rfl,a,zs,n,rfl,ea,zC,n1,fun H1 s1=>⟨_,rfl,bS (fun hb=>?_) (fun hb=>?_)⟩⟩;·exact ⟨by show 1≤sizeLine;decide,kE (by simpa using hb) _ s1⟩
 ·exact k (by simpa using hb) _ s1
theorem X4:aZ ["order","turns","turn","place"] ["order"] (aG BU):=bw
theorem NU(T:Txt K mg t):aS P w K mg base bH 1 t.q8 t.vh ["order"] Ux:=by
 have S:=X4;refine T.tf.bQ S (fun _ _ _ _ H _ _ _ hr h=>?_);obtain ⟨a,n,o,rfl,⟨ea,ho⟩,n1,kk⟩:=h;have lo:=gg ho;have lm:(o.map fun k:Nat=>V.int (k:Int)).length=n:=by rw [aX,lo]
 refine ⟨_,(ak (putL 1 S.nd (aA Rm (fV (aa ag ae)) (b6 eC rfl T.dY d8 (aa (pv 0) ae))))
  (ak (cI cb rfl (uK rfl T.tH (aa (pv 0) ae)) (mX rfl (fM (bP (i:=2) S.nd rfl (Or.inl rfl)) (fM (bP (i:=3) S.nd rfl (Or.inl rfl)) mW)))
   (ao (@ig _ _ _ _ _ _ (pv 2) (jf (pv 1) (pv 3) set_list) (by rfl) (by rfl) (by rfl))))
  (ao (aE (pv 1))))),?_⟩
 refine ⟨by show 1≤sizeLine;decide,fun l nl=>?_⟩
 have al:a≠l:=fun z=>by rw [z,nl] at ea;cases ea
 refine ⟨_,rfl,a,_,rfl,.inl (.of (by rw [aJ al];exact ea)),l,_,_,rfl,rfl,ay,by lia,by rw [lm];lia,?_,fun c nc=>?_⟩
 ·rw [lm,df]
  show 1*n≤sizeLine;rw [sizeLine_eq];lia
 rw [lm,df,UA n o];have NV:H c=none:=none_of (bf nl) nc;have s0:af H (upd (upd H l (.lst [.int 0])) c (.lst ((List.range n).map fun p=>V.int (kf o 0 p)))):=(bf nl).trans (bf nc);have e0:upd (upd H l (.lst [.int 0])) c (.lst ((List.range n).map fun p=>V.int (kf o 0 p))) c=_:=ay;generalize upd (upd H l (.lst [.int 0])) c (.lst ((List.range n).map fun p=>V.int (kf o 0 p)))=H0 at s0 e0 ⊢;dsimp only [bR];refine oX ⟨_,rfl,a,rfl,⟨_,.of (s0 _ _ ea)⟩,?_⟩
 refine Kr (K:=K) (l:=a) (xs:=o.map fun k:Nat=>V.int (k:Int)) (fun i σ Hc=>af H Hc∧∃(v2 v3:Option V),σ=[some (.ref a),some (.ref c),v2,v3]∧Hc c=some (.lst ((List.range n).map fun p=>V.int (kf o i p))))
  ⟨s0,_,_,rfl,e0⟩ (fun i σ Hc ⟨z,_⟩=>.of (z _ _ ea)) ?_ ?_
 ·rintro i x σ Hc Tt hx ⟨sc,v2,v3,rfl,ec⟩ nT
  have hi:i<o.length:=by have:=(bZ.mp hx).1;simpa using this
  have ex:x=.int ((o[i]:Nat):Int):=by rw [cC] at hx;simp [hi] at hx;exact hx.symm
  subst ex;have hp:o[i]<n:=(dI ho).mp (fj hi);have sT:af Hc (upd Hc Tt (.tup [.int (i:Int),.int ((o[i]:Nat):Int)])):=bf nT;have eT:upd Hc Tt (.tup [.int (i:Int),.int ((o[i]:Nat):Int)]) Tt=_:=ay;generalize upd Hc Tt (.tup [.int (i:Int),.int ((o[i]:Nat):Int)])=H1 at sT eT ⊢;refine ⟨Tt,_,rfl,.of eT,rfl,_,_,rfl,_,_,rfl,rfl,?_⟩;refine ⟨_,rfl,_,rfl,_,rfl,c,_,_,o[i],rfl,rfl,sT _ _ ec,by rw [aX,cN];exact ke hp,?_⟩
  exact ⟨gF (sc.trans sT) NV,_,_,rfl,by rw [ay,Uz ho hi]⟩
 ·rintro σ Hc ⟨sc,v2,v3,rfl,ec⟩
  rw [aX,UB ho] at ec;exact ⟨_,rfl,kk c Hc sc NV ec⟩
theorem X5:aZ ["linked","places","one","other"] ["linked","places"] (aG BV):=bw
theorem X6(T:Txt K mg t):aS P w K mg base bH 1 t.q_ t.vi ["linked","places"] UC:=by
 have S:=X5;refine T.wO.bQ S (fun _ _ _ _ H _ _ _ hr h=>?_);obtain ⟨D,pl,n,ds,un,f,ps,rfl,KL,xI,X7,n9,kk⟩:=h;have hu:=jQ (Nat.add_le_add_left (show 1≤64 by decide) _) hr.units
 have bG:∀i,i<n→un i→pl≠ds i:=fun i hi ui z=>by rw [z,KL.at' i hi ui] at xI;cases xI
 have NW:∀{i:Nat} {x:V},(ps.map fun k:Nat=>V.int (k:Int))[i]?=some x→∃p:Nat,ps[i]?=some p∧x=.int (p:Int)∧p<n∧un p:=fun{i x} hx=>by
  rw [cC] at hx;cases e:ps[i]? with
  | none=>rw [e] at hx;cases hx
  | some p=>rw [e] at hx;exact ⟨p,rfl,(Option.some.inj hx).symm,X7 p (pV e)⟩
 refine ⟨_,(ao (cI cb rfl (d_ (pv 1)) (bP (i:=2) S.nd rfl (Or.inl rfl))
   (ao (cI cb rfl (d_ (pv 1)) (bP (i:=3) S.nd rfl (Or.inl rfl))
   (ao (bK (aY iq (pv 2) (pv 3)) (ao (E8 hu (aj a9 (pv 0) (pv 2)) (pv 3) d9 rfl)) bL)))))),?_⟩
 refine ⟨_,rfl,pl,rfl,⟨_,.of xI⟩,?_⟩;refine jg (K:=K) (a:=pl) (xs:=ps.map fun k:Nat=>V.int (k:Int)) (fun i σ Hc=>∃(g:Nat→List Nat) (v2 v3:Option V),σ=[some (.ref D),some (.ref pl),v2,v3]∧o9 n ds un H Hc∧eL Hc D n ds un g∧g9 n f ps i 0 g) ⟨f,_,_,rfl,.refl,KL,g9.start n f ps⟩ (fun i σ Hc _ ⟨_,_,_,_,oc,_⟩=>.of (oc _ _ xI bG)) ?_ ?_
 ·rintro i x σ Hc hx ⟨g,v2,v3,rfl,oc,Kc,la⟩
  obtain ⟨p,hp,rfl,pn,up⟩:=NW hx;refine ⟨_,rfl,pl,rfl,⟨_,.of (oc _ _ xI bG)⟩,?_⟩;refine jg (K:=K) (a:=pl) (xs:=ps.map fun k:Nat=>V.int (k:Int)) (fun j σ Hd=>∃(g:Nat→List Nat) (v3:Option V),σ=[some (.ref D),some (.ref pl),some (.int (p:Int)),v3]∧o9 n ds un H Hd∧eL Hd D n ds un g∧g9 n f ps i j g) ⟨g,_,rfl,oc,Kc,la⟩ (fun i σ Hc _ ⟨_,_,_,oc,_⟩=>.of (oc _ _ xI bG)) ?_ ?_
  ·rintro j y σ Hd hy ⟨g,v3,rfl,od,Kd,la⟩
   obtain ⟨q,hq,rfl,qn,uq⟩:=NW hy;refine ⟨_,rfl,_,rfl,rfl,_,rfl,bS (fun hb=>?_) (fun hb=>?_)⟩
   ·have ne:p≠q:=fun z=>by subst z;rw [f_,cj rfl] at hb;cases hb
    obtain ⟨q1,K1⟩:=Kd.put pn qn up n9;exact ⟨_,rfl,_,rfl,D,_,_,_,rfl,rfl,.of Kd.lst,Kd.ix pn,_,rfl,_,_,rfl,q1,_,_,rfl,od.put pn up,K1,la.put hp hq ne⟩
   ·have e:p=q:=by
     by_cases z:(p:Int)=(q:Int);·lia
     ·exact absurd (by rw [f_,dc z];rfl) hb
    subst e;exact ⟨_,_,rfl,od,Kd,la.same hp hq⟩
  ·rintro σ Hd ⟨g,v3,rfl,od,Kd,la⟩
   rw [aX] at la;exact ⟨g,_,_,rfl,od,Kd,la.row⟩
 ·rintro σ Hc ⟨g,v2,v3,rfl,oc,Kc,la⟩
  rw [aX] at la;exact kk _ g oc Kc la.done
theorem X8:aZ ["shape","order","linked","turns","told","place"] ["shape","order"] (aG BW):=bw
theorem X9(T:Txt K mg t):aS P w K mg base (dR P w) 4 t.rf t.vj ["shape","order"] (UQ t.n4):=by
 have S:=X8;refine T.wQ.dH S (fun _ _ _ _ H _ _ _ hr h L=>?_);obtain ⟨tp,a,n,Lk,zs,rfl,hS,hL,ns,xG,ea,zC,kE,kk⟩:=h;obtain ⟨lt,us,iF,elt,qv⟩:=id hS
 refine ⟨_,(ak (gX (aB (X3 T) hr T.Ml T.wN.kp T.Mj (oO L) (aa (pv 1) (aa (aj aM (pv 0) ag) ae))))
  (eN.lQ (ak (putL 2 S.nd (aB (XW T) hr T.Mg T.wL.kp T.Mf aD (aa (pv 0) ae)))
  (ak (A4 3 S.nd (aB (NU T) hr T.Ga T.tf.kp T.F_ aD (aa (pv 1) ae)))
  (ak (l7 (i0:=4) (N:=["place"]) (ρ:=(fun σ=>[])) (eV [] rfl) rfl S.nd rfl (Or.inl rfl) (d_ (pv 1)) (fun _ _ _=>.nil) (fun _ _ _=>(fV ae)))
  (ak (cI cb rfl (d_ (pv 1)) (bP (i:=5) S.nd rfl (Or.inr rfl))
   (ak (@ig _ _ _ _ _ _ (b6 E9 rfl T.C6 DX (aa (j8 (N:=["other","turns","place"]) (ρ:=(fun σ=>[σ[3]?.join,σ[5]?.join])) (eV [3,5] rfl) rfl (T6 (aj a9 (pv 2) (pv 5))) (fun _ _ _=>(.one (aY oK (aj (iT (K:=K)) (pv 1) (pv 0)) (aj (iT (K:=K)) (pv 1) (pv 2))))) (fun _ _ _=>(pv 0))) ae)) (jf (pv 4) (pv 5) set_list) (by rfl) (by rfl) (by rfl))
  (ao (gX (aB (X6 T) hr T.Mn T.wO.kp T.Mm aD (aa (pv 2) (aa (aj a9 (pv 4) (pv 5)) ae)))))))
  (ao (aE (pv 4))))))))),?_⟩
 refine ⟨_,rfl,_,rfl,tp,_,_,_,rfl,rfl,.of iF,rfl,a,zs,n,rfl,ea,zC,by lia,fun no H1 s1=>kE no H1 s1,fun yes H1 s1=>?_⟩
 obtain ⟨o,rfl,ho⟩:=UJ yes;have kk:=kk o rfl ho;have lo:=gg ho;have nd:=k7 ho;have zD:H a=some (.lst (o.map fun k:Nat=>V.int (k:Int))):=by rw [ea,ic];rfl
 have lm:(o.map fun k:Nat=>V.int (k:Int)).length=n:=by rw [aX,lo]
 refine ⟨_,rfl,tp,n,Lk,rfl,⟨lt,us,s1 _ _ iF,s1 _ _ elt,qv.mono s1⟩,hL,by lia,fun H2 D ds f s2 nD X_ KL nb=>?_⟩
 have nD0:=none_of s1 nD;have NX:∀i,i<n→H (ds i)=none:=fun i hi=>none_of s1 (X_ i hi);have dq:=s1.trans s2;dsimp only [bR];refine ⟨_,rfl,a,n,o,rfl,⟨dq _ _ zD,ho⟩,by lia,fun tr H3 s3 Ya e3=>?_⟩
 have mv:=dq.trans s3;have agP:=none_of dq Ya;have K3:=KL.mono s3;dsimp only [bR];refine oX (a8 (jw (xs:=o.map fun k:Nat=>V.int (k:Int)) (n:=n) lm (fun R h=>⟨_,rfl,a,rfl,⟨_,.of (mv _ _ zD)⟩,h _ _ (af.refl _) (j_ (.of (mv _ _ zD)))⟩) (cB (by lia)) (fun _ i y Hx=>H3 y=none) (fun _ _ _ _ _ _ h _ _ _=>h) ?_ ?_))
 ·intro D' i x hx Hc R sc _ kc
  refine ⟨by show 0≤sizeLine;exact cn _,fun p np=>kc p _ (bf np) np ⟨_,ay⟩ (none_of sc np)⟩
 ·intro c Yb H4 nc s4 _ hA ec
  have jM:=mv.trans s4;have NY:=none_of mv nc;have K4:=K3.mono s4;have e4:=s4 _ _ e3;have cD:c≠D:=fun z=>by rw [z,K3.lst] at nc;cases nc
  have Yc:c≠tr:=fun z=>by rw [z,e3] at nc;cases nc
  dsimp only [bR];refine oX ⟨_,rfl,a,rfl,⟨_,.of (jM _ _ zD)⟩,?_⟩
  refine jg (K:=K) (a:=a) (xs:=o.map fun k:Nat=>V.int (k:Int)) (fun k σ Hc=>∃(rs:Nat→Addr) (f g:Nat→List Nat) (v5:Option V),σ=[some (.ref tp),some (.ref a),some (.ref D),some (.ref tr),some (.ref c),v5]∧af H Hc∧eL Hc D n ds (fun p=>k≤o.idxOf p) f∧Hc tr=some (.lst ((List.range n).map fun p=>V.int (o.idxOf p:Int)))∧Hc c=some (.lst ((List.range n).map fun p=>V.ref (rs p))) ∧
    (∀p,p<n→o.idxOf p<k→H (rs p)=none∧rs p≠c∧Hc (rs p)=some (.lst ((g p).map fun k:Nat=>V.int (k:Int)))∧o_ n o p (g p)∧kh n Lk o p (g p))∧qL n Lk o k f) ⟨Yb,f,fun _=>[],_,rfl,jM,K4.less (fun _ _ _=>trivial),e4,ec,fun p _ h=>absurd h (mK _),qL.start nb ns⟩ (fun k σ Hc _ ⟨_,_,_,_,_,sc,_⟩=>.of (sc _ _ zD)) ?_ ?_
  ·rintro k x σ Hc hx ⟨rs,f,g,v5,rfl,sc,Kc,GA,Df,done,xJ⟩
   have hk:k<o.length:=by have:=(bZ.mp hx).1;simpa using this
   have ex:x=.int ((o[k]:Nat):Int):=by rw [cC] at hx;simp [hk] at hx;exact hx.symm
   subst ex;have hp:o[k]<n:=(dI ho).mp (fj hk);have ip:o.idxOf o[k]=k:=nR nd hk;generalize o[k]=p at hp ip ⊢;dsimp only [bR];have NZ:=Kc.at' p hp (by lia)
   refine oX (a8 (EW (UN ⟨_,rfl,_,rfl,D,_,_,_,rfl,rfl,.of Kc.lst,Kc.ix hp,ds p,dk (f p),rfl,.inl ⟨NZ,fun ob=>?_⟩⟩)));have Kf:eL (upd Hc (ds p) (.cH ob (.dK (dk (f p))))) D n ds (fun q=>k+1≤o.idxOf q) f:=(Kc.less (fun i hi (ui:k+1≤o.idxOf i)=>show k≤o.idxOf i by lia)).upd (Kc.ne p hp) (fun i hi (ui:k+1≤o.idxOf i) z=>by have:=Kc.inj i p hi hp z;subst this;lia)
   have GB:∀{b:Addr} {xs:List V},Hc b=some (.lst xs)→b≠ds p:=fun{b xs} e z=>by rw [z,NZ] at e;cases e
   have Dg:upd Hc (ds p) (.cH ob (.dK (dk (f p)))) tr=_:=(aJ (GB GA)).trans GA;have Dh:upd Hc (ds p) (.cH ob (.dK (dk (f p)))) c=_:=(aJ (GB Df)).trans Df;have sf:af H (upd Hc (ds p) (.cH ob (.dK (dk (f p))))):=fun b u e=>by
    rw [aJ (fun z=>by rw [z,NX p hp] at e;cases e)]
    exact sc _ _ e
   have GC:∀q,q<n→o.idxOf q<k→H (rs q)=none∧rs q≠c∧upd Hc (ds p) (.cH ob (.dK (dk (f p)))) (rs q)=some (.lst ((g q).map fun k:Nat=>V.int (k:Int)))∧o_ n o q (g q)∧kh n Lk o q (g q):=fun q hq Di=>by obtain ⟨d1,d2,d3,d4⟩:=done q hq Di;exact ⟨d1,d2,(aJ (GB d3)).trans d3,d4⟩
   have N1:upd Hc (ds p) (.cH ob (.dK (dk (f p)))) (ds p)=some (.cH ob (.dK (dk (f p)))):=ay;generalize upd Hc (ds p) (.cH ob (.dK (dk (f p))))=Hf at Kf Dg Dh sf GC N1 ⊢;have zE:=Kc.pl p hp;refine UI N1 (fun q=>decide ((o.idxOf p:Int)<(o.idxOf q:Int))) (jQ zE.len (cB (by lia))) ?_ ?_ ?_
   ·intro q hq Hx R sx hR
    have qn:=zE.2 q hq;exact ⟨_,rfl,_,rfl,tr,_,_,_,rfl,rfl,.of (sx _ _ Dg),bD qn,_,rfl,_,rfl,tr,_,_,_,rfl,rfl,.of (sx _ _ Dg),bD hp,_,_,rfl,rfl,_,rfl,hR⟩
   ·intro q hq Hx R hR
    exact ⟨_,rfl,hR⟩
   ·intro D1 H1 oi N2 N3
    rw [UM] at N3;have fl:((f p).filter fun q=>decide (o.idxOf p<o.idxOf q)).length≤n:=aQ (DV _ _) zE.len;refine ⟨D1,((f p).filter fun q=>decide (o.idxOf p<o.idxOf q)).map iN,rfl,by rw [N3,ic];rfl,by rw [aX];lia,fun ws D2 pw so zF=>?_⟩
    obtain ⟨ms,rfl,pm⟩:=E_ pw;have jA:=K6 zE pm so;have hm:∀q,q∈ms↔q∈f p∧k<o.idxOf q:=fun q=>by rw [pm.mem_iff,pS,oE,ip]
    have Yd:kh n Lk o p ms:=fun q=>by
     rw [hm q,ip];constructor
     ·rintro ⟨h1,h2⟩
      have qn:=zE.2 q h1;exact ⟨qn,h2,((xJ p q hp qn (by lia) (by lia)).mp h1).2⟩
     ·rintro ⟨h1,h2,h3⟩
      exact ⟨(xJ p q hp h1 (by lia) (by lia)).mpr ⟨fun e=>by subst e;lia,h3⟩,h2⟩
    have tK:af Hf (upd H1 D2 (.lst ((ms.map iN).map V.int))):=Bq N2 zF;have Dj:upd H1 D2 (.lst ((ms.map iN).map V.int)) D2=some (.lst (ms.map fun k:Nat=>V.int (k:Int))):=by rw [ay,ic];rfl
    have GD:Hf D2=none:=none_of N2 zF;have Ye:H D2=none:=none_of sf GD;generalize upd H1 D2 (.lst ((ms.map iN).map V.int))=Hg at tK Dj ⊢;have N5:D2≠c:=fun z=>by rw [z,Dh] at GD;cases GD
    refine ⟨_,rfl,_,rfl,c,_,_,p,rfl,rfl,tK _ _ Dh,by rw [aX,cN];exact ke hp,?_⟩
    rw [UK];have Kg:=Kf.mono tK;have Kh:eL (upd Hg c (.lst ((List.range n).map fun q=>V.ref (kg rs p D2 q)))) D n ds (fun q=>k+1≤o.idxOf q) f:=Kg.upd cD (fun i hi ui z=>by have:=Kg.at' i hi ui;rw [z,tK _ _ Dh] at this;cases this)
    have sh:af H (upd Hg c (.lst ((List.range n).map fun q=>V.ref (kg rs p D2 q)))):=gF (sf.trans tK) NY;have GF:upd Hg c (.lst ((List.range n).map fun q=>V.ref (kg rs p D2 q))) c=_:=ay;have N6:upd Hg c (.lst ((List.range n).map fun q=>V.ref (kg rs p D2 q))) tr=_:=(aJ (Ne.symm Yc)).trans (tK _ _ Dg);have GG:upd Hg c (.lst ((List.range n).map fun q=>V.ref (kg rs p D2 q))) D2=_:=(aJ N5).trans Dj;have N7:∀q,q<n→o.idxOf q<k→upd Hg c (.lst ((List.range n).map fun q=>V.ref (kg rs p D2 q))) (rs q)=some (.lst ((g q).map fun k:Nat=>V.int (k:Int))):=fun q hq Di=>by obtain ⟨d1,d2,d3,d4⟩:=GC q hq Di;exact (aJ d2).trans (tK _ _ d3)
    generalize upd Hg c (.lst ((List.range n).map fun q=>V.ref (kg rs p D2 q)))=Hh at Kh sh GF N6 GG N7 ⊢;refine ⟨_,rfl,_,rfl,_,rfl,c,_,_,_,rfl,rfl,.of GF,bD hp,?_⟩;rw [K7];refine ⟨D,D2,n,ds,_,f,ms,rfl,Kh,GG,fun q hq=>⟨jA.lt q hq,by have:=jA.la q hq;lia⟩,by lia,fun H5 g5 off K5 con=>?_⟩
    have bG:∀{b:Addr} {xs:List V},Hh b=some (.lst xs)→H5 b=some (.lst xs):=fun{b xs} e=>off _ _ e fun i hi ui z=>by rw [z,Kh.at' i hi ui] at e;cases e
    refine ⟨kg rs p D2,g5,cL g p ms,_,rfl,fun b u e=>off _ _ (sh _ _ e) (fun i hi _ z=>by rw [z,NX i hi] at e;cases e),K5,bG N6,bG GF,fun q hq Di=>?_,xJ.step ho hp ip hm jA.lt con⟩
    by_cases e:q=p
    ·subst e
     rw [K7,Fe];exact ⟨Ye,N5,bG GG,jA,Yd⟩
    ·rw [UL e,Ff e]
     have ne:=uR ho hq hp e;have N8:o.idxOf q<k:=by lia
     obtain ⟨d1,d2,d3,d4⟩:=GC q hq N8;exact ⟨d1,d2,bG (N7 q hq N8),d4⟩
  ·rintro σ Hc ⟨rs,f,g,v5,rfl,sc,Kc,GA,Df,done,_⟩
   rw [lm] at done;have lt:∀p,p<n→o.idxOf p<n:=fun p hp=>by have:=(gG ((dI ho).mpr hp)).1;lia
   exact ⟨_,rfl,kk Hc c rs g sc NY (fun p hp=>(done p hp (lt p hp)).1) ⟨Df,fun p hp=>(done p hp (lt p hp)).2.2.1⟩ fun p hp=>(done p hp (lt p hp)).2.2.2⟩
theorem Yf:aZ ["world","table","order","others","work","turn","place"] ["world","table","order"] (aG BY):=bw
theorem Yg(T:Txt K mg t):aS P w K mg base bH 8 t.rn t.vm ["world","table","order"] (Vd t.bI t.n4):=by
 have S:=Yf;have pJ:=C8 (P:=P) (w:=w) (base:=base) T;obtain ⟨dv,pK,eR⟩:=T.zm;refine T.wU.bQ S (fun _ _ _ _ H _ _ _ hr h=>?_);obtain ⟨z,a,d,q,B,X,n,ah,o,M,D,rfl,hw,hq,hT,N9,ln,n1,iE,wd,ed,ho,gj,kS,kF⟩:=h;have jL:=hr.units;have hu:=jQ (Nat.add_le_add_left (show 1≤64 by decide) _) hr.units
 have hu:=hr.oM;have lo:=gg ho;have yY:=k7 ho
 refine ⟨_,(ak (putL 3 S.nd (aB (X9 T) hr T.Mp T.wQ.kp T.Mo m9 (aa (aB (XO T) hr T.Me T.wK.kp T.Md m9 (aa (pv 0) (aa (pv 1) ae))) (aa (pv 2) ae))))
  (ak (l7 (i0:=4) (N:=["row"]) (ρ:=(fun σ=>[])) (eV [] rfl) rfl S.nd rfl (Or.inl rfl) (d_ (pv 1)) (fun _ _ _=>.nil) (fun _ _ _=>(jj (Bh (K:=K)) rfl T.jJ boot_list (aa (pv 0) ae))))
  (ak (cI cb rfl (uK rfl T.tH (aa (pv 2) ae)) (mX rfl (fM (bP (i:=5) S.nd rfl (Or.inl rfl)) (fM (bP (i:=6) S.nd rfl (Or.inl rfl)) mW)))
   (ak (bK (aY (ER hu) (aj a9 (aj a9 (pv 4) (pv 6)) (pv 6)) (oN (pv 0) T.fE T.xD pJ (hr.mono (by decide)) eR pK m9 (aa ag ae))) (ao (aE (fU (aa (pv 4) (aa (pv 3) (aa (aA fo (pv 5) ag) ae)))))) bL)
  (ao (gX (aB (Xy T) hr T.Mr T.wR.kp T.Mq aD (aa (pv 0) (aa (pv 4) (aa (pv 6) (aa (aj a9 (pv 3) (pv 6)) ae)))))))))
  (ao (aE (fU (aa (pv 4) (aa (pv 3) (aa kI ae))))))))),?_⟩
 have lt:∀zz∈fB n (cy ah) n,0≤zz.1∧zz.1<zz.2∧zz.2<(n:Int):=Vf;have GH:yT n (fB n (cy ah) n):=fun zz hz=>by have:=lt zz hz;exact ⟨this.1,by lia,by lia,this.2.2⟩
 have ns:Fi (fB n (cy ah) n):=fun zz hz=>by have:=lt zz hz;lia
 refine aw fun _ hR=>a8 ⟨_,rfl,_,rfl,z,a,q,B,ah,n,rfl,hw,hq,hT,by lia,by lia,wd,fun ne=>absurd ln.symm ne,fun _ tp H1 s1 gs sh=>⟨_,rfl,tp,d,n,fB n (cy ah) n,o.map iN,rfl,sh,GH,ns,by lia,by rw [s1 _ _ ed,ic];rfl,by rw [aX];lia,fun no=>absurd (ho.map iN) no,fun o' ez lM H2 ot ls g s2 not nls la GI=>hR _ _ ?_⟩⟩
 have eo:o'=o:=by
  have inj:∀{a b:List Nat},a.map iN=b.map iN→a=b:=fun{a b} e=>by
   have:=hV (List.map Int.toNat) e;rw [ic,ic] at this;have BB:(Int.toNat ∘ iN)=id:=by funext x;exact df x
   rwa [BB,List.map_id,List.map_id] at this
  exact (inj ez).symm
 subst eo;have dq:=s1.trans s2;obtain ⟨ra,vf,ea,er,num⟩:=Ve (hT.mono dq) ln wd;have fR:((List.range n).map fun i=>V.ref (ra i)).length=n:=by rw [aX,cN]
 refine aw fun _ hR=>a8 (jw (xs:=(List.range n).map fun i=>V.ref (ra i)) (n:=n) fR (fun R h=>⟨_,rfl,a,rfl,⟨_,.of ea⟩,h _ _ (af.refl _) (j_ (.of ea))⟩) (cB (by lia)) (fun _ i y Hx=>Hx y=some (.lst ((List.range n).map (vf i)))∧H2 y=none) ?_ ?_ ?_)
 ·intro D i y Ha Hb ys ⟨h1,h2⟩ hy e f
  exact ⟨f y _ hy h1,h2⟩
 ·intro D i x hx Hc R sc _ kc
  have hi:i<n:=by
   have:=(bZ.mp hx).1
   rwa [fR] at this
  have ex:x=.ref (ra i):=by rw [cC,i7 hi] at hx;exact (Option.some.inj hx).symm
  subst ex;exact ⟨_,rfl,ra i,_,rfl,.inl (.of (sc _ _ (er i hi))),fun l nl=>kc l _ (bf nl) nl ⟨_,ay⟩ ⟨ay,none_of sc nl⟩⟩
 ·intro wk rs H3 Yh s3 inj hA Yi
  refine hR _ _ ?_;have W3:WTab H3 wk n rs vf:=⟨Yi,inj,fun i hi=>(hA i hi).2,fun i hi=>(hA i hi).1.1⟩;have gU:∀i,i<n→H2 (rs i)=none:=fun i hi=>(hA i hi).1.2;have mv:=dq.trans s3;have F3:dj X H3 q n vf (sT M D o' 0) (sU M D o' 0):=fun i j hi hj=>by
   have e1:sT M D o' 0 i j=M i j:=by unfold sT;rw [ar ⟨cn _,cn _⟩];exact Bt
   have e2:sU M D o' 0 i j=D i:=by unfold sU;rw [ar ⟨cn _,cn _⟩];exact gu _
   have b:=gj.bd 0 i j (cn _);rw [e1,e2] at b ⊢;exact uW ((num i j hi hj).mono s3) (gj.uV i j hi hj) (gj.dn i) b.1 b.2
  have nv:=Bi hq;obtain ⟨dz,hz⟩:=id hw;have Dk:∀{Hc:Hp},fQ n rs H3 Hc→af H2 Hc:=fun{Hc} oc b u e=>oc b u (fun i hi zz=>by rw [zz,gU i hi] at e;cases e) (s3 _ _ e)
  have sH:∀{Hc:Hp},fQ n rs H3 Hc→af H Hc:=fun{Hc} oc=>dq.trans (Dk oc);have Yj:∀i,i<n→ot≠rs i:=fun i hi zz=>by have h:=la.1;rw [zz,gU i hi] at h;cases h
  have N_:∀i,i<n→∀j,j<n→ls j≠rs i:=fun i hi j hj zz=>by have h:=la.2 j hj;rw [zz,gU i hi] at h;cases h
  have Yk:∀i,i<n→z≠rs i:=fun i hi zz=>by have h:=hz;rw [zz,none_of dq (gU i hi)] at h;cases h
  have pack:∀{Hc:Hp} {vf:Nat→Nat→V} {k:Nat},fQ n rs H3 Hc→WTab Hc wk n rs vf→dj X Hc q n vf (sT M D o' k) (sU M D o' k)→Fs H Hc q n X (fB n (cy ah) n) o' M D k wk ot rs vf ls g:=fun{Hc vf k} oc Wc Fc=>⟨Wc,⟨none_of dq Yh,fun i hi=>none_of dq (gU i hi)⟩,Fc,⟨Dk oc _ _ la.1,fun p hp=>Dk oc _ _ (la.2 p hp)⟩,GI,fun i hi=>⟨Yj i hi,N_ i hi⟩⟩;refine aw fun _ hR=>⟨_,rfl,d,rfl,⟨_,.of (mv _ _ ed)⟩,?_⟩;refine Kr (K:=K) (l:=d) (xs:=cm o') (fun k σ Hc=>∃(vf:Nat→Nat→V) (v5 v6:Option V),σ=[some (.ref z),some (.ref a),some (.ref d),some (.ref ot),some (.ref wk),v5,v6]∧fQ n rs H3 Hc∧WTab Hc wk n rs vf∧dj X Hc q n vf (sT M D o' k) (sU M D o' k)∧ck q M (cO o' k)) ⟨vf,_,_,rfl,fQ.refl _ _ _,W3,F3,trivial⟩ (fun k σ Hc ⟨_,_,_,_,oc,_⟩=>.of (sH oc _ _ ed)) ?_ ?_
  ·rintro k x σ Hc Tt hx ⟨vf,v5,v6,rfl,oc,Wc,Fc,gd⟩ nT
   obtain ⟨p,hk,rfl⟩:=int_at hx;have kl:k<o'.length:=(bZ.mp hk).1;have pk:o'[k]=p:=(bZ.mp hk).2;have hp:p<n:=(dI ho).mp (pV hk);have ip:o'.idxOf p=k:=by rw [←pk];exact nR yY kl
   have Dl:af Hc (upd Hc Tt (.tup [.int (k:Int),.int (p:Int)])):=bf nT;have eT:upd Hc Tt (.tup [.int (k:Int),.int (p:Int)]) Tt=some (.tup [.int (k:Int),.int (p:Int)]):=ay;generalize upd Hc Tt (.tup [.int (k:Int),.int (p:Int)])=H4 at Dl eT ⊢;have GJ:=oc.same Dl;have W4:=Wc.mono Dl;have F4:dj X H4 q n vf (sT M D o' k) (sU M D o' k):=fun i j hi hj=>(Fc i j hi hj).mono Dl;refine ⟨Tt,_,rfl,.of eT,rfl,_,_,rfl,_,_,rfl,rfl,?_⟩;have Oa:sT M D o' k p p=aW M (cO o' k) (M p) p:=by unfold sT;rw [ar ⟨by lia,by lia⟩]
   obtain ⟨x,m,h1,h2,h3⟩:=F4 p p hp hp;have GK:=sH GJ _ _ hz;refine aw fun _ hR=>⟨_,rfl,_,rfl,wk,_,_,_,rfl,rfl,.of W4.lst,bD hp,_,rfl,rs p,_,_,_,rfl,rfl,.of (W4.at' p hp),bD hp,_,rfl,z,dz,_,rfl,GK,oR (by decide +kernel),z,q,0,1,rfl,⟨dz,GK⟩,hq,eK.of_lt (by decide) (by decide),fun h=>absurd h nv,fun _ v0 H5 s5 tL=>?_⟩
   refine EX (h1.mono s5) (yP (B:=1000) (by decide) tL hq (.inl rfl)) ⟨_,rfl,bS (fun hb=>?_) (fun hb=>?_)⟩
   ·have x0:x=0:=dN hb
    have Dm:q∣aW M (cO o' k) (M p) p:=by rw [←Oa];exact (k9 hq ⟨x,m,h1,h2,h3⟩).mpr ⟨x,m,h1,x0⟩
    have zG:=GJ.same s5;refine gP ⟨_,rfl,_,rfl,_,rfl,_,_,rfl,rfl,by show 3≤sizeLine;decide,fun tp gs=>kS k kl gd (by rw [pk];exact Dm) tp wk ot _ rs ls vf g ((sH zG).trans (bf gs)) ay (pack (zG.same (bf gs)) ((W4.mono s5).mono (bf gs)) fun i j hi hj=>((F4 i j hi hj).mono s5).mono (bf gs))⟩
   ·have x0:¬x=0:=fun zz=>hb (cj zz)
    have jz:¬q∣aW M (cO o' k) (M p) p:=fun Dm=>by rw [←Oa] at Dm;obtain ⟨x',m',g1,g2⟩:=(k9 hq ⟨x,m,h1,h2,h3⟩).mp Dm;exact x0 ((Fu h1 g1).1.trans g2)
    refine hR _ _ ?_;have zG:=GJ.same s5;have S5:=Dk zG;have gr:=Vc (L:=fB n (cy ah) n) (ms:=g p) (X:=X) hq ho hp ip gd jz gj.dn (fun a' b' ha hb ab na=>gj.zero a' b' ha hb (Lr ha hb ab na)) (GI p hp).2 gj.bd;have lk:=(GI p hp).1;refine ⟨_,rfl,_,rfl,_,rfl,_,rfl,_,rfl,ot,_,_,_,rfl,rfl,.of (S5 _ _ la.1),bD hp,z,wk,ls p,q,n,X,p,rs,vf,g p,sT M D o' k,sU M D o' k,sT M D o' (k+1),sU M D o' (k+1),rfl,⟨dz,s5 _ _ GK⟩,hq,W4.mono s5,S5 _ _ (la.2 p hp),fun i hi=>⟨N_ i hi p hp,Yk i hi⟩,hp,fun m' dB=>⟨lk.lt m' dB,fun zz=>by have:=lk.la m' dB;rw [zz] at this;lia⟩,lk.up.imp (fun h=>d5 h),by lia,gj.X1,gj.iY,fun i j hi hj=>(F4 i j hi hj).mono s5,fun i j _ _=>gj.bd k i j (by lia),gr,fun H6 tM off W6 F6=>?_⟩
    exact ⟨tM,_,_,rfl,fun b u nb e=>off b u nb (zG b u nb e),W6,F6,by rw [ph kl,pk];exact ⟨gd,jz⟩⟩
  ·rintro σ Hc ⟨vf,v5,v6,rfl,oc,Wc,Fc,gd⟩
   refine hR _ _ ?_;have ll:(cm o').length=n:=by unfold cm;rw [aX,lo]
   rw [ll] at Fc gd;refine gP ⟨_,rfl,_,rfl,by show 3≤sizeLine;decide,fun tp gs=>kF gd tp wk ot _ rs ls vf g ((sH oc).trans (bf gs)) ay (pack (oc.same (bf gs)) (Wc.mono (bf gs)) fun i j hi hj=>(Fc i j hi hj).mono (bf gs))⟩
theorem Yl:aZ ["one","other"] ["one","other"] (aG Cf):=bw
theorem Ob(T:Txt K mg t):aS P w K mg base bH 1 t.rS t.vH ["one","other"] Vm:=by
 have S:=Yl;refine T.tD.bQ S (fun _ _ _ _ H _ _ _ hr h=>?_);obtain ⟨a,b,rfl,k⟩:=h
 refine ⟨_,(ak (qj cb (aY iq (pv 1) ag) (ao (Az (i:=0) (j:=1) rfl S.nd rfl rfl (by decide) rfl rfl (aa (pv 1) (aa (aA Ql (pv 0) (pv 1)) ae)) rfl)))
  (ao (aE (b6 Ek rfl T.C5 boot_abs (aa (pv 0) ae))))),?_⟩
 refine oX ⟨fun m σ H'=>H'=H∧∃(x y:Int),σ=[some (.int x),some (.int y)]∧m=y.natAbs∧Int.gcd x y=Int.gcd a b,⟨b.natAbs,rfl,a,b,rfl,rfl,rfl⟩,?_⟩;rintro m σ H' ⟨rfl,x,y,rfl,em,hg⟩;refine ⟨_,rfl,rfl,_,rfl,bS (fun hy=>?_) (fun hy=>?_)⟩
 ·have hy:y≠0:=fun z=>by subst z;revert hy;decide
  refine ⟨fun σ' H2=>H2=H'∧σ'=[some (.int y),some (.int (x.fmod y))],?_,?_⟩
  ·rintro σ' H2 ⟨rfl,rfl⟩
   exact ⟨(x.fmod y).natAbs,by rw [em];exact Vl hy,rfl,y,x.fmod y,rfl,rfl,by rw [Lx];exact hg⟩
  ·exact ⟨_,rfl,_,rfl,_,rfl,_,_,rfl,rfl,hy,_,_,rfl,rfl,rfl⟩
 ·have y0:y=0:=by
   by_cases z:y=0;·exact z
   ·refine absurd ?_ hy
    rw [f_,dc z];rfl
  subst y0;rw [Int.gcd_zero_right] at hg;refine ⟨_,rfl,x,rfl,?_⟩;rw [EM,hg];exact k
theorem Ym:aZ ["number","p","one","other","left","right","part"] ["number","p"] (aG Ci):=bw
theorem Oc(T:Txt K mg t):aS P w K mg base bH 1 t.rV t.vI ["number","p"] Vn:=by
 have S:=Ym;refine T.tE.bQ S (fun _ _ _ _ H _ _ _ hr h=>?_);obtain ⟨c,p,rfl,p2,Od,hp,nc,k⟩:=h;have pp:0<p:=by lia
 have m0:=fg c (show p≠0 by lia)
 have m1:=fI c pp;have md:p∣c-c % p:=⟨c / p,by have:=yf c p;lia⟩
 have mz:1≤c % p:=by have:c % p≠0:=fun z=>nc (DU z);lia
 have g0:Int.gcd (c % p) p=1:=by rw [Int.gcd_comm];exact EO p2 Od hp mz m1
 refine ⟨_,(ak (Az (i:=2) (j:=3) rfl S.nd rfl rfl (by decide) rfl rfl (aa (aA fq (pv 0) (pv 1)) (aa (pv 1) ae)) rfl)
  (ak (@ig _ _ _ _ _ _ (fU (aa ag (aa ag ae))) (mX rfl (fM (bP (i:=4) S.nd rfl (Or.inl rfl)) (fM (bP (i:=5) S.nd rfl (Or.inl rfl)) mW))) (by rfl) (by rfl) (by rfl))
  (ak (qj cb (aY iq (pv 3) ag) (ak (putL 6 S.nd (aA AG (pv 2) (pv 3)))
  (ak (Az (i:=2) (j:=3) rfl S.nd rfl rfl (by decide) rfl rfl (aa (pv 3) (aa (aA m6 (pv 2) (aA gC (pv 6) (pv 3))) ae)) rfl)
  (ao (Az (i:=4) (j:=5) rfl S.nd rfl rfl (by decide) rfl rfl (aa (pv 5) (aa (aA m6 (pv 4) (aA gC (pv 6) (pv 5))) ae)) rfl)))))
  (ao (aE (aA fq (pv 4) (pv 1))))))),?_⟩
 refine aw fun _ hR=>⟨_,rfl,_,rfl,_,_,rfl,rfl,pp,_,rfl,_,_,rfl,hR _ _ ?_⟩;refine aw fun _ hR=>a8 ⟨by show 2≤sizeLine;decide,fun tq mw=>⟨tq,_,rfl,.of ay,rfl,_,_,rfl,_,_,rfl,rfl,hR _ _ ?_⟩⟩
 have s1:af H (upd H tq (.tup [.int 1,.int 0])):=bf mw;generalize upd H tq (.tup [.int 1,.int 0])=H1 at s1 ⊢;refine aw fun _ hR=>⟨fun m σ H'=>H'=H1∧∃(x y l r:Int) (v6:Option V),σ=[some (.int c),some (.int p),some (.int x),some (.int y),some (.int l),some (.int r),v6]∧m=y.natAbs∧0≤x∧x≤997∧0≤y∧y≤997∧p∣l*c-x∧p∣r*c-y∧Int.gcd x y=1,⟨_,rfl,c % p,p,1,0,_,rfl,rfl,m0,by lia,by lia,Od,by rw [oC];exact md,by rw [gv,ua];exact Int.dvd_neg.mpr (i8 p),g0⟩,?_⟩
 rintro m σ H' ⟨rfl,x,y,l,r,v6,rfl,em,x0,x1,y0,y1,hl,xF,hg⟩;refine ⟨_,rfl,rfl,_,rfl,bS (fun hy=>?_) (fun hy=>?_)⟩
 ·have hy:y≠0:=fun z=>by subst z;revert hy;decide
  have yp:0<y:=by lia
  have dm:=yf x y;have e0:=fg x hy;have e1:=fI x yp;have d0:0≤x / y:=Ao x0 y0;have d1:x / y≤997:=Int.le_trans (Int.ediv_le_self _ x0) x1;have ex:x-x / y*y=x % y:=by rw [dD];lia
  refine ⟨fun σ' H2=>H2=H'∧σ'=[some (.int c),some (.int p),some (.int y),some (.int (x-x / y*y)),some (.int r),some (.int (l-x / y*r)),some (.int (x / y))],?_,?_⟩
  ·rintro σ' H2 ⟨rfl,rfl⟩
   refine ⟨(x % y).natAbs,by lia,rfl,y,x-x / y*y,r,l-x / y*r,_,rfl,by rw [ex],y0,y1,by lia,by lia,xF,?_,?_⟩
   ·obtain ⟨a1,b1⟩:=hl
    obtain ⟨a2,b2⟩:=xF;exact ⟨a1-x / y*a2,by grind⟩
   ·rw [ex]
    have:=Lx x y;rw [Int.fmod_eq_emod,ar (.inl y0),Int.add_zero] at this;rw [this];exact hg
  ·refine aw fun _ hR=>a8 ⟨_,rfl,_,rfl,_,_,rfl,rfl,⟨yp,by lia⟩,hR _ _ ?_⟩
   refine aw fun _ hR=>⟨_,rfl,_,rfl,_,rfl,_,rfl,_,_,rfl,rfl,.inl ⟨by lia,by lia⟩,_,_,rfl,rfl,_,_,rfl,hR _ _ ?_⟩
   exact ⟨_,rfl,_,rfl,_,rfl,_,rfl,_,_,rfl,rfl,.inl ⟨by lia,by lia⟩,_,_,rfl,rfl,_,_,rfl,rfl,rfl⟩
 ·have y0:y=0:=by
   by_cases z:y=0;·exact z
   ·refine absurd ?_ hy
    rw [f_,dc z];rfl
  subst y0;rw [Int.gcd_zero_right] at hg;have x1:x=1:=by lia
  subst x1;refine hR _ _ ?_;refine ⟨_,rfl,_,rfl,_,_,rfl,rfl,pp,k _ _ s1 (fg _ (by lia)) (fI _ pp) ?_⟩
  have:=yf l p;obtain ⟨a1,b1⟩:=hl;exact ⟨a1-l / p*c,by grind⟩
theorem Yn:aZ ["told","top","bottom","sign","shared"] ["told","top","bottom"] (aG Cj):=bw
theorem pL(T:Txt K mg t):aS P w K mg base bH 2 t.rW t.vJ ["told","top","bottom"] Vo:=by
 have S:=Yn;refine T.jH.bQ S (fun _ _ _ _ H _ _ _ hr h=>?_);obtain ⟨td,q,a,b,Y,rfl,tw,hq,nb,bA,bB,bY,k⟩:=h
 refine ⟨_,(ak (bK (aY eB (aj aM (pv 0) ag) fT) (ao (aE (aA fq (aA gC (pv 1) (aB (Oc T) hr T.Gj T.tE.kp T.Gi aD (aa (pv 2) (aa (aj aM (pv 0) ag) ae)))) (aj aM (pv 0) ag)))) bL)
  (ak (putL 3 S.nd (aA m6 ag (aA gC ag (jj Jn rfl T.zt boot_int (aa (lW lV (pv 2) ag) ae)))))
  (ak (putL 4 S.nd (aB (Ob T) hr T.Gh T.tD.kp T.Gg aD (aa (pv 1) (aa (pv 2) ae))))
  (ao (aE (fU (aa (aA A2 (aA gC (pv 3) (pv 1)) (pv 4)) (aa (aA A2 (aA gC (pv 3) (pv 2)) (pv 4)) ae)))))))),?_⟩
 rcases tw with ⟨rfl,tw⟩ | ⟨qn,tw⟩
 ·have b0:b≠0:=fun z=>nb (by rw [z];exact i8 0)
  refine aw fun _ hR=>⟨_,rfl,td,_,_,_,rfl,rfl,.of tw,rfl,rfl,false,by decide +kernel,bM (hR _ _ ?_)⟩
  have gp:0<Int.gcd a b:=Int.gcd_pos_of_ne_zero_right a b0;have Yo:Int.gcd a b≤b.natAbs:=Nat.le_of_dvd (by lia) (Int.ofNat_dvd.mp (by rw [Int.dvd_natAbs];exact jS a b))
  have cd:EI 0 (Int.gcd a b:Int):=⟨by lia,by show (Int.gcd a b:Int).natAbs<2 ^ 2048;rw [yb];exact jQ (aQ Yo (aQ bB bY)) (by decide +kernel)⟩
  obtain ⟨sg,GL⟩:∃sg:Int,sg=if b<0 then -1 else 1:=⟨_,rfl⟩
  have sg1:sg=1∨sg=-1:=by rw [GL];split <;> simp
  refine aw fun _ hR=>a8 ⟨_,rfl,_,_,rfl,rfl,.inr ⟨decide (b<0),rfl,_,_,rfl,rfl,.inl ⟨by decide,by decide⟩,_,_,rfl,rfl,hR _ _ ?_⟩⟩
  rw [show (fun i j=>V.int (i-j)) 1 (2*if decide (b<0)=true then 1 else 0)=V.int sg by
   show V.int _=_;rw [GL];by_cases h:b<0;·rw [ar (cj h),ar h];rfl
   ·rw [au (by simpa using h),au h];rfl]
  refine aw fun _ hR=>a8 ⟨_,rfl,_,rfl,a,b,rfl,hR _ _ ?_⟩;obtain ⟨lw,le⟩:=Vp (a:=a) b0 sg GL;refine gP ⟨_,rfl,_,rfl,_,_,rfl,rfl,.inl ⟨by lia,by lia⟩,_,rfl,_,_,rfl,rfl,cd,_,rfl,_,rfl,_,_,rfl,rfl,.inl ⟨by lia,by lia⟩,_,rfl,_,_,rfl,rfl,cd,by show 2≤sizeLine;decide,fun tp gs=>k _ _ (bf gs) ?_⟩
  have W:aH (((sg*a).fdiv (Int.gcd a b:Int)).natAbs+((sg*b).fdiv (Int.gcd a b:Int)).natAbs) (upd H tp (.tup [.int ((sg*a).fdiv (Int.gcd a b:Int)),.int ((sg*b).fdiv (Int.gcd a b:Int))])) 0 (.ref tp) a b:=⟨_,_,.a7 ay lw (by lia) (by lia),by rw [le,p6];exact i8 0,nb⟩
  exact W.bd bA bB
 ·have cQ:2≤q∧q≤997∧fz q=true:=by rcases hq with h | h;exact absurd h qn;exact h
  have qp:0<q:=by lia
  refine aw fun _ hR=>⟨_,rfl,td,_,_,_,rfl,rfl,.of tw,rfl,rfl,true,by decide +kernel,dQ ?_⟩
  refine ⟨_,rfl,_,rfl,_,rfl,td,_,_,_,rfl,rfl,.of tw,rfl,b,q,rfl,cQ.1,cQ.2.1,cQ.2.2,nb,fun r H1 s1 r0 r1 rd=>?_⟩;refine ⟨_,_,rfl,rfl,.inr ⟨by lia,by lia⟩,_,rfl,td,_,_,_,rfl,rfl,.of (s1 _ _ tw),rfl,_,_,rfl,rfl,qp,k _ _ s1 ⟨_,1,.rem (fg _ (by lia)) (fI _ qp) cQ.2.1,?_,nb⟩⟩
  have c:Cg q (a*r % q*b) (a*r*b):=(qI q _).mulR b;have c2:Cg q (a*r*b) (a*1):=(Cg.of_eq (show a*r*b=a*(r*b) by grind)).trans (Cg.mulL a rd)
  exact c.trans c2
theorem Yp:aZ ["told","a","b"] ["told","a","b"] (aG Ck):=bw
theorem Yq(T:Txt K mg t):aS P w K mg base bH 3 t.rX t.vK ["told","a","b"] (Fx (fun T U T' U'=>T*U'+T'*U) (fun T U T' U'=>U*U')):=by
 have S:=Yp;refine T.xg.bQ S (fun _ _ _ _ H _ _ _ hr h=>?_);obtain ⟨td,v,u,q,Tw,U,Tv,U',X,Y,rfl,tw,hq,hv,hu,cx,nb,bt,bb,k⟩:=h
 refine ⟨_,(ak (bK (aY eB (aj aM (pv 0) ag) fT) (ao (aE (aA fq (aA fo (pv 1) (pv 2)) (aj aM (pv 0) ag)))) bL)
  (ao (aE (aB (pL T) hr T.n_ T.jH.kp T.n8 aD (aa (pv 0) (aa (aA fo (aA gE (aj aM (pv 1) ag) (aj aM (pv 2) ag)) (aA gE (aj aM (pv 2) ag) (aj aM (pv 1) ag))) (aa (aA gE (aj aM (pv 1) ag) (aj aM (pv 2) ag)) ae))))))),?_⟩
 obtain ⟨x,m,h1,h2,h3⟩:=hv;obtain ⟨y,n,g1,g2,g3⟩:=hu;obtain ⟨a1,ha⟩:=h2;obtain ⟨b1,hb⟩:=g2;have key:q∣(x*n+y*m)*(U*U')-(Tw*U'+Tv*U)*(m*n):=⟨n*U'*a1+m*U*b1,by grind⟩
 rcases tw with ⟨rfl,tw⟩ | ⟨qn,tw⟩
 ·cases h1 with
  | rem _ _ _=>lia
  | @a7 p _ _ ep l bx bm=>
   cases g1 with
   | rem _ _ _=>lia
   | @a7 r _ _ er l' fF bn=>
    have mx:=g_ bx cx;have mm:=g_ bm cx;have my:=g_ fF cx;have mn:=g_ bn cx;have m0:=l.pos;have n0:=l'.pos;have zH:m*n≠0:=ya (oB (by lia) (by lia))
    refine aw fun _ hR=>⟨_,rfl,td,_,_,_,rfl,rfl,.of tw,rfl,rfl,false,by decide +kernel,bM (hR _ _ ?_)⟩
    refine ⟨_,rfl,_,rfl,p,_,_,_,rfl,rfl,.of ep,rfl,_,rfl,r,_,_,_,rfl,rfl,.of er,rfl,_,_,rfl,rfl,⟨mx,mn⟩,_,rfl,r,_,_,_,rfl,rfl,.of er,rfl,_,rfl,p,_,_,_,rfl,rfl,.of ep,rfl,_,_,rfl,rfl,⟨my,mm⟩,_,_,rfl,rfl,_,rfl,p,_,_,_,rfl,rfl,.of ep,rfl,_,rfl,r,_,_,_,rfl,rfl,.of er,rfl,_,_,rfl,rfl,⟨mm,mn⟩,td,0,x*n+y*m,m*n,10 ^ 300,rfl,.inl ⟨rfl,tw⟩,.inl rfl,fun z=>zH (eS.mp z),?_,aQ (mi bm bn cx) (by decide +kernel),aN _,fun v' H' s' w'=>k v' H' s' ?_⟩
    ·have h1:=mi bx bn cx
     have h2:=mi fF bm cx;exact aQ (show _≤10 ^ 280+10 ^ 280 by lia) (by decide +kernel)
    ·refine (w'.eq (.inl rfl) ?_ nb).bd bt bb
     have:=eS.mp key;exact Cg.of_eq (by dsimp only;grind)
 ·have cQ:2≤q∧q≤997∧fz q=true:=by rcases hq with h | h;exact absurd h qn;exact h
  have qp:0<q:=by lia
  cases h1 with
  | a7 _ _ _ _=>exact absurd rfl qn
  | rem x0 x1 x2=>
   cases g1 with
   | a7 _ _ _ _=>exact absurd rfl qn
   | rem y0 y1 y2=>
    refine aw fun _ hR=>⟨_,rfl,td,_,_,_,rfl,rfl,.of tw,rfl,rfl,true,by decide +kernel,dQ ?_⟩
    refine ⟨_,rfl,_,rfl,_,_,rfl,rfl,_,rfl,td,_,_,_,rfl,rfl,.of tw,rfl,_,_,rfl,rfl,qp,k _ _ (af.refl _) ⟨_,1,.rem (fg _ (by lia)) (fI _ qp) cQ.2.1,?_,nb⟩⟩
    have c:Cg q ((x+y) % q*(U*U')) ((x+y)*(U*U')):=(qI q _).mulR (U*U');have c2:Cg q ((x+y)*(U*U')) ((Tw*U'+Tv*U)*1):=by
     have e:(x*1+y*1)*(U*U')-(Tw*U'+Tv*U)*(1*1)=(x+y)*(U*U')-(Tw*U'+Tv*U)*1:=by grind
     unfold Cg;rw [←e];exact key
    exact c.trans c2
theorem Yr:aZ ["told","a","b"] ["told","a","b"] (aG Cm):=bw
theorem Oe(T:Txt K mg t):aS P w K mg base bH 3 t.rY t.vL ["told","a","b"] (Fx (fun T U T' U'=>T*T') (fun T U T' U'=>U*U')):=by
 have S:=Yr;refine T.tF.bQ S (fun _ _ _ _ H _ _ _ hr h=>?_);obtain ⟨td,v,u,q,Tw,U,Tv,U',X,Y,rfl,tw,hq,hv,hu,cx,nb,bt,bb,k⟩:=h
 refine ⟨_,(ak (bK (aY eB (aj aM (pv 0) ag) fT) (ao (aE (aA fq (aA gC (pv 1) (pv 2)) (aj aM (pv 0) ag)))) bL)
  (ao (aE (aB (pL T) hr T.n_ T.jH.kp T.n8 aD (aa (pv 0) (aa (aA gE (aj aM (pv 1) ag) (aj aM (pv 2) ag)) (aa (aA gE (aj aM (pv 1) ag) (aj aM (pv 2) ag)) ae))))))),?_⟩
 obtain ⟨x,m,h1,h2,h3⟩:=hv;obtain ⟨y,n,g1,g2,g3⟩:=hu;obtain ⟨a1,ha⟩:=h2;obtain ⟨b1,hb⟩:=g2;have key:q∣(x*y)*(U*U')-(Tw*Tv)*(m*n):=⟨y*U'*a1+Tw*m*b1,by grind⟩
 rcases tw with ⟨rfl,tw⟩ | ⟨qn,tw⟩
 ·cases h1 with
  | rem _ _ _=>lia
  | @a7 p _ _ ep l bx bm=>
   cases g1 with
   | rem _ _ _=>lia
   | @a7 r _ _ er l' fF bn=>
    have mx:=g_ bx cx;have mm:=g_ bm cx;have my:=g_ fF cx;have mn:=g_ bn cx;have m0:=l.pos;have n0:=l'.pos;have zH:m*n≠0:=ya (oB (by lia) (by lia))
    refine aw fun _ hR=>⟨_,rfl,td,_,_,_,rfl,rfl,.of tw,rfl,rfl,false,by decide +kernel,bM (hR _ _ ?_)⟩
    refine ⟨_,rfl,_,rfl,p,_,_,_,rfl,rfl,.of ep,rfl,_,rfl,r,_,_,_,rfl,rfl,.of er,rfl,_,_,rfl,rfl,⟨mx,my⟩,_,rfl,p,_,_,_,rfl,rfl,.of ep,rfl,_,rfl,r,_,_,_,rfl,rfl,.of er,rfl,_,_,rfl,rfl,⟨mm,mn⟩,td,0,x*y,m*n,10 ^ 300,rfl,.inl ⟨rfl,tw⟩,.inl rfl,fun z=>zH (eS.mp z),?_,aQ (mi bm bn cx) (by decide +kernel),aN _,fun v' H' s' w'=>k v' H' s' ?_⟩
    ·exact aQ (mi bx fF cx) (by decide +kernel)
    ·refine (w'.eq (.inl rfl) ?_ nb).bd bt bb
     have:=eS.mp key;exact Cg.of_eq (by dsimp only;grind)
 ·have cQ:2≤q∧q≤997∧fz q=true:=by rcases hq with h | h;exact absurd h qn;exact h
  have qp:0<q:=by lia
  cases h1 with
  | a7 _ _ _ _=>exact absurd rfl qn
  | rem x0 x1 x2=>
   cases g1 with
   | a7 _ _ _ _=>exact absurd rfl qn
   | rem y0 y1 y2=>
    refine aw fun _ hR=>⟨_,rfl,td,_,_,_,rfl,rfl,.of tw,rfl,rfl,true,by decide +kernel,dQ ?_⟩
    refine ⟨_,rfl,_,rfl,_,_,rfl,rfl,.inl ⟨by lia,by lia⟩,_,rfl,td,_,_,_,rfl,rfl,.of tw,rfl,_,_,rfl,rfl,qp,k _ _ (af.refl _) ⟨_,1,.rem (fg _ (by lia)) (fI _ qp) cQ.2.1,?_,nb⟩⟩
    have c:Cg q ((x*y) % q*(U*U')) ((x*y)*(U*U')):=(qI q _).mulR (U*U');have c2:Cg q ((x*y)*(U*U')) ((Tw*Tv)*1):=by
     have e:(x*y)*(U*U')-(Tw*Tv)*(1*1)=(x*y)*(U*U')-(Tw*Tv)*1:=by grind
     unfold Cg;rw [←e];exact key
    exact c.trans c2
theorem Ys:aZ ["told","a","b"] ["told","a","b"] (aG Cn):=bw
theorem Yt(T:Txt K mg t):aS P w K mg base bH 3 t.rZ t.vM ["told","a","b"] (Fx (fun T U T' U'=>T*U'-T'*U) (fun T U T' U'=>U*U')):=by
 have S:=Ys;refine T.xh.bQ S (fun _ _ _ _ H _ _ _ hr h=>?_);obtain ⟨td,v,u,q,Tw,U,Tv,U',X,Y,rfl,tw,hq,hv,hu,cx,nb,bt,bb,k⟩:=h
 refine ⟨_,(ak (bK (aY eB (aj aM (pv 0) ag) fT) (ao (aE (aA fq (aA m6 (pv 1) (pv 2)) (aj aM (pv 0) ag)))) bL)
  (ao (aE (aB (pL T) hr T.n_ T.jH.kp T.n8 aD (aa (pv 0) (aa (aA m6 (aA gE (aj aM (pv 1) ag) (aj aM (pv 2) ag)) (aA gE (aj aM (pv 2) ag) (aj aM (pv 1) ag))) (aa (aA gE (aj aM (pv 1) ag) (aj aM (pv 2) ag)) ae))))))),?_⟩
 obtain ⟨x,m,h1,h2,h3⟩:=hv;obtain ⟨y,n,g1,g2,g3⟩:=hu;obtain ⟨a1,ha⟩:=h2;obtain ⟨b1,hb⟩:=g2;have key:q∣(x*n-y*m)*(U*U')-(Tw*U'-Tv*U)*(m*n):=⟨n*U'*a1-m*U*b1,by grind⟩
 rcases tw with ⟨rfl,tw⟩ | ⟨qn,tw⟩
 ·cases h1 with
  | rem _ _ _=>lia
  | @a7 p _ _ ep l bx bm=>
   cases g1 with
   | rem _ _ _=>lia
   | @a7 r _ _ er l' fF bn=>
    have mx:=g_ bx cx;have mm:=g_ bm cx;have my:=g_ fF cx;have mn:=g_ bn cx;have m0:=l.pos;have n0:=l'.pos;have zH:m*n≠0:=ya (oB (by lia) (by lia))
    refine aw fun _ hR=>⟨_,rfl,td,_,_,_,rfl,rfl,.of tw,rfl,rfl,false,by decide +kernel,bM (hR _ _ ?_)⟩
    refine ⟨_,rfl,_,rfl,p,_,_,_,rfl,rfl,.of ep,rfl,_,rfl,r,_,_,_,rfl,rfl,.of er,rfl,_,_,rfl,rfl,⟨mx,mn⟩,_,rfl,r,_,_,_,rfl,rfl,.of er,rfl,_,rfl,p,_,_,_,rfl,rfl,.of ep,rfl,_,_,rfl,rfl,⟨my,mm⟩,_,_,rfl,rfl,_,rfl,p,_,_,_,rfl,rfl,.of ep,rfl,_,rfl,r,_,_,_,rfl,rfl,.of er,rfl,_,_,rfl,rfl,⟨mm,mn⟩,td,0,x*n-y*m,m*n,10 ^ 300,rfl,.inl ⟨rfl,tw⟩,.inl rfl,fun z=>zH (eS.mp z),?_,aQ (mi bm bn cx) (by decide +kernel),aN _,fun v' H' s' w'=>k v' H' s' ?_⟩
    ·have h1:=mi bx bn cx
     have h2:=mi fF bm cx;exact aQ (show _≤10 ^ 280+10 ^ 280 by lia) (by decide +kernel)
    ·refine (w'.eq (.inl rfl) ?_ nb).bd bt bb
     have:=eS.mp key;exact Cg.of_eq (by dsimp only;grind)
 ·have cQ:2≤q∧q≤997∧fz q=true:=by rcases hq with h | h;exact absurd h qn;exact h
  have qp:0<q:=by lia
  cases h1 with
  | a7 _ _ _ _=>exact absurd rfl qn
  | rem x0 x1 x2=>
   cases g1 with
   | a7 _ _ _ _=>exact absurd rfl qn
   | rem y0 y1 y2=>
    refine aw fun _ hR=>⟨_,rfl,td,_,_,_,rfl,rfl,.of tw,rfl,rfl,true,by decide +kernel,dQ ?_⟩
    refine ⟨_,rfl,_,rfl,_,_,rfl,rfl,_,rfl,td,_,_,_,rfl,rfl,.of tw,rfl,_,_,rfl,rfl,qp,k _ _ (af.refl _) ⟨_,1,.rem (fg _ (by lia)) (fI _ qp) cQ.2.1,?_,nb⟩⟩
    have c:Cg q ((x-y) % q*(U*U')) ((x-y)*(U*U')):=(qI q _).mulR (U*U');have c2:Cg q ((x-y)*(U*U')) ((Tw*U'-Tv*U)*1):=by
     have e:(x*1-y*1)*(U*U')-(Tw*U'-Tv*U)*(1*1)=(x-y)*(U*U')-(Tw*U'-Tv*U)*1:=by grind
     unfold Cg;rw [←e];exact key
    exact c.trans c2
theorem Yu:aZ ["told","a","b"] ["told","a","b"] (aG Co):=bw
theorem Yv(T:Txt K mg t):aS P w K mg base bH 3 t.r6 t.vN ["told","a","b"] Vq:=by
 have S:=Yu
 refine T.xi.bQ S (fun _ _ _ _ H _ _ _ hr h=>?_)
 obtain ⟨td,v,u,q,Tw,U,Tv,U',X,Y,rfl,tw,hq,hv,hu,cx,nt,bt,bb,k⟩:=h
 refine ⟨_,(ak (bK (aY eB (aj aM (pv 0) ag) fT) (ao (aE (aA fq (aA gC (pv 1) (aB (Oc T) hr T.Gj T.tE.kp T.Gi aD (aa (pv 2) (aa (aj aM (pv 0) ag) ae)))) (aj aM (pv 0) ag)))) bL)
  (ao (aE (aB (pL T) hr T.n_ T.jH.kp T.n8 aD (aa (pv 0) (aa (aA gE (aj aM (pv 1) ag) (aj aM (pv 2) ag)) (aa (aA gE (aj aM (pv 1) ag) (aj aM (pv 2) ag)) ae))))))),?_⟩
 have Yw:∀{y n},aV X H q u y n→q∣y*U'-Tv*n→¬q∣U'→y≠0:=fun{y n} g1 g2 g3 e=>nt ((k9 hq ⟨y,n,g1,g2,g3⟩).mpr ⟨y,n,g1,e⟩)
 obtain ⟨x,m,h1,h2,h3⟩:=hv
 obtain ⟨y,n,g1,g2,g3⟩:=hu
 have y0:=Yw g1 g2 g3
 have nb:¬q∣U*Tv:=eX hq h3 nt
 rcases tw with ⟨rfl,tw⟩ | ⟨qn,tw⟩
 ·cases h1 with
  | rem _ _ _=>lia
  | @a7 p _ _ ep l bx bm=>
   cases g1 with
   | rem _ _ _=>lia
   | @a7 r _ _ er l' fF bn=>
    have mx:=g_ bx cx
    have mm:=g_ bm cx
    have my:=g_ fF cx
    have mn:=g_ bn cx
    have m0:=l.pos
    have Yx:m*y≠0:=fun z=>(mL.mp z).elim (fun z=>by lia) y0
    have e1:=eS.mp h2
    have e2:=eS.mp g2
    refine aw fun _ hR=>⟨_,rfl,td,_,_,_,rfl,rfl,.of tw,rfl,rfl,false,by decide +kernel,bM (hR _ _ ?_)⟩
    refine ⟨_,rfl,_,rfl,p,_,_,_,rfl,rfl,.of ep,rfl,_,rfl,r,_,_,_,rfl,rfl,.of er,rfl,_,_,rfl,rfl,⟨mx,mn⟩,_,rfl,p,_,_,_,rfl,rfl,.of ep,rfl,_,rfl,r,_,_,_,rfl,rfl,.of er,rfl,_,_,rfl,rfl,⟨mm,my⟩,td,0,x*n,m*y,10 ^ 300,rfl,.inl ⟨rfl,tw⟩,.inl rfl,fun z=>Yx (eS.mp z),aQ (mi bx bn cx) (by decide +kernel),aQ (mi bm fF cx) (by decide +kernel),aN _,fun v' H' s' w'=>k v' H' s' ?_⟩
    refine (w'.eq (.inl rfl) (Cg.of_eq ?_) nb).bd bt bb
    have a1:x*U=Tw*m:=by lia
    have a2:Tv*n=y*U':=by lia
    calc x*n*(U*Tv)=x*U*(Tv*n):=by grind
     _=Tw*m*(y*U'):=by rw [a1,a2]
     _=Tw*U'*(m*y):=by grind
 ·have cQ:2≤q∧q≤997∧fz q=true:=by rcases hq with h | h;exact absurd h qn;exact h
  have qp:0<q:=by lia
  cases h1 with
  | a7 _ _ _ _=>exact absurd rfl qn
  | rem x0 x1 x2=>
   cases g1 with
   | a7 _ _ _ _=>exact absurd rfl qn
   | rem z0 z1 z2=>
    have nd:¬q∣y:=fun z=>by
     have:=Int.le_of_dvd (by lia) z
     lia
    refine aw fun _ hR=>⟨_,rfl,td,_,_,_,rfl,rfl,.of tw,rfl,rfl,true,by decide +kernel,dQ ?_⟩
    refine ⟨_,rfl,_,rfl,_,rfl,td,_,_,_,rfl,rfl,.of tw,rfl,y,q,rfl,cQ.1,cQ.2.1,cQ.2.2,nd,fun r H1 s1 r0 r1 rd=>?_⟩
    refine ⟨_,_,rfl,rfl,.inl ⟨by lia,by lia⟩,_,rfl,td,_,_,_,rfl,rfl,.of (s1 _ _ tw),rfl,_,_,rfl,rfl,qp,k _ _ s1 ⟨_,1,.rem (fg _ (by lia)) (fI _ qp) cQ.2.1,?_,nb⟩⟩
    have c:Cg q (x*r % q*(U*Tv)) (x*r*(U*Tv)):=(qI q _).mulR (U*Tv)
    obtain ⟨a1,ha⟩:=h2
    obtain ⟨b1,hb⟩:=g2
    obtain ⟨c1,hc⟩:=rd
    have c2:Cg q (x*r*(U*Tv)) (Tw*U'*1):=⟨r*Tv*a1-Tw*r*b1+Tw*U'*c1,by grind⟩
    exact c.trans c2
theorem Yy:aZ ["told"] ["told"] (aG Cr):=bw
theorem mB(T:Txt K mg t):aS P w K mg base bH 3 t.sk t.vQ ["told"] Vr:=by have S:=Yy;refine T.iD.bQ S (fun _ _ _ s H _ _ _ hr h=>?_);obtain ⟨td,q,rfl,tw,hq,k⟩:=h;refine ⟨_,(ao (aE (aB (pL T) hr T.n_ T.jH.kp T.n8 aD (aa (pv 0) (aa ag (aa ag ae)))))),?_⟩;exact ⟨_,rfl,td,q,0,1,1000,rfl,tw,hq,uP hq,by decide,by decide,by decide +kernel,fun v H' s w=>k v H' s (Vs hq w (by decide))⟩
theorem Yz:aZ ["script","k"] ["script","k"] (aG Cc):=bw
theorem YA(T:Txt K mg t):aS P w K mg base bH 1 t.rP t.vE ["script","k"] (U4 K):=by
 have S:=Yz;refine T.xf.bQ S (fun _ _ _ _ H _ _ _ hr h=>?_);obtain ⟨a,ns,k,rfl,hS,kk⟩:=h
 refine ⟨_,(ak (bK (aY lV (pv 1) (b6 eC rfl T.dY d8 (aa (pv 0) ae))) (ao (aE (aj a9 (pv 0) (pv 1)))) bL)
  (ao (aE ag))),?_⟩
 refine aw fun _ hR=>⟨_,rfl,_,rfl,a,_,rfl,.inl hS,_,_,rfl,rfl,_,rfl,bS (fun hb=>?_) (fun hb=>hR _ _ (kk 0))⟩;have hb:=dN hb;rw [aX] at hb;have hk:k<ns.length:=by lia
 exact ⟨_,rfl,_,rfl,a,_,_,_,rfl,rfl,hS,jo (by rw [cC,cY hk];rfl),kk _⟩
theorem YB:aZ ["found"] ["found"] (aG CD):=bw
theorem GN(T:Txt K mg t):aS P w K mg base bH 1 t.sI t.v_ ["found"] J2:=by
 have S:=YB;refine T.pH.bQ S (fun _ _ _ _ H _ Q _ hr h=>?_);obtain ⟨v,rfl,ha,k⟩:=h;refine ⟨_,(ao (aE (oG (b6 (kU (K:=K)) rfl T.kr boot_isinstance (aa (pv 0) (aa (kJ (v:=.ty "int") rfl T.zt boot_int rfl) ae))) (ue (IQ (b6 (kU (K:=K)) rfl T.kr boot_isinstance (aa (pv 0) (aa (kJ (v:=.ty "bool") rfl T.Gs boot_bool rfl) ae)))))))),?_⟩;obtain ⟨Ty,ty,k1,k2,_⟩:=ha.AY (K:=K);refine ⟨_,rfl,_,_,_,_,rfl,rfl,ty,k1,_,rfl,bS (fun h1=>?_) (fun h1=>?_)⟩
 ·refine ⟨_,rfl,_,_,_,_,rfl,rfl,ty,k2,_,rfl,?_⟩
  have e:(!nJ v)=nH v:=by
   cases h2:nJ v with
   | true=>rw [J1 h2];rfl
   | false=>rw [h2,Bool.or_false] at h1;rw [h1];rfl
  show Q (.bl (!nJ v)) H;rw [e];exact k
 ·have e:nH v=false:=by
   cases h2:nH v with
   | true=>rw [h2] at h1;exact absurd rfl h1
   | false=>rfl
  rw [e] at k;exact k
theorem YC:aZ ["tape","many","found"] ["tape","many"] (aG Ce):=bw
theorem lC(T:Txt K mg t):aS P w K mg base bH 1 t.rR t.vG ["tape","many"] U6:=by
 have S:=YC;refine T.gT.bQ S (fun _ _ _ _ H _ _ _ hr h=>?_);obtain ⟨Tp,m,rfl,⟨x,e⟩,m1,m2,kk⟩:=h
 refine ⟨_,(ak (putL 2 S.nd (aA fq (aj a9 (pv 0) ag) (pv 1)))
  (ak (@ig _ _ _ _ _ _ (aA AG (aj a9 (pv 0) ag) (pv 1)) (jf (pv 0) ag set_list) (by rfl) (by rfl) (by rfl))
  (ao (aE (pv 2))))),?_⟩
 have p0:(0:Int)<(m:Int):=by lia
 refine aw fun _ hR=>a8 ⟨_,rfl,Tp,_,_,_,rfl,rfl,.of e,rfl,_,rfl,_,_,rfl,rfl,p0,hR _ _ ?_⟩;refine aw fun _ hR=>⟨_,rfl,Tp,_,_,_,rfl,rfl,.of e,rfl,_,rfl,_,_,rfl,rfl,⟨p0,by lia⟩,_,rfl,Tp,_,0,0,rfl,rfl,e,rfl,hR _ _ ?_⟩
 have d0:=fg x (show (m:Int)≠0 by lia)
 have d1:=fI x p0;obtain ⟨d,ed⟩:=p8 d0;refine ⟨_,rfl,?_⟩;dsimp only;rw [ed];exact kk d _ (by lia) bJ.upd ⟨_,ay⟩
theorem YD:aZ ["script","k","cell","p","number","last","turn"] ["script","k"] (aG Cd):=bw
theorem Dn(T:Txt K mg t):aS P w K mg base bH 2 t.rQ t.vF ["script","k"] (U5 K):=by
 have S:=YD;refine T.n5.bQ S (fun _ _ _ _ H _ _ _ hr h=>?_);obtain ⟨a,ns,k,rfl,hS,k1,kk⟩:=h
 refine ⟨_,(ak (putL 2 S.nd (aB (YA T) hr T.MS T.xf.kp T.MR aD (aa (pv 0) (aa (pv 1) ae))))
  (ak (bK (aY eB (aA fq (pv 2) ag) ag) (ao (aE (fV (aa (aA AG (pv 2) ag) ae)))) bL)
  (ak (putL 3 S.nd ag)
  (ak (putL 4 S.nd ag)
  (ak (putL 5 S.nd (aA fq (aA fo (aA fo (aA gC (aA fq (pv 2) (pv 3)) ag) (aA gC ag (pv 1))) ag) (pv 3)))
  (ak (cI cb rfl (eA rfl T.da (aa ag ae)) (bP (i:=6) S.nd rfl (Or.inl rfl))
   (ak (putL 4 S.nd (aA fo (aA gC (pv 4) (pv 3)) (pv 5)))
  (ao (putL 5 S.nd (aA fq (aA fo (aA fo (aA gC (pv 5) (pv 5)) (aA gC ag (pv 1))) (pv 6)) (pv 3))))))
  (ao (aE (fV (aa (pv 4) ae)))))))))),?_⟩
 have p2:(0:Int)<2:=by decide
 have pp:(0:Int)<2305843009213693951:=by decide
 refine aw fun _ hR=>a8 ⟨_,rfl,_,rfl,a,ns,k,rfl,hS,fun z=>hR _ _ ?_⟩;refine aw fun _ hR=>⟨_,rfl,_,_,rfl,rfl,p2,rfl,_,rfl,bS (fun hb=>?_) (fun hb=>hR _ _ ?_)⟩
 ·refine ⟨_,rfl,_,_,rfl,rfl,⟨p2,by decide⟩,by show 1≤sizeLine;decide,fun Tp zI=>?_⟩
  exact kk Tp _ (bf zI) zI ⟨_,ay⟩
 ·refine aw fun _ hR=>a8 (hR _ _ ?_)
  refine aw fun _ hR=>a8 (hR _ _ ?_);refine aw fun _ hR=>a8 ⟨_,rfl,_,rfl,_,_,rfl,rfl,pp,_,_,rfl,rfl,.inr ⟨by decide,by decide⟩,_,rfl,_,_,rfl,rfl,.inl ⟨by decide,by decide⟩,_,_,rfl,rfl,_,_,rfl,rfl,_,rfl,_,_,rfl,rfl,pp,hR _ _ ?_⟩
  have l0:=fg (z % 2305843009213693951*48271+69621*(k:Int)+11) (show (2305843009213693951:Int)≠0 by decide)
  have l1:=fI (z % 2305843009213693951*48271+69621*(k:Int)+11) pp;dsimp only;generalize (z % 2305843009213693951*48271+69621*(k:Int)+11) % 2305843009213693951=la at l0 l1 ⊢;refine aw fun _ hR=>⟨7,rfl,by decide,by decide,?_⟩
  refine gB (fun i σ Hc=>Hc=H∧∃(nu la:Int) (v6:Option V),σ=[some (.ref a),some (.int (k:Int)),some (.int z),some (.int 2305843009213693951),some (.int nu),some (.int la),v6]∧0≤la∧la<2305843009213693951) ⟨rfl,_,_,_,rfl,l0,l1⟩ ?_ ?_
  ·rintro i σ Hc hi ⟨rfl,nu,la,v6,rfl,l0,l1⟩
   dsimp only [bR];refine aw fun _ hR=>a8 ⟨_,rfl,_,rfl,_,_,rfl,rfl,.inr ⟨by decide,by decide⟩,_,rfl,_,_,rfl,rfl,hR _ _ ?_⟩
   refine ⟨_,rfl,_,rfl,_,_,rfl,rfl,.inl ⟨by lia,by lia⟩,_,rfl,_,_,rfl,rfl,.inl ⟨by decide,by decide⟩,_,_,rfl,rfl,_,rfl,_,_,rfl,rfl,_,rfl,_,_,rfl,rfl,pp,?_⟩
   refine ⟨rfl,_,_,_,rfl,?_,?_⟩;·exact fg _ (by decide)
   ·exact fI _ pp
  ·rintro σ Hc ⟨rfl,nu,la,v6,rfl,_,_⟩
   refine hR _ _ ?_;refine ⟨_,rfl,by show 1≤sizeLine;decide,fun Tp zI=>?_⟩
   exact kk Tp _ (bf zI) zI ⟨_,ay⟩
theorem YE:aZ ["told","tape","top"] ["told","tape"] (aG Cq):=bw
theorem Dp(T:Txt K mg t):aS P w K mg base bH 3 t.r_ t.vP ["told","tape"] Vt:=by
 have S:=YE;refine T.og.bQ S (fun _ _ _ _ H _ _ _ hr h=>?_);obtain ⟨td,Tp,q,rfl,tw,hq,tc,k⟩:=h
 refine ⟨_,(ak (bK (PW.pt (pw_and (aY eB (aj aM (pv 0) ag) fT) (pw_and1 (aY eB (aB (lC T) hr T.jG T.gT.kp T.jF aD (aa (pv 1) (aa ag ae))) ag)))) (ao (aE (aB (lC T) hr T.jG T.gT.kp T.jF aD (aa (pv 1) (aa (aj aM (pv 0) ag) ae))))) bL)
  (ak (putL 2 S.nd (aA m6 (aB (lC T) hr T.jG T.gT.kp T.jF aD (aa (pv 1) (aa ag ae))) ag))
  (ak (bK (aY eB (aj aM (pv 0) ag) fT) (ao (aE (aA fq (pv 2) (aj aM (pv 0) ag)))) bL)
  (ao (aE (aB (pL T) hr T.n_ T.jH.kp T.n8 aD (aa (pv 0) (aa (pv 2) (aa (aj a9 (fV (aa ag (aa ag (aa ag (aa ag (aa ag ae)))))) (aB (lC T) hr T.jG T.gT.kp T.jF aD (aa (pv 1) (aa ag ae)))) ae))))))))),?_⟩
 rcases id tw with ⟨q0,e0⟩ | ⟨qn,e0⟩
 ·refine aw fun _ hR=>⟨_,rfl,td,_,_,_,rfl,rfl,.of e0,rfl,rfl,false,by decide +kernel,bM (bM (hR _ _ ?_))⟩
  refine aw fun _ hR=>a8 ⟨_,rfl,Tp,7,rfl,tc,by decide,by decide,fun d H1 d7 o1 t1=>⟨_,_,rfl,rfl,hR _ _ ?_⟩⟩
  have tw1:=tw.off o1 tc;obtain ⟨_,e1⟩ | ⟨qn,_⟩:=id tw1
  ·refine aw fun _ hR=>⟨_,rfl,td,_,_,_,rfl,rfl,.of e1,rfl,rfl,false,by decide +kernel,bM (hR _ _ ?_)⟩
   refine ⟨_,rfl,_,rfl,by show 5≤sizeLine;decide,fun l nl=>?_⟩
   have sl:af H1 (upd H1 l (.lst [.int 1,.int 1,.int 1,.int 2,.int 3])):=bf nl;have el:upd H1 l (.lst [.int 1,.int 1,.int 1,.int 2,.int 3]) l=some (.lst [.int 1,.int 1,.int 1,.int 2,.int 3]):=ay;have lT:l≠Tp:=t1.ne nl;generalize upd H1 l (.lst [.int 1,.int 1,.int 1,.int 2,.int 3])=H2 at sl el ⊢;have t2:=t1.mono sl;refine ⟨_,rfl,Tp,5,rfl,t2,by decide,by decide,fun j H3 j5 o3 t3=>?_⟩
   obtain ⟨b,eb,hb⟩:∃b:Int,jn [V.int 1,.int 1,.int 1,.int 2,.int 3] (j:Int)=some (.int b)∧(b=1∨b=2∨b=3):=by
    match j,j5 with
    | 0,_=>exact ⟨1,rfl,.inl rfl⟩
    | 1,_=>exact ⟨1,rfl,.inl rfl⟩
    | 2,_=>exact ⟨1,rfl,.inl rfl⟩
    | 3,_=>exact ⟨2,rfl,.inr (.inl rfl)⟩
    | 4,_=>exact ⟨3,rfl,.inr (.inr rfl)⟩
   have tw3:=(tw1.mono sl).off o3 t2;refine ⟨l,_,_,_,rfl,rfl,.of (o3 _ _ lT el),eb,td,q,(d:Int)-3,b,1000,rfl,tw3,hq,?_,by lia,by lia,by decide +kernel,fun v H4 s4 w4=>?_⟩
   ·rw [q0]
    intro z;have:=eS.mp z;lia
   ·obtain ⟨x,m,g1,g2,g3⟩:=Ly w4 (by lia) (by lia) q0
    exact k v x m H4 (o1.trans ((bJ.of sl).trans (o3.trans (bJ.of s4)))) (t3.mono s4) g1 fun _=>⟨by lia,kD g3 (by rcases hb with rfl | rfl | rfl <;> decide)⟩
  ·exact absurd q0 qn
 ·have cQ:2≤q∧q≤997∧fz q=true:=by rcases hq with h | h;exact absurd h qn;exact h
  have qp:0<q:=by lia
  refine aw fun _ hR=>⟨_,rfl,td,_,_,_,rfl,rfl,.of e0,rfl,rfl,true,by decide +kernel,dQ ?_⟩
  refine ⟨_,rfl,Tp,4,rfl,tc,by decide,by decide,fun d H1 d4 o1 t1=>?_⟩
  have tw1:=tw.off o1 tc;obtain ⟨z,_⟩ | ⟨_,e1⟩:=id tw1;·exact absurd z qn
  refine ⟨rfl,_,rfl,bS (fun hb=>?_) (fun hb=>hR _ _ ?_)⟩
  ·refine ⟨_,rfl,_,rfl,td,_,_,_,rfl,rfl,.of e1,rfl,Tp,q.toNat,by show [V.ref Tp,V.int q]=_;rw [Int.toNat_of_nonneg (by lia)],t1,by lia,by lia,fun d2 H2 d2l o2 t2=>?_⟩
   exact k _ (d2:Int) 1 H2 (o1.trans o2) t2 (.rem (by lia) (by lia) cQ.2.1) fun z=>absurd z qn
  ·refine aw fun _ hR=>a8 ⟨_,rfl,Tp,7,rfl,t1,by decide,by decide,fun d2 H2 d7 o2 t2=>⟨_,_,rfl,rfl,hR _ _ ?_⟩⟩
   have tw2:=tw1.off o2 t1;obtain ⟨z,_⟩ | ⟨_,e2⟩:=id tw2;·exact absurd z qn
   refine aw fun _ hR=>⟨_,rfl,td,_,_,_,rfl,rfl,.of e2,rfl,rfl,true,by decide +kernel,dQ ?_⟩
   refine ⟨_,rfl,_,rfl,td,_,_,_,rfl,rfl,.of e2,rfl,_,_,rfl,rfl,qp,k _ _ 1 H2 (o1.trans o2) t2 (.rem (fg _ (by lia)) (fI _ qp) cQ.2.1) fun z=>absurd z qn⟩
theorem YF:aZ ["tape","way","wheels"] ["tape"] (aG Cp):=bw
theorem YG(T:Txt K mg t):aS P w K mg base bH 2 t.r9 t.vO ["tape"] Vu:=by
 have S:=YF;have Of:=lC (P:=P) (w:=w) (base:=base) T;refine T.xj.bQ S (fun _ _ _ _ H _ _ _ hr h=>?_);obtain ⟨Tp,rfl,tc,k⟩:=h
 refine ⟨_,(@ak _ _ _ _ _ (@A3 _ _ 1 _ _ _ _ (by rfl) (by first | exact .inl rfl | exact .inr rfl | assumption) S.nd rfl (Or.inl rfl) (Em Of (hr.mono (by decide)) rfl T.jG T.gT.kp T.jF .nil aD (@eW _ _ _ _ _ (by rfl) (pv 0) (@eW _ _ _ _ _ (by rfl) ag ae))))
   (@ak _ _ _ _ _ (@A3 _ _ 2 _ _ _ _ (by rfl) (by first | exact .inl rfl | exact .inr rfl | assumption) S.nd rfl (Or.inl rfl) (@fV _ _ _ _ (@eW _ _ _ _ _ (by rfl) ag (@eW _ _ _ _ _ (by rfl) ag (@eW _ _ _ _ _ (by rfl) ag (@eW _ _ _ _ _ (by rfl) ag (@eW _ _ _ _ _ (by rfl) ag (@eW _ _ _ _ _ (by rfl) ag (@eW _ _ _ _ _ (by rfl) ag (@eW _ _ _ _ _ (by rfl) (@yr _ _ _ _ _ _ _ a9 (@fV _ _ _ _ (@eW _ _ _ _ _ (by rfl) ag (@eW _ _ _ _ _ (by rfl) ag (@eW _ _ _ _ _ (by rfl) ag ae)))) (Em Of (hr.mono (by decide)) rfl T.jG T.gT.kp T.jF .nil aD (@eW _ _ _ _ _ (by rfl) (pv 0) (@eW _ _ _ _ _ (by rfl) ag ae))) (fun _ _=>rfl)) ae))))))))))
   (@ao _ _ _ (@aE _ _ _ _ (@yr _ _ _ _ _ _ _ a9 (@fV _ _ _ _ (@eW _ _ _ _ _ (by rfl) (@fU _ _ _ _ _ (@eW _ _ _ _ _ (by rfl) fT (@eW _ _ _ _ _ (by rfl) (@yr _ _ _ _ _ _ _ a9 (pv 2) (pv 1) (fun _ _=>rfl)) ae))) (@eW _ _ _ _ _ (by rfl) (@fU _ _ _ _ _ (@eW _ _ _ _ _ (by rfl) fT ae)) ae))) (jj Jn rfl T.zt boot_int (@eW _ _ _ _ _ (by rfl) (@AJ _ _ _ _ _ _ _ _ eB (@yr _ _ _ _ _ _ _ a9 (pv 2) (pv 1) (fun _ _=>rfl)) ag (Ei _)) ae)) (fun _ _=>rfl)))))),?_⟩
 refine aw fun _ hR=>a8 ⟨_,rfl,Tp,8,rfl,tc,by decide,by decide,fun wy H1 w8 o1 t1=>hR _ _ ?_⟩
 refine aw fun _ hR=>a8 ⟨by show 3≤sizeLine;decide,fun l1 n1=>?_⟩
 have s1:af H1 (upd H1 l1 (.lst [.int 97,.int 13,.int 11])):=bf n1;have e1:upd H1 l1 (.lst [.int 97,.int 13,.int 11]) l1=some (.lst [.int 97,.int 13,.int 11]):=ay;have lT:l1≠Tp:=t1.ne n1;generalize upd H1 l1 (.lst [.int 97,.int 13,.int 11])=H2 at s1 e1 ⊢;have t2:=t1.mono s1;refine ⟨_,rfl,Tp,3,rfl,t2,by decide,by decide,fun j H3 j3 o3 t3=>?_⟩
 obtain ⟨w3,ew,hw⟩:∃w3:Int,jn [V.int 97,.int 13,.int 11] (j:Int)=some (.int w3)∧(w3=97∨w3=13∨w3=11):=by
  match j,j3 with
  | 0,_=>exact ⟨97,rfl,.inl rfl⟩
  | 1,_=>exact ⟨13,rfl,.inr (.inl rfl)⟩
  | 2,_=>exact ⟨11,rfl,.inr (.inr rfl)⟩
 refine ⟨l1,_,_,_,rfl,rfl,.of (o3 _ _ lT e1),ew,by show 8≤sizeLine;decide,fun l2 n2=>hR _ _ ?_⟩
 have s3:af H3 (upd H3 l2 (.lst [.int 0,.int 2,.int 3,.int 5,.int 7,.int 0,.int 997,.int w3])):=bf n2;have e3:upd H3 l2 (.lst [.int 0,.int 2,.int 3,.int 5,.int 7,.int 0,.int 997,.int w3]) l2=some (.lst [.int 0,.int 2,.int 3,.int 5,.int 7,.int 0,.int 997,.int w3]):=ay;generalize upd H3 l2 (.lst [.int 0,.int 2,.int 3,.int 5,.int 7,.int 0,.int 997,.int w3])=H4 at s3 e3 ⊢;have t4:=t3.mono s3;have o4:bJ Tp H H4:=o1.trans ((bJ.of s1).trans (o3.trans (bJ.of s3)));obtain ⟨q,Og,hq⟩:∃q:Int,jn [V.int 0,.int 2,.int 3,.int 5,.int 7,.int 0,.int 997,.int w3] (wy:Int)=some (.int q)∧Fy q=true:=by
  match wy,w8 with
  | 0,_=>exact ⟨0,rfl,by decide⟩
  | 1,_=>exact ⟨2,rfl,by decide⟩
  | 2,_=>exact ⟨3,rfl,by decide⟩
  | 3,_=>exact ⟨5,rfl,by decide⟩
  | 4,_=>exact ⟨7,rfl,by decide⟩
  | 5,_=>exact ⟨0,rfl,by decide⟩
  | 6,_=>exact ⟨997,rfl,by decide⟩
  | 7,_=>exact ⟨w3,rfl,by rcases hw with rfl | rfl | rfl <;> decide⟩
 have hq:=Vv hq;refine ⟨_,rfl,_,rfl,l2,_,_,_,rfl,rfl,.of e3,Og,by show 2≤sizeLine;decide,fun a1 m1=>?_⟩
 have s5:af H4 (upd H4 a1 (.tup [.str (Str.ofString "wheel"),.int q])):=bf m1;have e5:upd H4 a1 (.tup [.str (Str.ofString "wheel"),.int q]) a1=some (.tup [sV "wheel",.int q]):=ay;generalize upd H4 a1 (.tup [.str (Str.ofString "wheel"),.int q])=H5 at s5 e5 ⊢;refine ⟨by show 1≤sizeLine;decide,fun a2 m2=>?_⟩
 have s6:af H5 (upd H5 a2 (.tup [.str (Str.ofString "fractions")])):=bf m2;have e6:upd H5 a2 (.tup [.str (Str.ofString "fractions")]) a2=some (.tup [sV "fractions"]):=ay;generalize upd H5 a2 (.tup [.str (Str.ofString "fractions")])=H6 at s6 e6 ⊢;refine ⟨by show 2≤sizeLine;decide,fun l3 n3=>?_⟩
 have s7:af H6 (upd H6 l3 (.lst [.ref a1,.ref a2])):=bf n3;have e7:upd H6 l3 (.lst [.ref a1,.ref a2]) l3=some (.lst [.ref a1,.ref a2]):=ay;generalize upd H6 l3 (.lst [.ref a1,.ref a2])=H7 at s7 e7 ⊢;have GO:=s5.trans (s6.trans s7);have o7:bJ Tp H H7:=o4.trans (bJ.of GO);have t7:=t4.mono GO;refine ⟨_,rfl,_,rfl,l2,_,_,_,rfl,rfl,.of (GO _ _ e3),Og,rfl,.inr ⟨decide (V.int q=V.int 0),rfl,?_⟩⟩;by_cases z:q=0
 ·rw [ar (by rw [z];decide)]
  exact ⟨l3,_,_,_,rfl,rfl,.of e7,rfl,k a2 q H7 o7 t7 (.inl ⟨z,s7 _ _ e6⟩) hq⟩
 ·rw [au (by rw [f_,dc z];exact de)]
  exact ⟨l3,_,_,_,rfl,rfl,.of e7,rfl,k a1 q H7 o7 t7 (.inr ⟨z,s7 _ _ (s6 _ _ e5)⟩) hq⟩
theorem YH:aZ ["told","tape","size"] ["told","tape","size"] (aG Cv):=bw
theorem YI(T:Txt K mg t):aS P w K mg base bH 4 t.sA t.vU ["told","tape","size"] Vx:=by
 have S:=YH;refine T.xo.bQ S (fun _ _ _ _ H _ _ _ hr h=>?_);obtain ⟨td,Tp,q,n,rfl,tw,hq,tc,xG,k⟩:=h;refine ⟨_,(ao (aE (j8 (N:=["j","told","tape"]) (ρ:=(fun σ=>[σ[0]?.join,σ[1]?.join])) (eV [0,1] rfl) rfl (eA rfl T.da (aa (pv 2) ae)) (fun _ _ _=>.nil) (fun _ _ _=>(aB (Dp T) hr T.zk T.og.kp T.zh aD (aa (pv 1) (aa (pv 2) ae))))))),?_⟩;refine gP (Vw (n:=n) (cB (by lia)) tc (fun R h=>⟨_,rfl,(n:Int),rfl,by lia,by lia,by rw [df];exact h⟩) (fun _ i y Hx=>∃x m,aV 1000 Hx q y x m∧mj q x m) (fun D i y Ha Hb ys ⟨x,m,h1,h2⟩ t e f=>⟨x,m,h1.off t e f,h2⟩) (fun D i hi Hc R oc eM _ _ _ kR=>⟨_,rfl,_,rfl,td,Tp,q,rfl,tw.off oc tc,hq,eM,fun v x m H' o' t' nu sm=>kR v H' o' t' ⟨x,m,nu,sm⟩⟩) fun D ys Hc DT nD oc eM ly hP eD=>?_)
 have ex:∃ps:List (Int×Int),ps.length=n∧∀i,i<n→aV 1000 Hc q (ys.getD i .aI) (ps.getD i (0,1)).1 (ps.getD i (0,1)).2∧mj q (ps.getD i (0,1)).1 (ps.getD i (0,1)).2:=by
  have one:∀i,i<n→∃p:Int×Int,aV 1000 Hc q (ys.getD i .aI) p.1 p.2∧mj q p.1 p.2:=fun i hi=>by
   have hy:i<ys.length:=by lia
   obtain ⟨x,m,h1,h2⟩:=hP i ys[i] (cY hy);exact ⟨(x,m),by rw [getD_at hy];exact h1,h2⟩
  refine ⟨(List.range n).map fun i=>if h:i<n then (one i h).choose else (0,1),by simp,fun i hi=>?_⟩
  have e:((List.range n).map fun i=>if h:i<n then (one i h).choose else (0,1)).getD i (0,1)=(one i hi).choose:=by rw [i6,cC,i7 hi];simp [hi]
  rw [e];exact (one i hi).choose_spec
 obtain ⟨ps,lp,hp⟩:=ex;refine k D ps Hc oc eM nD ⟨ys,eD,by lia,fun i v p h1 h2=>?_⟩ lp fun p YJ=>?_
 ·have i1:=(bZ.mp h1).1
  have i2:=(bZ.mp h2).1;have:=(hp i (by lia)).1
  rwa [getD_at i1,getD_at i2,(bZ.mp h1).2,(bZ.mp h2).2] at this
 ·obtain ⟨i,hi,e⟩:=yg YJ
  have:=(hp i (by lia)).2
  rwa [getD_at hi,e] at this
theorem YK:aZ ["tape","size","links","often","j","i"] ["tape","size"] (aG Ct):=bw
theorem YL(T:Txt K mg t):aS P w K mg base bH 2 t.sr t.vS ["tape","size"] Vy:=by
 have S:=YK;refine T.xl.bQ S (fun _ _ _ _ H _ _ _ hr h=>?_);obtain ⟨Tp,n,rfl,tc,YM,k⟩:=h
 refine ⟨_,(ak (putL 2 S.nd (fV ae))
  (ak (putL 3 S.nd (aA fo ag (aB (lC T) hr T.jG T.gT.kp T.jF aD (aa (pv 0) (aa ag ae)))))
  (ak (cI cb rfl (eA rfl T.da (aa (pv 1) ae)) (bP (i:=4) S.nd rfl (Or.inl rfl))
   (ao (cI cb rfl (eA rfl T.da (aa (pv 4) ae)) (bP (i:=5) S.nd rfl (Or.inl rfl))
   (ao (bK (aY lV (aB (lC T) hr T.jG T.gT.kp T.jF aD (aa (pv 0) (aa ag ae))) (pv 3)) (ao (gX (j4 ie mM mO iM (pv 2) (aa (fU (aa (pv 5) (aa (pv 4) ae))) ae)))) bL)))))
  (ao (aE (pv 2)))))),?_⟩
 refine aw fun _ hR=>a8 ⟨cn _,fun D nD=>hR _ _ ?_⟩;have DT:D≠Tp:=tc.ne nD;have o1:bJ Tp H (upd H D (.lst [])):=bJ.of (bf nD);have t1:b_ (upd H D (.lst [])) Tp:=tc.mono (bf nD);have e1:upd H D (.lst []) D=some (.lst []):=ay;generalize upd H D (.lst [])=H1 at o1 t1 e1 ⊢;refine aw fun _ hR=>a8 ⟨_,rfl,Tp,4,rfl,t1,by decide,by decide,fun of H2 of4 o2 t2=>⟨_,_,rfl,rfl,hR _ _ ?_⟩⟩
 have e2:=o2 _ _ DT e1;refine aw fun _ hR=>⟨_,rfl,(n:Int),rfl,by lia,by lia,?_⟩
 rw [df];refine gB (fun j σ Hc=>∃(us:List V) (L:cE) (v4 v5:Option V),σ=[some (.ref Tp),some (.int (n:Int)),some (.ref D),some (.int (1+(of:Int))),v4,v5]∧bJ Tp H Hc∧b_ Hc Tp∧Hc D=some (.lst us)∧cR Hc us L∧(∀z∈L,0≤z.1∧z.1<z.2∧z.2<(n:Int))∧L.length≤20*j) ⟨[],[],_,_,rfl,o1.trans o2,t2,e2,cR.nil _,(fun z hz=>nomatch hz),cn _⟩ ?_ ?_
 ·rintro j σ Hc hj ⟨us,L,v4,v5,rfl,oc,eM,ec,hL,lt,ll⟩
  dsimp only [bR];refine ⟨_,rfl,0+(j:Int),rfl,by lia,by lia,?_⟩
  rw [show (0+(j:Int)).toNat=j by lia]
  refine gB (fun i σ Hd=>∃(us:List V) (L:cE) (v5:Option V),σ=[some (.ref Tp),some (.int (n:Int)),some (.ref D),some (.int (1+(of:Int))),some (.int (0+(j:Int))),v5]∧bJ Tp H Hd∧b_ Hd Tp∧Hd D=some (.lst us)∧cR Hd us L∧(∀z∈L,0≤z.1∧z.1<z.2∧z.2<(n:Int))∧L.length≤20*j+i) ⟨us,L,_,rfl,oc,eM,ec,hL,lt,ll⟩ ?_ ?_
  ·clear hL ec lt ll oc eM
   rintro i σ Hd hi ⟨us,L,v5,rfl,od,Dq,ed,hL,lt,ll⟩;dsimp only [bR];refine ⟨_,rfl,Tp,4,rfl,Dq,by decide,by decide,fun d H3 d4 o3 t3=>?_⟩
   have ky:=o3 _ _ DT ed;have xK:=hL.y7 Dq o3;have Oh:=od.trans o3;refine ⟨_,rfl,_,_,rfl,rfl,_,rfl,bS (fun hb=>?_) (fun hb=>⟨us,L,_,rfl,Oh,t3,ky,xK,lt,by lia⟩)⟩
   have lu:=hL.1;refine ⟨_,rfl,.inl ⟨rfl,_,.of ky⟩,_,rfl,_,rfl,by show 2≤sizeLine;decide,fun tq mw=>⟨D,us,_,rfl,rfl,(bf mw) _ _ ky,cB (by lia),?_⟩⟩
   have st:af H3 (upd H3 tq (.tup [.int (0+(i:Int)),.int (0+(j:Int))])):=bf mw;have pM:upd H3 tq (.tup [.int (0+(i:Int)),.int (0+(j:Int))]) tq=some (.tup [.int (i:Int),.int (j:Int)]):=by rw [ay,eU,eU]
   generalize upd H3 tq (.tup [.int (0+(i:Int)),.int (0+(j:Int))])=He at st pM ⊢;refine ⟨us++[.ref tq],L++[((i:Int),(j:Int))],_,rfl,fun b u ne e=>by rw [aJ (fun zz=>by rw [zz,nD] at e;cases e)];exact st _ _ (Oh b u ne e),?_,ay,?_,fun z hz=>?_,by rw [fe,oA];lia⟩
   ·obtain ⟨x,ex⟩:=t3.mono st
    exact ⟨x,(aJ (Ne.symm DT)).trans ex⟩
   ·exact ((xK.mono st).cat (show cR He [.ref tq] [((i:Int),(j:Int))] from ⟨rfl,fun k v p h1 h2=>by
     match k,h1,h2 with
     | 0,h1,h2=>cases h1;cases h2;exact ⟨tq,rfl,pM⟩
     | k+1,h1,h2=>simp at h1⟩)).bG (st _ _ ky) fun b o nb e=>by rw [aJ nb];exact e
   ·rcases fG.mp hz with hz | hz
    ·exact lt z hz
    ·rw [dA.mp hz]
     dsimp only;lia
  ·rintro σ Hd ⟨us,L,v5,rfl,od,Dq,ed,hL,lt,ll⟩
   exact ⟨us,L,_,_,rfl,od,Dq,ed,hL,lt,by lia⟩
 ·rintro σ Hc ⟨us,L,v4,v5,rfl,oc,eM,ec,hL,lt,ll⟩
  exact hR _ _ ⟨_,rfl,k D us L Hc oc eM nD ec hL lt (by lia)⟩
theorem YN:aZ ["told","found"] ["told","found"] (aG CF):=bw
theorem YO(T:Txt K mg t):aS P w K mg base bH 2 t.sJ t.wc ["told","found"] Vz:=by
 have S:=YN;refine T.xv.bQ S (fun _ _ _ _ H _ Q _ hr h=>?_);obtain ⟨td,q,v,x,m,B,rfl,tw,hq,hv,k⟩:=h
 refine ⟨_,(ak (bK (aY eB (aj aM (pv 0) ag) fT) (ao (aE (oG (aB (GN T) hr T.CY T.pH.kp T.CW aD (aa (pv 1) ae)) (ue (Jm AI lV ag (pv 1) (aj aM (pv 0) ag)))))) bL)
  (ak (bK (PW.pt (pw_or (je (gN (b6 (kU (K:=K)) rfl T.kr boot_isinstance (aa (pv 1) (aa (kJ (v:=.ty "tuple") rfl T.xE boot_tuple rfl) ae))))) (pw_or (aY iq (b6 eC rfl T.dY d8 (aa (pv 1) ae)) ag) (pw_or (je (gN (aB (GN T) hr T.CY T.pH.kp T.CW aD (aa (aj aM (pv 1) ag) ae)))) (pw_or1 (je (gN (aB (GN T) hr T.CY T.pH.kp T.CW aD (aa (aj aM (pv 1) ag) ae))))))))) (ao (aE d9)) bL)
  (ao (aE (oG (lW oK (aj aM (pv 1) ag) ag) (ue (lW eB (aB (Ob T) hr T.Gh T.tD.kp T.Gg aD (aa (aj aM (pv 1) ag) (aa (aj aM (pv 1) ag) ae))) ag))))))),?_⟩
 rcases tw with ⟨rfl,e0⟩ | ⟨qn,e0⟩
 ·cases hv with
  | rem _ _ _=>lia
  | @a7 p _ _ e l bx bm=>
   have m0:=l.pos;refine aw fun _ hR=>⟨_,rfl,td,_,_,_,rfl,rfl,.of e0,rfl,rfl,false,by decide +kernel,bM (hR _ _ ?_)⟩
   refine aw fun _ hR=>⟨_,rfl,_,_,_,true,rfl,rfl,.of (.tup e),qD,true,rfl,bM ?_⟩;refine ⟨_,rfl,p,_,rfl,.inr (.of e),rfl,false,by rw [f_];rfl,bM ?_⟩
   refine ⟨_,rfl,p,_,_,_,rfl,rfl,.of e,rfl,.int x,rfl,.int x,true,rfl,bM ?_⟩;refine ⟨_,rfl,p,_,_,_,rfl,rfl,.of e,rfl,.int m,rfl,.int m,true,rfl,bM (hR _ _ ?_)⟩;refine ⟨_,rfl,p,_,_,_,rfl,rfl,.of e,rfl,_,_,rfl,rfl,true,by show V.bl (decide ((0:Int)<m))=_;rw [cj (show (0:Int)<m by lia)],dQ ?_⟩
   refine ⟨_,rfl,p,_,_,_,rfl,rfl,.of e,rfl,_,rfl,p,_,_,_,rfl,rfl,.of e,rfl,x,m,rfl,rfl,?_⟩;rw [l.gc];exact k
 ·have cQ:2≤q∧q≤997∧fz q=true:=by rcases hq with h | h;exact absurd h qn;exact h
  cases hv with
  | a7 _ _ _ _=>exact absurd rfl qn
  | rem x0 x1 x2=>
   refine aw fun _ hR=>⟨_,rfl,td,_,_,_,rfl,rfl,.of e0,rfl,rfl,true,by decide +kernel,dQ ?_⟩
   refine ⟨_,rfl,.int x,rfl,.int x,true,rfl,dQ ?_⟩;refine ⟨_,rfl,_,_,rfl,rfl,true,by show V.bl (decide ((0:Int)≤x))=_;rw [cj x0],dQ ?_⟩
   refine ⟨_,rfl,td,_,_,_,rfl,rfl,.of e0,rfl,_,_,rfl,rfl,?_⟩;show Q (.bl (decide (x<q))) H;rw [cj x1];exact k
theorem YQ:aZ ["told","found","size"] ["told","found","size"] (aG CG):=bw
theorem YR(T:Txt K mg t):aS P w K mg base bH 4 t.sL t.we ["told","found","size"] VA:=by
 have S:=YQ;refine T.xw.bQ S (fun _ _ _ _ H vs _ _ hr h=>?_);obtain ⟨td,a,q,ps,B,rfl,tw,hq,⟨vs,ea,hl,hn⟩,h60,k⟩:=h
 refine ⟨_,(ak (bK (PW.pt (pw_or (je (gN (b6 (kU (K:=K)) rfl T.kr boot_isinstance (aa (pv 1) (aa (kJ (v:=.ty "list") rfl T.jJ boot_list rfl) ae))))) (pw_or1 (aY iq (b6 eC rfl T.dY d8 (aa (pv 1) ae)) (pv 2))))) (ao (aE d9)) bL)
  (ao (aE (AJ Eu d9 (j8 (N:=["one","told"]) (ρ:=(fun σ=>[σ[0]?.join])) (eV [0] rfl) rfl (d_ (pv 1)) (fun _ _ _=>.nil) (fun _ _ _=>(aB (YO T) hr T.Nl T.xv.kp T.Nk aD (aa (pv 1) (aa (pv 0) ae))))) rfl)))),?_⟩
 refine aw fun _ hR=>⟨_,rfl,_,_,_,true,rfl,rfl,.of (.lst ea),qD,true,rfl,bM ?_⟩;refine ⟨_,rfl,a,vs,rfl,.inl (.of ea),_,rfl,rfl,false,by rw [f_,cj (by lia)];rfl,bM (hR _ _ ?_)⟩
 refine gP ?_;dsimp only [m5,tC];refine (A_ (xs:=vs) (fun R h=>⟨_,rfl,a,rfl,⟨_,.of ea⟩,h _ _ (af.refl _) (j_ (.of ea))⟩) (by rw [hl];exact cB (by lia)) (fun _ i y _=>y=.bl true) (fun _ _ _ _ _ _ h _ _=>h) ?_ ?_)
 ·intro D i v hi Hc R sc _ kc
  have c_:i<ps.length:=by rw [←hl];exact (bZ.mp hi).1
  exact ⟨_,rfl,_,rfl,td,q,v,_,_,B,rfl,tw.mono sc,hq,(hn i v ps[i] hi (by simp [c_])).mono sc,kc _ Hc (af.refl _) rfl⟩
 ·intro D ys Hc sc lB hP eD
  have yt:ys=List.replicate ys.length (.bl true):=List.eq_replicate_iff.mpr ⟨rfl,fun y hy=>by obtain ⟨i,hi⟩:=List.getElem?_of_mem hy;exact hP i y hi⟩
  refine ⟨D,ys,rfl,.inl (.of eD),rfl,?_,?_⟩;·rw [yt];simp [fN]
  ·rw [show jZ (.bl false) ys=false by rw [yt];simp [jZ];intro _;rfl]
   exact k Hc sc
theorem YS:aZ ["tape","size","order","k"] ["tape","size"] (aG Cu):=bw
theorem YT(T:Txt K mg t):aS P w K mg base bH 2 t.sv t.vT ["tape","size"] U9:=by
 have S:=YS;refine T.xn.bQ S (fun _ _ _ _ H _ _ _ hr h=>?_);obtain ⟨Tp,n,rfl,tc,xG,kk⟩:=h
 refine ⟨_,(ak (putL 2 S.nd (fV ae))
  (ak (cI cb rfl (eA rfl T.da (aa (pv 1) ae)) (bP (i:=3) S.nd rfl (Or.inl rfl))
   (ao (gX (j4 ie PySem.F.slot_list_insert PySem.F.type_list_insert U8 (pv 2) (aa (aB (lC T) hr T.jG T.gT.kp T.jF aD (aa (pv 0) (aa (aA fo (pv 3) ag) ae))) (aa (pv 3) ae))))))
  (ao (aE (pv 2))))),?_⟩
 refine aw fun _ hR=>a8 ⟨cn _,fun D nD=>hR _ _ ?_⟩;have DT:D≠Tp:=tc.ne nD;have o1:bJ Tp H (upd H D (.lst [])):=bJ.of (bf nD);have t1:b_ (upd H D (.lst [])) Tp:=tc.mono (bf nD);have e1:upd H D (.lst []) D=some (.lst (nI [])):=ay;generalize upd H D (.lst [])=H1 at o1 t1 e1 ⊢;refine aw fun _ hR=>⟨_,rfl,(n:Int),rfl,by lia,by lia,?_⟩
 rw [df];refine gB (fun k σ Hc=>∃(o:List Nat) (v3:Option V),σ=[some (.ref Tp),some (.int (n:Int)),some (.ref D),v3]∧bJ Tp H Hc∧b_ Hc Tp∧Hc D=some (.lst (nI o))∧o.Perm (List.range k)) ⟨[],_,rfl,o1,t1,e1,List.Perm.refl _⟩ ?_ ?_
 ·rintro k σ Hc hk ⟨o,v3,rfl,oc,eM,eD,pm⟩
  dsimp only [bR];refine ⟨_,rfl,.inl ⟨rfl,_,.of eD⟩,_,rfl,_,rfl,_,_,rfl,rfl,Tp,k+1,by show [V.ref Tp,V.int ((0+(k:Int))+1)]=_;rw [show (0+(k:Int))+1=((k+1:Nat):Int) by lia],eM,by lia,by lia,fun d H2 hd od td=>?_⟩
  have Dj:=od _ _ DT eD;have lo:(nI o).length=k:=by unfold nI;rw [aX,pm.length_eq,cN]
  refine ⟨_,rfl,D,nI o,d,_,_,rfl,rfl,rfl,Dj,by lia,by lia,?_⟩
  have pk:(o.take d++k::o.drop d).Perm (List.range (k+1)):=by rw [lK];refine List.perm_middle.trans ?_;rw [List.take_append_drop];exact ((List.Perm.cons k pm).trans (List.perm_append_comm (l₁:=[k])))
  refine ⟨o.take d++k::o.drop d,_,rfl,fun b u ne e=>?_,?_,?_,pk⟩
  ·rw [aJ (fun z=>by rw [z,nD] at e;cases e)]
   exact (oc.trans od) b u ne e
  ·obtain ⟨x,ex⟩:=td
   exact ⟨x,(aJ (Ne.symm DT)).trans ex⟩
  ·rw [ay]
   unfold nI;rw [i9,cX,List.map_take,List.map_drop,eU]
 ·rintro σ Hc ⟨o,v3,rfl,oc,eM,eD,pm⟩
  exact hR _ _ ⟨_,rfl,kk D o _ oc eM nD eD pm⟩
theorem YU:aZ ["size","links","order","beside","i","j","found","k","place","other","seen","waits","one"] ["size","links","order"] (aG CB):=bw
theorem YV(T:Txt K mg t):aS P w K mg base bH 2 t.sG t.vZ ["size","links","order"] VV:=by
 have S:=YU
 refine T.xu.bQ S (fun _ _ _ _ H _ _ _ hr h=>?_)
 obtain ⟨lt,a,n,us,L,o,rfl,elt,hL,ok,n12,l2,ndL,upL,ea,ho,kk⟩:=h
 have jL:=hr.units
 have lo:=gg ho
 have yY:=k7 ho
 have De:((List.range n).map fun i:Nat=>V.int (0+(i:Int))).length=n:=by rw [aX,cN]
 refine ⟨_,(ak (l7 (i0:=3) (N:=["k"]) (ρ:=(fun σ=>[])) (eV [] rfl) rfl S.nd rfl (Or.inl rfl) (eA rfl T.da (aa (pv 0) ae)) (fun _ _ _=>.nil) (fun _ _ _=>(fV ae)))
  (ak (cI cb rfl (d_ (pv 1)) (mX rfl (fM (bP (i:=4) S.nd rfl (Or.inl rfl)) (fM (bP (i:=5) S.nd rfl (Or.inl rfl)) mW)))
   (ak (gX (j4 ie mM mO iM (aj a9 (pv 3) (pv 4)) (aa (pv 5) ae)))
  (ao (gX (j4 ie mM mO iM (aj a9 (pv 3) (pv 5)) (aa (pv 4) ae))))))
  (ak (l7 (i0:=6) (N:=["k"]) (ρ:=(fun σ=>[])) (eV [] rfl) rfl S.nd rfl (Or.inl rfl) (eA rfl T.da (aa (pv 0) ae)) (fun _ _ _=>.nil) (fun _ _ _=>(fV ae)))
  (ak (cI cb rfl (eA rfl T.da (aa (pv 0) ae)) (bP (i:=7) S.nd rfl (Or.inl rfl))
   (ak (putL 8 S.nd (aj a9 (pv 2) (pv 7)))
  (ao (cI cb rfl (d_ (Es Et (pv 2) (Er (aA fo (pv 7) ag)) Ep)) (bP (i:=9) S.nd rfl (Or.inl rfl))
   (ak (putL 10 S.nd (fV (aa (pv 8) ae)))
  (ak (putL 11 S.nd (fV (aa (pv 8) ae)))
  (ao (qj cb (aY (TM jL) (pv 11) (fV ae)) (ao (cI cb rfl (d_ (aj a9 (pv 3) (AR ie PySem.F.slot_list_pop PySem.F.type_list_pop Rh (pv 11)))) (bP (i:=12) S.nd rfl (Or.inl rfl))
   (ak (bK (PW.pt (pw_and (aY eB (pv 12) (pv 9)) (pw_and1 (uo (Br (K:=K)) (pv 9) (aj a9 (pv 6) (pv 8)) rfl)))) (ao (gX (j4 ie mM mO iM (aj a9 (pv 6) (pv 8)) (aa (pv 9) ae)))) bL)
  (ao (bK (PW.pt (pw_and (uo (Br (K:=K)) (pv 12) (pv 10) rfl) (pw_and1 (uo (UO (K:=K)) (pv 12) (Es Et (pv 2) Ep (Er (pv 7))) rfl)))) (ak (gX (j4 ie mM mO iM (pv 10) (aa (pv 12) ae)))
  (ao (gX (j4 ie mM mO iM (pv 11) (aa (pv 12) ae))))) bL)))))))))))))
  (ao (aE (j8 (N:=["row"]) (ρ:=(fun σ=>[])) (eV [] rfl) rfl (d_ (pv 6)) (fun _ _ _=>.nil) (fun _ _ _=>(b6 E9 rfl T.C6 DX (aa (pv 0) ae)))))))))),?_⟩
 refine aw fun _ hR=>a8 (jw (xs:=(List.range n).map fun i:Nat=>V.int (0+(i:Int))) (n:=n) De (fun R h=>⟨_,rfl,(n:Int),rfl,by lia,by lia,h _ _ (af.refl _) (by rw [df];exact nN)⟩) (cB (by lia)) (fun _ i y Hx=>Hx y=some (.lst [])∧H y=none) ?_ ?_ ?_)
 ·intro D i y Ha Hb ys ⟨h1,h2⟩ hy e f
  exact ⟨f y _ hy h1,h2⟩
 ·intro D i x hx Hc R sc _ kc
  exact ⟨cn _,fun p np=>kc p _ (gF (af.refl _) np) np ⟨_,ay⟩ ⟨ay,none_of sc np⟩⟩
 ·intro D rs H1 nD s1 inj hA eD
  have K0:iV H1 D n rs (fun _=>[]):=⟨eD,inj,fun i hi=>(hA i hi).2,fun i hi=>(hA i hi).1.1⟩
  have fr:∀i,i<n→H (rs i)=none:=fun i hi=>(hA i hi).1.2
  refine hR _ _ ?_
  refine aw fun _ hR=>⟨_,rfl,lt,rfl,⟨_,.of (s1 _ _ elt)⟩,?_⟩
  refine jg (K:=K) (a:=lt) (xs:=us) (fun k σ Hc=>∃(g:Nat→List Nat) (v4 v5:Option V),σ=[some (.int (n:Int)),some (.ref lt),some (.ref a),some (.ref D),v4,v5,none,none,none,none,none,none,none]∧af H Hc∧iV Hc D n rs g∧iU n (L.take k) g∧(∀a,(g a).length≤2*k)) ⟨_,_,_,rfl,s1,K0,iU.nil n,fun _=>aN _⟩ (fun k σ Hc _ ⟨_,_,_,_,sc,_⟩=>.of (sc _ _ elt)) ?_ ?_
  ·rintro k x σ Hc hx ⟨g,v4,v5,rfl,sc,KL,nb,gl⟩
   have hk:k<L.length:=by
    rw [←hL.1]
    exact (bZ.mp hx).1
   obtain ⟨b,rfl,eb⟩:=hL.2 k x L[k] hx (by simp [hk])
   have pk:=ok L[k] (fj hk)
   have tk:L.take (k+1)=L.take k++[L[k]]:=by rw [List.take_succ,cY hk];rfl
   generalize L[k]=p at eb pk tk
   obtain ⟨p1,p2⟩:=p
   dsimp only at pk eb
   obtain ⟨i,rfl⟩:=p8 pk.1
   obtain ⟨j,rfl⟩:=p8 pk.2.2.1
   have hi:i<n:=by lia
   have hj:j<n:=by lia
   refine ⟨b,_,rfl,.of (sc _ _ eb),rfl,_,_,rfl,_,_,rfl,rfl,?_⟩
   have off:∀(Hx:Hp) (i:Nat) (o:HO),i<n→af H Hx→af H (upd Hx (rs i) o):=fun Hx i o hi sx a u e=>by
    rw [aJ (fun z=>by rw [z,fr i hi] at e;cases e)]
    exact sx _ _ e
   have K1:=KL.snoc j hi
   have K2:=K1.snoc i hj
   have g1:=gl i
   have g2:(k8 g i j j).length≤2*k+1:=aQ Fh (by have:=gl j;lia)
   refine ⟨_,rfl,_,rfl,D,_,_,_,rfl,rfl,.of KL.lst,bD hi,.inl ⟨rfl,_,.of (KL.at' i hi)⟩,_,rfl,rs i,_,_,rfl,rfl,KL.at' i hi,cB (by rw [aX];lia),?_⟩
   refine ⟨_,rfl,_,rfl,D,_,_,_,rfl,rfl,.of K1.lst,bD hj,.inl ⟨rfl,_,.of (K1.at' j hj)⟩,_,rfl,rs j,_,_,rfl,rfl,K1.at' j hj,cB (by rw [aX];lia),?_⟩
   exact ⟨_,_,_,rfl,off _ _ _ hj (off _ _ _ hi sc),K2,by rw [tk];exact nb.snoc,fun a=>aQ Fh (by have:=Fh (g:=g) (i:=i) (j:=j) (a:=a);have:=gl a;lia)⟩
  ·rintro σ HB ⟨g,v4,v5,rfl,sB,KB,nb,gl⟩
   rw [hL.1,oF] at nb
   rw [hL.1] at gl
   refine hR _ _ ?_
   clear hR s1 K0 hA eD
   have bT:∀x,x<n→∀b,b∈g x↔aL n L x b:=fun x hx b=>by
    rw [nb x b hx]
    constructor
    ·intro h
     refine ⟨hx,?_,h⟩
     rcases h with h | h <;> (have:=ok _ h;lia)
    ·rintro ⟨_,_,h⟩
     exact h
   refine aw fun _ hR=>a8 (jw (xs:=(List.range n).map fun i:Nat=>V.int (0+(i:Int))) (n:=n) De (fun R h=>⟨_,rfl,(n:Int),rfl,by lia,by lia,h _ _ (af.refl _) (by rw [df];exact nN)⟩) (cB (by lia)) (fun _ i y Hx=>Hx y=some (.lst [])∧HB y=none) ?_ ?_ ?_)
   ·intro D i y Ha Hb ys ⟨h1,h2⟩ hy e f
    exact ⟨f y _ hy h1,h2⟩
   ·intro D i x hx Hc R sc _ kc
    exact ⟨cn _,fun p np=>kc p _ (gF (af.refl _) np) np ⟨_,ay⟩ ⟨ay,none_of sc np⟩⟩
   ·intro F fs H2 nF s2 inj hA eF
    have K0:iV H2 F n fs (fun _=>[]):=⟨eF,inj,fun i hi=>(hA i hi).2,fun i hi=>(hA i hi).1.1⟩
    have ff:∀i,i<n→HB (fs i)=none:=fun i hi=>(hA i hi).1.2
    refine hR _ _ ?_
    clear hR
    have GP:=sB _ _ ea
    refine aw fun _ hR=>⟨_,rfl,(n:Int),rfl,by lia,by lia,?_⟩
    rw [df]
    refine gB (fun k σ Hc=>∃(gf:Nat→List Nat) (v:Nat→Option V),σ=[some (.int (n:Int)),some (.ref lt),some (.ref a),some (.ref D),v 4,v 5,some (.ref F),v 7,v 8,v 9,v 10,v 11,v 12]∧af HB Hc∧iV Hc F n fs gf∧(∀p,p<n→o.idxOf p<k→(gf p).Nodup∧kh n L o p (gf p))∧∀p,p<n→k≤o.idxOf p→gf p=[]) ⟨fun _=>[],fun i=>List.getD [none,none,none,none,v4,v5] i none,rfl,s2,K0,fun p _ h=>absurd h (mK _),fun _ _ _=>rfl⟩ ?_ ?_
    ·rintro k σ Hc hk ⟨gf,v,rfl,sc,KF,dn,un⟩
     dsimp only [bR]
     have xM:k<o.length:=by lia
     have ek:(nI o)[k]?=some (.int ((o[k]:Nat):Int)):=by
      unfold nI
      rw [cC,cY xM]
      rfl
     have hp:o[k]<n:=(dI ho).mp (fj xM)
     have ip:o.idxOf o[k]=k:=nR yY xM
     refine aw fun _ hR=>a8 ⟨_,rfl,_,rfl,a,_,_,_,rfl,rfl,.of (sc _ _ GP),by rw [eU];exact jo ek,hR _ _ ?_⟩
     generalize o[k]=p at hp ip
     have kn:k<n:=hk
     have YW:jk (nI o) (some (0+(k:Int)+1)) none=nI (o.drop (k+1)):=by
      rw [show (0+(k:Int)+1)=((k+1:Nat):Int) by lia,UP _ _ (by unfold nI;rw [aX];lia)]
      unfold nI
      rw [List.map_drop]
     refine ⟨_,rfl,_,rfl,_,_,rfl,rfl,_,rfl,a,_,rfl,.of (sc _ _ GP),fun u nu=>?_⟩
     rw [YW]
     have su:af Hc (upd Hc u (.lst (nI (o.drop (k+1))))):=bf nu
     have eu:upd Hc u (.lst (nI (o.drop (k+1)))) u=some (.lst (nI (o.drop (k+1)))):=ay
     generalize upd Hc u (.lst (nI (o.drop (k+1))))=Hu at su eu ⊢
     have uF:u≠F:=fun z=>by rw [z,KF.lst] at nu;cases nu
     have YX:∀i,i<n→u≠fs i:=fun i hi z=>by rw [z,KF.at' i hi] at nu;cases nu
     have gp:gf p=[]:=un p hp (by lia)
     refine ⟨u,rfl,⟨_,.of eu⟩,?_⟩
     refine jg (K:=K) (a:=u) (xs:=nI (o.drop (k+1))) (fun j σ He=>∃(R:List Nat) (v:Nat→Option V),σ=[some (.int (n:Int)),some (.ref lt),some (.ref a),some (.ref D),v 4,v 5,some (.ref F),some (.int (0+(k:Int))),some (.int (p:Int)),v 9,v 10,v 11,v 12]∧af HB He∧He u=some (.lst (nI (o.drop (k+1))))∧iV He F n fs (cL gf p R)∧R.Nodup∧∀x,x∈R↔x∈(o.drop (k+1)).take j∧Wk (aL n L) (jy n o k) p x) ⟨[],v,rfl,sc.trans su,eu,by rw [←gp,Vb];exact KF.bG fun b o _ e=>su b o e,List.nodup_nil,fun x=>by simp⟩ (fun j σ He _ ⟨_,_,_,_,e,_⟩=>.of e) ?_ ?_
     ·rintro j x σ He hx ⟨R,v,rfl,se,Dr,KR,zJ,mR⟩
      obtain ⟨q,hq,rfl⟩:∃q:Nat,(o.drop (k+1))[j]?=some q∧x=.int (q:Int):=by
       unfold nI at hx
       rw [cC] at hx
       cases e:(o.drop (k+1))[j]? with
       | none=>rw [e] at hx;cases hx
       | some q=>rw [e] at hx;exact ⟨q,rfl,(Option.some.inj hx).symm⟩
      have tq:=take_snoc hq
      have nq:q∉(o.drop (k+1)).take j:=fun z=>by
       have:=(List.drop_sublist (k+1) o).nodup yY
       have h2:=(xU (j+1) (o.drop (k+1))).nodup this
       rw [tq,uc] at h2
       exact h2.2.2 q z q (dA.mpr rfl) rfl
      have qR:q∉R:=fun z=>nq ((mR q).mp z).1
      dsimp only [bR]
      refine aw fun _ hR=>a8 ⟨_,rfl,by show 1≤sizeLine;decide,fun sa pN=>hR _ _ ?_⟩
      have s1:af He (upd He sa (.lst [.int (p:Int)])):=bf pN
      have e1:upd He sa (.lst [.int (p:Int)]) sa=some (.lst (nI [p])):=ay
      generalize upd He sa (.lst [.int (p:Int)])=H5 at s1 e1 ⊢
      refine aw fun _ hR=>a8 ⟨_,rfl,by show 1≤sizeLine;decide,fun wa Ds=>hR _ _ ?_⟩
      have s3:af H5 (upd H5 wa (.lst [.int (p:Int)])):=bf Ds
      have e3:upd H5 wa (.lst [.int (p:Int)]) wa=some (.lst (nI [p])):=ay
      generalize upd H5 wa (.lst [.int (p:Int)])=H6 at s3 e3 ⊢
      have s6:=s1.trans s3
      have tN:He wa=none:=none_of s1 Ds
      have GQ:sa≠wa:=fun z=>by rw [←z,e1] at Ds;cases Ds
      have YY:sa≠F:=fun z=>by rw [z,KR.lst] at pN;cases pN
      have Oi:wa≠F:=fun z=>by rw [z,KR.lst] at tN;cases tN
      have YZ:sa≠u:=fun z=>by rw [z,Dr] at pN;cases pN
      have Oj:wa≠u:=fun z=>by rw [z,Dr] at tN;cases tN
      have Ol:∀i,i<n→fs i≠sa:=fun i hi z=>by rw [←z,KR.at' i hi] at pN;cases pN
      have GR:∀i,i<n→fs i≠wa:=fun i hi z=>by rw [←z,KR.at' i hi] at tN;cases tN
      have Y0:HB sa=none:=none_of se pN
      have Om:HB wa=none:=none_of se tN
      refine ⟨fun m σ Hw=>∃(sn ws:List Nat) (c:Bool) (tO:Option V),σ=[some (.int (n:Int)),some (.ref lt),some (.ref a),some (.ref D),v 4,v 5,some (.ref F),some (.int (0+(k:Int))),some (.int (p:Int)),some (.int (q:Int)),some (.ref sa),some (.ref wa),tO]∧m=2*(n-sn.length)+ws.length∧af HB Hw∧Hw u=some (.lst (nI (o.drop (k+1))))∧iV Hw F n fs (cL gf p (iX R q c))∧Hw sa=some (.lst (nI sn))∧Hw wa=some (.lst (nI ws))∧gQ n (aL n L) (jy n o k) p q none (fun _=>True) sn ws (c=true)∧ws.length≤sn.length,⟨_,[p],[p],false,_,rfl,rfl,se.trans s6,s6 _ _ Dr,KR.bG fun b o _ e=>s6 b o e,s3 _ _ e1,e3,gQ.start hp (by decide),aN _⟩,?_⟩
      rintro m' σ Hw ⟨sn,ws,c,tO,rfl,em,sw,GS,KW,pO,mC,i3,wl⟩
      have Oo:sn.length≤n:=iA.len ⟨i3.nd,i3.lt⟩
      refine ⟨_,rfl,by show 0≤sizeLine;decide,fun le Y1=>?_⟩
      have s7:af Hw (upd Hw le (.lst [])):=bf Y1
      have e7:upd Hw le (.lst []) le=some (.lst []):=ay
      generalize upd Hw le (.lst [])=Hn at s7 e7 ⊢
      refine ⟨wa,le,_,rfl,rfl,.of (s7 _ _ mC),e7,_,rfl,bS (fun hz=>?_) (fun hz=>?_)⟩
      ·have Oq:ws≠[]:=fun z=>by rw [z] at hz;cases hz
       obtain ⟨ku,h,rfl⟩:∃us h,ws=us++[h]:=⟨ws.dropLast,ws.getLast Oq,(List.dropLast_concat_getLast Oq).symm⟩
       have lus:(ku++[h]).length=ku.length+1:=by simp
       have hh:=i3.wt h (cT _ (dA.mpr rfl))
       have hn:h<n:=i3.lt h hh
       have Y2:(nI (ku++[h])).dropLast=nI ku:=by
        unfold nI
        rw [i9,cX,List.map_nil,List.dropLast_concat]
       refine ⟨_,fun _ _ h=>h,?_⟩
       refine ⟨_,rfl,_,rfl,.inl ⟨rfl,_,.of (s7 _ _ mC)⟩,wa,_,.int (h:Int),rfl,rfl,s7 _ _ mC,by unfold nI;simp,?_⟩
       rw [Y2]
       have o1:∀b w,b≠wa→Hn b=some w→upd Hn wa (.lst (nI ku)) b=some w:=fun b w ne e=>by rw [aJ ne];exact e
       have xN:upd Hn wa (.lst (nI ku)) wa=some (.lst (nI ku)):=ay
       generalize upd Hn wa (.lst (nI ku))=H8 at o1 xN ⊢
       have Dt:af HB H8:=fun b w e=>o1 b w (fun z=>by rw [z,Om] at e;cases e) (s7 _ _ (sw _ _ e))
       have Ot:=o1 _ _ (Ne.symm Oj) (s7 _ _ GS)
       have Ou:=o1 _ _ GQ (s7 _ _ pO)
       have K8:=KW.bG fun b w hb e=>o1 b w (by rcases hb with rfl | ⟨i,hi,rfl⟩;exact Ne.symm Oi;exact GR i hi) (s7 b w e)
       refine ⟨D,_,_,_,rfl,rfl,.of (Dt _ _ KB.lst),bD hn,rs h,rfl,⟨_,.of (Dt _ _ (KB.at' h hn))⟩,?_⟩
       refine jg (K:=K) (a:=rs h) (xs:=(g h).map fun k:Nat=>V.int (k:Int)) (fun i σ Hi=>∃(sn ws:List Nat) (c:Bool) (tO:Option V),σ=[some (.int (n:Int)),some (.ref lt),some (.ref a),some (.ref D),v 4,v 5,some (.ref F),some (.int (0+(k:Int))),some (.int (p:Int)),some (.int (q:Int)),some (.ref sa),some (.ref wa),tO]∧af HB Hi∧Hi u=some (.lst (nI (o.drop (k+1))))∧iV Hi F n fs (cL gf p (iX R q c))∧Hi sa=some (.lst (nI sn))∧Hi wa=some (.lst (nI ws))∧gQ n (aL n L) (jy n o k) p q (some h) (·∈(g h).take i) sn ws (c=true)∧ws.length≤sn.length∧h∈sn∧2*(n-sn.length)+ws.length<m') ⟨sn,ku,c,_,rfl,Dt,Ot,K8,Ou,xN,i3.U_ (fun b hb=>by simp at hb),by lia,hh,by lia⟩ (fun i σ Hi _ ⟨_,_,_,_,_,e,_⟩=>.of (e _ _ (KB.at' h hn))) ?_ ?_
       ·clear i3 wl Oo pO mC KW GS sw em Dt Ot Ou K8 xN o1
        rintro i x σ Hi hx ⟨sn,ws,c,tO,rfl,si,zK,KI,pO,mC,i3,wl,zL,lt'⟩
        obtain ⟨b,hb,rfl⟩:∃b:Nat,(g h)[i]?=some b∧x=.int (b:Int):=by
         rw [cC] at hx
         cases e:(g h)[i]? with
         | none=>rw [e] at hx;cases hx
         | some q=>rw [e] at hx;exact ⟨q,rfl,(Option.some.inj hx).symm⟩
        have ab:aL n L h b:=(bT h hn b).mp (pV hb)
        have bn:b<n:=ab.2.1
        have tb:=take_snoc hb
        have Oo:sn.length≤n:=iA.len ⟨i3.nd,i3.lt⟩
        dsimp only [bR]
        refine aw fun Rr hR=>?_
        have fin:∀(c':Bool) (Hj:Hp),af HB Hj→Hj u=some (.lst (nI (o.drop (k+1))))→iV Hj F n fs (cL gf p (iX R q c'))→Hj sa=some (.lst (nI sn))→Hj wa=some (.lst (nI ws))→(c'=true↔c=true∨b=q)→Rr [some (.int (n:Int)),some (.ref lt),some (.ref a),some (.ref D),v 4,v 5,some (.ref F),some (.int (0+(k:Int))),some (.int (p:Int)),some (.int (q:Int)),some (.ref sa),some (.ref wa),some (.int (b:Int))] Hj:=fun c' Hj sj GU KJ Du GV fk=>by
         refine hR _ _ ?_
         have conv:∀{oP qO:List Nat},(b∉sn∧jy n o k b∧oP=sn++[b]∧qO=ws++[b])∨((b∈sn∨¬jy n o k b)∧oP=sn∧qO=ws)→gQ n (aL n L) (jy n o k) p q (some h) (·∈(g h).take (i+1)) oP qO (c'=true):=fun hs=>i3.step zL ab bn hs (fun x hx=>by rw [tb] at hx;exact (fG.mp hx).imp id dA.mp) fk
         refine ⟨_,rfl,_,rfl,sa,_,rfl,.inl (.of Du),rfl,Fg sn,_,rfl,bS (fun eR=>?_) (fun eR=>?_)⟩
         ·have zM:b∉sn:=fun z=>by
           have eR:(!jZ (.int (b:Int)) (sn.map fun k:Nat=>V.int (k:Int)))=true:=eR
           rw [qK,cj z] at eR
           cases eR
          refine ⟨_,rfl,_,rfl,_,rfl,_,rfl,a,_,rfl,.of (sj _ _ GP),fun w1 Y3=>?_⟩
          have ec:jk (nI o) none (some (0+(k:Int)))=nI (o.take k):=by
           rw [eU,J3]
           unfold nI
           rw [List.map_take]
          rw [ec]
          have mD:af Hj (upd Hj w1 (.lst (nI (o.take k)))):=bf Y3
          have xN:upd Hj w1 (.lst (nI (o.take k))) w1=some (.lst (nI (o.take k))):=ay
          generalize upd Hj w1 (.lst (nI (o.take k)))=Hk at mD xN ⊢
          have K9:=KJ.bG fun b w _ e=>mD b w e
          refine ⟨w1,_,rfl,.inl (.of xN),rfl,Fg (o.take k),_,rfl,bS (fun i4=>?_) (fun i4=>?_)⟩
          ·have i4:jZ (.int (b:Int)) ((o.take k).map fun k:Nat=>V.int (k:Int))=true:=i4
           rw [qK,oE,Fq ho] at i4
           have Ov:=mD _ _ Du
           have Y4:=mD _ _ GV
           have Y5:(sn++[b]).length≤n:=iA.len ⟨(conv (.inl ⟨zM,i4,rfl,rfl⟩)).nd,(conv (.inl ⟨zM,i4,rfl,rfl⟩)).lt⟩
           rw [fe,oA] at Y5
           refine aw fun _ hR=>⟨_,rfl,.inl ⟨rfl,_,.of Ov⟩,_,rfl,sa,_,_,rfl,rfl,Ov,cB (by unfold nI;rw [aX];lia),hR _ _ ?_⟩
           have o5:∀b' w,b'≠sa→Hk b'=some w→upd Hk sa (.lst (nI sn++[V.int (b:Int)])) b'=some w:=fun b' w ne e=>by rw [aJ ne];exact e
           have e5:upd Hk sa (.lst (nI sn++[V.int (b:Int)])) sa=some (.lst (nI (sn++[b]))):=by
            rw [ay]
            unfold nI
            rw [i9]
            rfl
           generalize upd Hk sa (.lst (nI sn++[V.int (b:Int)]))=Hl at o5 e5 ⊢
           have Ow:=o5 _ _ (Ne.symm GQ) Y4
           refine ⟨_,rfl,.inl ⟨rfl,_,.of Ow⟩,_,rfl,wa,_,_,rfl,rfl,Ow,cB (by unfold nI;rw [aX];lia),?_⟩
           have o6:∀b' w,b'≠wa→Hl b'=some w→upd Hl wa (.lst (nI ws++[V.int (b:Int)])) b'=some w:=fun b' w ne e=>by rw [aJ ne];exact e
           have e6:upd Hl wa (.lst (nI ws++[V.int (b:Int)])) wa=some (.lst (nI (ws++[b]))):=by
            rw [ay]
            unfold nI
            rw [i9]
            rfl
           generalize upd Hl wa (.lst (nI ws++[V.int (b:Int)]))=Hm at o6 e6 ⊢
           have o7:∀b' w,b'≠sa→b'≠wa→Hk b'=some w→Hm b'=some w:=fun b' w n1 n2 e=>o6 b' w n2 (o5 b' w n1 e)
           refine ⟨sn++[b],ws++[b],c',_,rfl,fun b' w e=>o7 b' w (fun z=>by rw [z,Y0] at e;cases e) (fun z=>by rw [z,Om] at e;cases e) (mD _ _ (sj _ _ e)),o7 _ _ (Ne.symm YZ) (Ne.symm Oj) (mD _ _ GU),K9.bG (fun b' w zy e=>?_),o6 _ _ GQ e5,e6,conv (.inl ⟨zM,i4,rfl,rfl⟩),by rw [fe,fe,oA];lia,mI _ zL,by rw [fe,fe,oA];lia⟩
           rcases zy with rfl | ⟨i',c_,rfl⟩
           ·exact o7 _ _ (Ne.symm YY) (Ne.symm Oi) e
           ·exact o7 _ _ (Ol i' c_) (GR i' c_) e
          ·have i4:¬jZ (.int (b:Int)) ((o.take k).map fun k:Nat=>V.int (k:Int))=true:=i4
           rw [qK,oE,Fq ho] at i4
           exact ⟨sn,ws,c',_,rfl,sj.trans mD,mD _ _ GU,K9,mD _ _ Du,mD _ _ GV,conv (.inr ⟨.inr i4,rfl,rfl⟩),wl,zL,lt'⟩
         ·have zM:b∈sn:=p4 fun z=>eR (by
           show (!jZ (.int (b:Int)) (sn.map fun k:Nat=>V.int (k:Int)))=true
           rw [qK,dc z]
           rfl)
          exact bM ⟨sn,ws,c',_,rfl,sj,GU,KJ,Du,GV,conv (.inr ⟨.inl zM,rfl,rfl⟩),wl,zL,lt'⟩
        refine ⟨_,rfl,_,rfl,rfl,_,rfl,bS (fun eR=>?_) (fun eR=>?_)⟩
        ·rw [f_] at eR
         have bq:b=q:=by have:=dN eR;lia
         have row:cL gf p (iX R q c) p=iX R q c:=Fe ..
         have Dv:=KI.at' p hp
         rw [row] at Dv
         refine ⟨_,rfl,_,rfl,_,rfl,F,_,_,_,rfl,rfl,.of KI.lst,bD hp,fs p,_,rfl,.inl (.of Dv),rfl,Fg _,_,rfl,?_⟩
         rw [qK]
         cases c with
         | true=>
          rw [cj (show q∈iX R q true from cT _ (dA.mpr rfl))]
          exact bM (fin true Hi si zK KI pO mC (by simp))
         | false=>
          rw [dc (show ¬q∈iX R q false from qR)]
          refine dQ ?_
          have lR:R.length≤12:=by
           have:R.length≤n:=iA.len ⟨zJ,fun x hx=>((Lq ho).mp (List.mem_of_mem_take ((mR x).mp hx).1)).1⟩
           lia
          refine ⟨_,rfl,_,rfl,F,_,_,_,rfl,rfl,.of KI.lst,bD hp,.inl ⟨rfl,_,.of Dv⟩,_,rfl,fs p,_,_,rfl,rfl,Dv,cB (by rw [aX];show R.length≤1000;lia),?_⟩
          have K9:=KI.snoc q hp
          rw [row,Va] at K9
          have o5:∀b' w,b'≠fs p→Hi b'=some w→upd Hi (fs p) (.lst (((iX R q false).map fun k:Nat=>V.int (k:Int))++[V.int (q:Int)])) b'=some w:=fun b' w ne e=>by rw [aJ ne];exact e
          exact fin true _ (fun b' w e=>o5 b' w (fun z=>by rw [z,ff p hp] at e;cases e) (si _ _ e)) (o5 _ _ (YX p hp) zK) K9 (o5 _ _ (Ne.symm (Ol p hp)) pO) (o5 _ _ (Ne.symm (GR p hp)) mC) (by simp [bq])
        ·have Y6:¬b=q:=fun z=>eR (by rw [f_,z];exact cj rfl)
         exact bM (fin c Hi si zK KI pO mC (by simp [Y6]))
       ·rintro σ Hi ⟨sn,ws,c,tO,rfl,si,zK,KI,pO,mC,i3,wl,zL,lt'⟩
        rw [aX,oF] at i3
        exact ⟨_,lt',sn,ws,c,_,rfl,rfl,si,zK,KI,pO,mC,i3.next fun b hb=>(bT h hn b).mpr hb,wl⟩
      ·have w0:ws=[]:=by
        cases ws with
        | nil=>rfl
        | cons x r=>exact absurd rfl hz
       subst w0
       have hd:=i3.done
       refine ⟨iX R q c,fun i=>List.getD [none,none,none,none,v 4,v 5,none,none,none,some (.int (q:Int)),some (.ref sa),some (.ref wa),tO] i none,rfl,sw.trans s7,s7 _ _ GS,KW.bG fun b o _ e=>s7 b o e,?_,fun x=>?_⟩
       ·unfold iX
        split
        ·rw [uc]
         exact ⟨zJ,by simp,fun a ha c hc=>fun z=>qR (by rw [dA.mp hc] at z;rw [←z];exact ha)⟩
        ·exact zJ
       ·rw [tq,fG]
        unfold iX
        split
        ·rename_i hc
         rw [fG,mR x]
         constructor
         ·rintro (⟨h1,h2⟩ | h1)
          ·exact ⟨.inl h1,h2⟩
          ·rw [dA.mp h1]
           exact ⟨.inr (dA.mpr rfl),hd.mp hc⟩
         ·rintro ⟨h1 | h1,h2⟩
          ·exact .inl ⟨h1,h2⟩
          ·exact .inr h1
        ·rename_i hc
         rw [mR x]
         constructor
         ·rintro ⟨h1,h2⟩
          exact ⟨.inl h1,h2⟩
         ·rintro ⟨h1 | h1,h2⟩
          ·exact ⟨h1,h2⟩
          ·rw [dA.mp h1] at h2
           exact absurd (hd.mpr h2) hc
     ·rintro σ He ⟨R,v,rfl,se,Dr,KR,zJ,mR⟩
      have ll:(nI (o.drop (k+1))).length=(o.drop (k+1)).length:=aX _
      rw [ll,oF] at mR
      refine ⟨cL gf p R,fun i=>List.getD [none,none,none,none,v 4,v 5,none,some (.int (0+(k:Int))),some (.int (p:Int)),v 9,v 10,v 11,v 12] i none,rfl,se,KR,fun p' Dw h1=>?_,fun p' Dw h1=>?_⟩
      ·by_cases e:p'=p
       ·subst e
        rw [Fe]
        refine ⟨zJ,fun x=>?_⟩
        rw [mR x,Lq ho,ip]
        constructor
        ·rintro ⟨⟨h1,h2⟩,h3⟩
         exact ⟨h1,by lia,h3⟩
        ·rintro ⟨h1,h2,h3⟩
         exact ⟨⟨h1,by lia⟩,h3⟩
       ·rw [Ff e]
        have:=uR ho Dw hp e
        exact dn p' Dw (by lia)
      ·have e:p'≠p:=fun z=>by subst z;lia
       rw [Ff e]
       exact un p' Dw (by lia)
    ·rintro σ Hc ⟨gf,v,rfl,sc,KF,dn,un⟩
     refine hR _ _ ?_
     have fR:((List.range n).map fun p=>V.ref (fs p)).length=n:=by rw [aX,cN]
     have lt':∀p,p<n→o.idxOf p<n:=fun p hp=>by
      have:=(gG ((dI ho).mpr hp)).1
      lia
     refine gP (jw (xs:=(List.range n).map fun p=>V.ref (fs p)) (n:=n) fR (fun R h=>⟨_,rfl,F,rfl,⟨_,.of KF.lst⟩,h _ _ (af.refl _) (j_ (.of KF.lst))⟩) (cB (by lia)) (fun _ i y Hx=>∃ms:List Nat,Hx y=some (.lst (nI ms))∧o_ n o i ms∧kh n L o i ms) ?_ ?_ ?_)
     ·rintro D i y Ha Hb ys ⟨ms,h1,h2⟩ hy e f
      exact ⟨ms,f y _ hy h1,h2⟩
     ·intro D i x hx Hd R sd _ kc
      have hi:i<n:=by
       have:=(bZ.mp hx).1
       rwa [fR] at this
      have ex:x=.ref (fs i):=by
       rw [cC,i7 hi] at hx
       exact (Option.some.inj hx).symm
      subst ex
      obtain ⟨Y7,lw⟩:=dn i hi (lt' i hi)
      have Ox:iA n (gf i):=⟨Y7,fun q hq=>((lw q).mp hq).1⟩
      have ln:=Ox.len
      refine ⟨_,rfl,fs i,(gf i).map iN,rfl,by rw [sd _ _ (KF.at' i hi),ic];rfl,by rw [aX];lia,fun ws D2 pw so zF=>?_⟩
      obtain ⟨ms,rfl,pm⟩:=E_ pw
      refine kc D2 _ (bf zF) zF ⟨_,ay⟩ ⟨ms,by rw [ay,ic];rfl,K6 Ox (by rw [List.filter_eq_self.mpr fun q hq=>cj ((lw q).mp hq).2.1];exact pm) so,fun q=>by rw [pm.mem_iff];exact lw q⟩
     ·intro c Oy H4 nc s4 inj hA ec
      obtain ⟨g',Oz⟩:∃g':Nat→List Nat,∀i,i<n→H4 (Oy i)=some (.lst (nI (g' i)))∧o_ n o i (g' i)∧kh n L o i (g' i):=⟨fun i=>if h:i<n then (hA i h).1.choose else [],fun i hi=>by simp only [fL hi];exact (hA i hi).1.choose_spec⟩
      exact kk H4 c Oy g' (sB.trans (sc.trans s4)) ⟨ec,fun p hp=>(Oz p hp).1⟩ fun p hp=>(Oz p hp).2
theorem Y8:aZ ["told","table","links","j","i"] ["told","table"] (aG CA):=bw
theorem Y9(T:Txt K mg t):aS P w K mg base bH 6 t.sF t.vY ["told","table"] VB:=by
 have S:=Y8;refine T.xt.bQ S (fun _ _ _ _ H vs _ _ hr h=>?_);obtain ⟨td,a,q,B,n,ah,rfl,tw,hq,hT,ln,YM,hm,kk⟩:=h;have hu:=hr.oM
 refine ⟨_,(ak (putL 2 S.nd (fV ae))
  (ak (cI cb rfl (eA rfl T.da (aa (b6 eC rfl T.dY d8 (aa (pv 1) ae)) ae)) (bP (i:=3) S.nd rfl (Or.inl rfl))
   (ao (cI cb rfl (eA rfl T.da (aa (pv 3) ae)) (bP (i:=4) S.nd rfl (Or.inl rfl))
   (ao (bK (PW.pt (pw_or (aY (Bn (K:=K) hu) (aj a9 (aj a9 (pv 1) (pv 4)) (pv 3)) (aB (mB T) hr T.lA T.iD.kp T.lz aD (aa (pv 0) ae))) (pw_or1 (aY (Bn (K:=K) hu) (aj a9 (aj a9 (pv 1) (pv 3)) (pv 4)) (aB (mB T) hr T.lA T.iD.kp T.lz aD (aa (pv 0) ae)))))) (ao (gX (j4 ie mM mO iM (pv 2) (aa (fU (aa (pv 4) (aa (pv 3) ae))) ae)))) bL)))))
  (ao (aE (pv 2))))),?_⟩
 refine aw fun _ hR=>a8 ⟨cn _,fun D nD=>hR _ _ ?_⟩;have s1:af H (upd H D (.lst [])):=bf nD;have e1:upd H D (.lst []) D=some (.lst []):=ay;generalize upd H D (.lst [])=H1 at s1 e1 ⊢;obtain ⟨vs,ea,lv,hv⟩:=id hT;have cell:∀i j,i<n→j<n→∃(r:Addr) (ws:List V) (v:V),vs[i]?=some (.ref r)∧H r=some (.lst ws)∧ws[j]?=some v∧aV B H q v ((ah.getD i []).getD j o1).1 ((ah.getD i []).getD j o1).2:=fun i j hi hj=>by
  have i1:i<vs.length:=by lia
  have i2:i<ah.length:=by lia
  obtain ⟨r,e,ws,er,lw,fw⟩:=hv i vs[i] ah[i] (by simp [i1]) (by simp [i2])
  have lp:=hm ah[i] (fj i2);have j1:j<ws.length:=by lia
  have j2:j<ah[i].length:=by lia
  refine ⟨r,ws,ws[j],by rw [←e];simp [i1],er,by simp [j1],?_⟩
  rw [getD_at i2,getD_at j2];exact fw j _ _ (by simp [j1]) (by simp [j2])
 refine aw fun _ hR=>⟨_,rfl,a,vs,rfl,.inl (.of (s1 _ _ ea)),(vs.length:Int),rfl,by lia,by lia,?_⟩
 rw [df,show vs.length=n by lia]
 refine gB (fun j σ Hc=>∃(us:List V) (v4 v5:Option V),σ=[some (.ref td),some (.ref a),some (.ref D),v4,v5]∧af H Hc∧Hc D=some (.lst us)∧cR Hc us (gi ah j)∧(gi ah j).length≤20*j) ⟨[],_,_,rfl,s1,e1,cR.nil _,cn _⟩ ?_ ?_
 ·rintro j σ Hc hj ⟨us,v4,v5,rfl,sc,ec,hL,ll⟩
  dsimp only [bR];refine ⟨_,rfl,0+(j:Int),rfl,by lia,by lia,?_⟩
  rw [show (0+(j:Int)).toNat=j by lia]
  refine gB (fun i σ Hd=>∃(us:List V) (v5:Option V),σ=[some (.ref td),some (.ref a),some (.ref D),some (.int (0+(j:Int))),v5]∧af H Hd∧Hd D=some (.lst us)∧cR Hd us (gi ah j++iZ ah j i)∧(gi ah j++iZ ah j i).length≤20*j+i) ⟨us,_,rfl,sc,ec,(by show cR _ _ (_++[]);rw [tW];exact hL),(by show (_++[]).length≤_;rw [tW];exact ll)⟩ ?_ ?_
  ·clear hL ec ll sc
   rintro i σ Hd hi ⟨us,v5,rfl,sd,ed,hL,ll⟩;dsimp only [bR];obtain ⟨r1,w1,v1,a1,a2,a3,a4⟩:=cell i j (by lia) hj
   obtain ⟨r2,w2,v2,b1,b2,b3,b4⟩:=cell j i hj (by lia)
   have zi:0+(i:Int)=(i:Int):=eU _;have zj:0+(j:Int)=(j:Int):=eU _;rw [zi,zj];refine ⟨_,rfl,_,rfl,a,vs,_,.ref r1,rfl,rfl,.of (sd _ _ ea),jo a1,_,rfl,r1,w1,_,v1,rfl,rfl,.of (sd _ _ a2),jo a3,_,rfl,td,q,rfl,tw.mono sd,hq,fun v0 H3 s3 h0=>oZ (a4.mono (sd.trans s3)) h0 ⟨_,rfl,bS (fun hb=>?_) (fun hb=>?_)⟩⟩
   ·have ht:cy ah i j=true:=by unfold cy jx;rw [hb,Bool.true_or]
    have ky:=s3 _ _ ed;have xK:=hL.mono s3;have GW:=sd.trans s3;have lu:=hL.1;refine dQ (⟨_,rfl,.inl ⟨rfl,_,.of ky⟩,_,rfl,_,rfl,by show 2≤sizeLine;decide,fun tq mw=>⟨D,us,_,rfl,rfl,(bf mw) _ _ ky,cB (by lia),?_⟩⟩)
    have st:af H3 (upd H3 tq (.tup [.int (i:Int),.int (j:Int)])):=bf mw;have pM:upd H3 tq (.tup [.int (i:Int),.int (j:Int)]) tq=some (.tup [.int (i:Int),.int (j:Int)]):=ay;generalize upd H3 tq (.tup [.int (i:Int),.int (j:Int)])=He at st pM ⊢;refine ⟨us++[.ref tq],_,rfl,fun b u e=>by rw [aJ (fun zz=>by rw [zz,nD] at e;cases e)];exact st _ _ (GW b u e),ay,?_,?_⟩
    ·rw [Bz ht,←xY]
     exact ((xK.mono st).cat (show cR He [.ref tq] [((i:Int),(j:Int))] from ⟨rfl,fun k v p h1 h2=>by
      match k,h1,h2 with
      | 0,h1,h2=>cases h1;cases h2;exact ⟨tq,rfl,pM⟩
      | k+1,h1,h2=>simp at h1⟩)).bG (st _ _ ky) fun b o nb e=>by rw [aJ nb];exact e
    ·rw [Bz ht,←xY,fe,oA]
     lia
   ·have zy:jx ah i j=false:=by unfold jx;simpa using hb
    have et:cy ah i j=jx ah j i:=by unfold cy;rw [zy,x4]
    refine ⟨_,rfl,_,rfl,a,vs,_,.ref r2,rfl,rfl,.of (s3 _ _ (sd _ _ ea)),jo b1,_,rfl,r2,w2,_,v2,rfl,rfl,.of (s3 _ _ (sd _ _ b2)),jo b3,_,rfl,td,q,rfl,(tw.mono sd).mono s3,hq,fun Y_ H4 s4 Bj=>oZ (b4.mono ((sd.trans s3).trans s4)) Bj ⟨_,rfl,bS (fun hc=>?_) (fun hc=>?_)⟩⟩
    ·have ht:cy ah i j=true:=by rw [et];exact hc
     have s5:=s3.trans s4;have ky:=s5 _ _ ed;have xK:=hL.mono s5;have GW:=sd.trans s5;have lu:=hL.1;refine ⟨_,rfl,.inl ⟨rfl,_,.of ky⟩,_,rfl,_,rfl,by show 2≤sizeLine;decide,fun tq mw=>⟨D,us,_,rfl,rfl,(bf mw) _ _ ky,cB (by lia),?_⟩⟩
     have st:af H4 (upd H4 tq (.tup [.int (i:Int),.int (j:Int)])):=bf mw;have pM:upd H4 tq (.tup [.int (i:Int),.int (j:Int)]) tq=some (.tup [.int (i:Int),.int (j:Int)]):=ay;generalize upd H4 tq (.tup [.int (i:Int),.int (j:Int)])=He at st pM ⊢;refine ⟨us++[.ref tq],_,rfl,fun b u e=>by rw [aJ (fun zz=>by rw [zz,nD] at e;cases e)];exact st _ _ (GW b u e),ay,?_,?_⟩
     ·rw [Bz ht,←xY]
      exact ((xK.mono st).cat (show cR He [.ref tq] [((i:Int),(j:Int))] from ⟨rfl,fun k v p h1 h2=>by
       match k,h1,h2 with
       | 0,h1,h2=>cases h1;cases h2;exact ⟨tq,rfl,pM⟩
       | k+1,h1,h2=>simp at h1⟩)).bG (st _ _ ky) fun b o nb e=>by rw [aJ nb];exact e
     ·rw [Bz ht,←xY,fe,oA]
      lia
    ·have ht:cy ah i j=false:=by rw [et];unfold jx;simpa using hc
     have s5:=s3.trans s4;refine ⟨us,_,rfl,sd.trans s5,s5 _ _ ed,?_,?_⟩;·rw [Lz ht];exact hL.mono s5
     ·rw [Lz ht];lia
  ·rintro σ Hd ⟨us,v5,rfl,sd,ed,hL,ll⟩
   refine ⟨us,_,_,rfl,sd,ed,?_,?_⟩;·rw [Fz];exact hL
   ·rw [Fz];lia
 ·rintro σ Hc ⟨us,v4,v5,rfl,sc,ec,hL,ll⟩
  exact hR _ _ ⟨_,rfl,kk D us Hc sc nD ec hL (by lia)⟩
theorem Za:aZ ["told","table","row","found","line","total","j"] ["told","table","row"] (aG Cw):=bw
theorem Zb(T:Txt K mg t):aS P w K mg base bH 6 t.sC t.vV ["told","table","row"] VO:=by
 have S:=Za;refine T.xp.bQ S (fun _ _ _ _ H _ _ _ hr h=>?_);obtain ⟨td,a,r,q,X,Y,n,m,ra,vf,lv,Tw,U,tt,u,Sw,R,rfl,tw,hq,hT,hw,xG,m60,hF,hL,cp,kk⟩:=h
 refine ⟨_,(ak (putL 3 S.nd (fV ae))
  (ak (cI cb rfl (d_ (pv 1)) (bP (i:=4) S.nd rfl (Or.inl rfl))
   (ak (putL 5 S.nd (aB (mB T) hr T.lA T.iD.kp T.lz aD (aa (pv 0) ae)))
  (ak (cI cb rfl (eA rfl T.da (aa (b6 eC rfl T.dY d8 (aa (pv 2) ae)) ae)) (bP (i:=6) S.nd rfl (Or.inl rfl))
   (ao (putL 5 S.nd (aB (Yq T) hr T.MU T.xg.kp T.MT aD (aa (pv 0) (aa (pv 5) (aa (aB (Oe T) hr T.Gm T.tF.kp T.Gk aD (aa (pv 0) (aa (aj a9 (pv 4) (pv 6)) (aa (aj a9 (pv 2) (pv 6)) ae)))) ae)))))))
  (ao (gX (j4 ie mM mO iM (pv 3) (aa (pv 5) ae)))))))
  (ao (aE (pv 3))))),?_⟩
 refine aw fun _ hR=>a8 ⟨cn _,fun D nD=>hR _ _ ?_⟩;have s1:af H (upd H D (.lst [])):=bf nD;have e1:upd H D (.lst []) D=some (.lst []):=ay;generalize upd H D (.lst [])=H1 at s1 e1 ⊢;have fR:((List.range n).map fun i=>V.ref (ra i)).length=n:=by rw [aX,cN]
 refine aw fun _ hR=>⟨_,rfl,a,rfl,⟨_,.of (s1 _ _ hT.lst)⟩,?_⟩;refine jg (K:=K) (a:=a) (xs:=(List.range n).map fun i=>V.ref (ra i)) (fun k σ Hc=>∃(wv:Nat→V) (v4 v5 v6:Option V),σ=[some (.ref td),some (.ref a),some (.ref r),some (.ref D),v4,v5,v6]∧af H Hc∧Hc D=some (.lst ((List.range k).map wv))∧∀i,i<k→aH X Hc q (wv i) (Sw i m) (R i)) ⟨fun _=>.aI,_,_,_,rfl,s1,e1,fun i hi=>absurd hi (mK _)⟩ (fun k σ Hc _ ⟨_,_,_,_,_,sc,_⟩=>.of (sc _ _ hT.lst)) ?_ ?_
 ·rintro i x σ Hc hx ⟨wv,v4,v5,v6,rfl,sc,ec,Fc⟩
  have hi:i<n:=by
   have:=(bZ.mp hx).1
   rwa [fR] at this
  have ex:x=.ref (ra i):=by rw [cC,i7 hi] at hx;exact (Option.some.inj hx).symm
  subst ex;dsimp only [bR];refine aw fun _ hR=>a8 ⟨_,rfl,td,q,rfl,tw.mono sc,hq,fun v0 H2 s2 h0=>hR _ _ ?_⟩;have GX:=sc.trans s2;have w0:aH X H2 q v0 (Sw i 0) (R i):=uW h0 (by rw [cp.s0 i hi,gv,gv];exact ja q) (cp.nz i hi) (cp.bd i 0 hi (cn _)).1 (cp.bd i 0 hi (cn _)).2
  refine aw fun _ hR=>⟨_,rfl,r,_,rfl,.inl (.of (GX _ _ hw)),(m:Int),by rw [aX,cN],by lia,by lia,?_⟩
  rw [df];refine gB (fun j σ Hd=>∃(v:V) (v6:Option V),σ=[some (.ref td),some (.ref a),some (.ref r),some (.ref D),some (.ref (ra i)),some v,v6]∧af H2 Hd∧aH X Hd q v (Sw i j) (R i)) ⟨v0,_,rfl,af.refl _,w0⟩ ?_ ?_
  ·rintro j σ Hd hj ⟨v,v6,rfl,sd,wd⟩
   dsimp only [bR];have S2:=GX.trans sd;rw [eU];refine a8 ⟨_,rfl,_,rfl,_,rfl,_,rfl,_,rfl,ra i,_,_,_,rfl,rfl,.of (S2 _ _ (hT.at' i hi)),bD hj,_,rfl,_,rfl,r,_,_,_,rfl,rfl,.of (S2 _ _ hw),bD hj,?_⟩;dsimp only [qr];have w1:=(hF i j hi hj).mono S2;have w2:=(hL j hj).mono S2;have oh:=w1.choose_spec.choose_spec.2.2;have tJ:=w2.choose_spec.choose_spec.2.2;have pb:=cp.pr i j hi hj;refine ⟨td,_,_,q,Tw i j,U i j,tt j,u j,X,Y,rfl,tw.mono S2,hq,w1,w2,cp.cx,eX hq oh tJ,pb.1,pb.2,fun v' H3 s3 w3=>?_⟩;have XY:X≤X+Y:=by lia
   refine ⟨td,_,_,q,Sw i j,R i,Tw i j*tt j,U i j*u j,max X Y,_,rfl,tw.mono (S2.trans s3),hq,(wd.mono s3).bd (aQ (cp.bd i j hi (by lia)).1 (Nat.le_max_left ..)) (aQ (cp.bd i j hi (by lia)).2 (Nat.le_max_left ..)),w3.bd (aQ pb.1 (Nat.le_max_right ..)) (aQ pb.2 (Nat.le_max_right ..)),Nat.max_le.mpr ⟨cp.cx,cp.FJ⟩,eX hq (cp.nz i hi) (eX hq oh tJ),ye _ _,Aq _ _,fun Zc H4 s4 w4=>?_⟩
   refine ⟨Zc,_,rfl,sd.trans (s3.trans s4),(w4.eq hq (cp.FI i j hi hj) (cp.nz i hi)).bd (cp.bd i (j+1) hi (by lia)).1 (cp.bd i (j+1) hi (by lia)).2⟩
  ·rintro σ Hd ⟨v,v6,rfl,sd,wd⟩
   refine hR _ _ ?_;have S2:=GX.trans sd;have ed:=sd _ _ (s2 _ _ ec);refine ⟨_,rfl,.inl ⟨rfl,_,.of ed⟩,_,rfl,D,_,_,rfl,rfl,ed,by rw [aX,cN];exact cB (by lia),?_⟩
   refine ⟨fun j=>if j=i then v else wv j,_,_,_,rfl,fun b o e=>by rw [aJ (fun zz=>by rw [zz,nD] at e;cases e)];exact S2 b o e,?_,fun j hj=>?_⟩
   ·rw [ay,lK,i9,Ap,ar rfl]
    congr 3
    refine iG fun j hj=>?_;rw [au (by have:=e8.mp hj;lia)]
   ·dsimp only
    by_cases e:j=i
    ·subst e
     rw [ar rfl];exact wd.put ed
    ·rw [au e]
     exact ((Fc j (by lia)).mono (s2.trans sd)).put ed
 ·rintro σ Hc ⟨wv,v4,v5,v6,rfl,sc,ec,Fc⟩
  rw [fR] at ec Fc;exact hR _ _ ⟨_,rfl,kk D wv Hc sc nD ec Fc⟩
theorem Zd:aZ ["told","table","places","lines","size","k","at","held","i","factor","j"] ["told","table","places"] (aG Cy):=bw
theorem Ze(T:Txt K mg t):aS P w K mg base bH 6 t.sD t.vW ["told","table","places"] VJ:=by
 have S:=Zd;refine T.xq.bQ S (fun _ _ _ _ H _ _ E hr h=>?_);obtain ⟨td,a,p,q,n,B,ra,vf,M,D,ps,rfl,tw,hq,hT,hF,ep,pl,nd,iE,b1,hM,hD,GY,iY,kk⟩:=h;have hu:=hr.oM
 refine ⟨_,(ak (Kb (i0:=3) (N:=["i","places","table"]) (ρ:=(fun σ=>[σ[2]?.join,σ[1]?.join])) ⟨rfl,rfl,(fun _=>rfl),(fun _=>rfl),by decide +kernel,(t6.mpr ⟨rfl,(t6.mpr ⟨rfl,(Ad _)⟩)⟩),J_ (by rfl),rfl,by decide +kernel,rfl,(fun σ j v h=>match j,h with | 0,h=>⟨2,_,rfl,rfl,join_some h,Or.inr (Or.inl rfl),.inl rfl,.inl rfl⟩ | 1,h=>⟨1,_,rfl,rfl,join_some h,Or.inr (Or.inl rfl),.inl rfl,.inl rfl⟩ | j+2,h=>by cases h),(fun _ _=>rfl)⟩ rfl S.nd rfl (Or.inl rfl) (d_ (pv 2)) (fun _ _ _=>.nil) (fun _ _ _=>(j8 (N:=["j","table","i"]) (ρ:=(fun σ=>[σ[2]?.join,σ[0]?.join])) (eV [2,0] rfl) rfl (Km (K:=K) (pv 1)) (fun _ _ _=>.nil) (fun _ _ _=>(aj (iT (K:=K)) (aj (iT (K:=K)) (pv 1) (pv 2)) (pv 0))))))
  (ak (putL 4 S.nd (b6 eC rfl T.dY d8 (aa (pv 2) ae)))
  (ak (cI cb rfl (eA rfl T.da (aa (pv 4) ae)) (bP (i:=5) S.nd rfl (Or.inl rfl))
   (ak (putL 6 S.nd (pv 5))
  (ak (qj cb (PW.pt (pw_and (aY lV (pv 6) (pv 4)) (pw_and1 (aY (ER hu) (aj a9 (aj a9 (pv 3) (pv 6)) (pv 5)) (aB (mB T) hr T.lA T.iD.kp T.lz aD (aa (pv 0) ae)))))) (ao (putL 6 S.nd (aA fo (pv 6) ag))))
  (ak (bK (aY eB (pv 6) (pv 4)) (ao (aE d9)) bL)
  (ak (putL 7 S.nd (aj a9 (pv 3) (pv 5)))
  (ak (@ig _ _ _ _ _ _ (aj a9 (pv 3) (pv 6)) (jf (pv 3) (pv 5) set_list) (by rfl) (by rfl) (by rfl))
  (ak (@ig _ _ _ _ _ _ (pv 7) (jf (pv 3) (pv 6) set_list) (by rfl) (by rfl) (by rfl))
  (ao (cI cb rfl (AD rfl T.da (aa (aA fo (pv 5) ag) (aa (pv 4) ae))) (bP (i:=8) S.nd rfl (Or.inl rfl))
   (ak (putL 9 S.nd (aB (Yv T) hr T.MY T.xi.kp T.MX aD (aa (pv 0) (aa (aj a9 (aj a9 (pv 3) (pv 8)) (pv 5)) (aa (aj a9 (aj a9 (pv 3) (pv 5)) (pv 5)) ae)))))
  (ao (cI cb rfl (AD rfl T.da (aa (pv 5) (aa (pv 4) ae))) (bP (i:=10) S.nd rfl (Or.inl rfl))
   (ao (@ig _ _ _ _ _ _ (aB (Yt T) hr T.MW T.xh.kp T.MV aD (aa (pv 0) (aa (aj a9 (aj a9 (pv 3) (pv 8)) (pv 10)) (aa (aB (Oe T) hr T.Gm T.tF.kp T.Gk aD (aa (pv 0) (aa (pv 9) (aa (aj a9 (aj a9 (pv 3) (pv 5)) (pv 10)) ae)))) ae)))) (jf (aj a9 (pv 3) (pv 8)) (pv 10) set_list) (by rfl) (by rfl) (by rfl)))))))))))))))
  (ao (aE d9))))),?_⟩
 obtain ⟨m,hm⟩:∃m,m=ps.length:=⟨_,rfl⟩;have mn:m≤n:=by have:=nd.length_le_of_subset (l₂:=List.range n) fun x hx=>e8.mpr (pl x hx);rw [cN] at this;lia
 have zN:(cm ps).length=m:=by unfold cm;rw [aX,hm]
 have pd:∀i,i<m→ps.getD i 0<n:=fun i hi=>by
  rw [getD_at (by lia)]
  exact pl _ (fj _)
 have pat:∀{i:Nat} {x:V},(cm ps)[i]?=some x→i<m∧x=.int ((ps.getD i 0:Nat):Int):=fun{i x} h=>by
  obtain ⟨y,hy,rfl⟩:=int_at h;have hi:=(bZ.mp hy).1;refine ⟨by lia,?_⟩
  rw [getD_at hi,(bZ.mp hy).2]
 refine aw fun _ hR=>a8 (jw (xs:=cm ps) (n:=m) zN (fun R h=>⟨_,rfl,p,rfl,⟨_,.of ep⟩,h _ _ (af.refl _) (j_ (.of ep))⟩) (cB (by lia)) (fun _ i y Hx=>Hx y=some (.lst ((List.range m).map fun j=>vf (ps.getD i 0) (ps.getD j 0)))∧H y=none) ?_ ?_ ?_)
 ·intro D i y Ha Hb ys ⟨h1,h2⟩ hy e f
  exact ⟨f y _ hy h1,h2⟩
 ·intro D0 i x hx Hc R sc _ kc
  obtain ⟨hi,rfl⟩:=pat hx;refine Bg (xs:=cm ps) (fun R h=>⟨_,rfl,p,rfl,⟨_,.of (sc _ _ ep)⟩,h _ _ (af.refl _) (j_ (.of (sc _ _ ep)))⟩) (by rw [zN];exact cB (by lia)) (fun _ j y _=>y=vf (ps.getD i 0) (ps.getD j 0)) (fun _ _ _ _ _ _ h _ _=>h) ?_ ?_
  ·intro D1 j x hx Hd R' sd _ kd
   obtain ⟨hj,rfl⟩:=pat hx;have S2:=sc.trans sd;refine ⟨_,rfl,_,rfl,a,_,_,_,rfl,rfl,.of (S2 _ _ hT.lst),bD (pd i hi),_,rfl,ra (ps.getD i 0),_,_,_,rfl,rfl,.of (S2 _ _ (hT.at' _ (pd i hi))),bD (pd j hj),kd _ Hd (af.refl _) rfl⟩
  ·intro D1 ys Hd oi sd jK lB eD
   rw [zN] at jK;refine kc D1 Hd sd oi ⟨_,eD⟩ ⟨?_,none_of sc oi⟩;rw [eD]
   congr 2
   refine fK (by simp [jK]) fun j h1 h2=>?_
   rw [fh,gw];exact lB j _ (cY h1)
 ·intro ln rs H1 Zf s1 inj hA OA
  refine hR _ _ ?_;have W1:WTab H1 ln m rs (fun i j=>vf (ps.getD i 0) (ps.getD j 0)):=⟨OA,inj,fun i hi=>(hA i hi).2,fun i hi=>(hA i hi).1.1⟩;have gU:∀i,i<m→H (rs i)=none:=fun i hi=>(hA i hi).1.2;clear hA inj OA;have cx:bV n B≤10 ^ 140:=aQ iY (by decide +kernel)
  have bX:B≤bV n B:=by
   have:=y4 (n:=n) b1 (show 1≤n+2 by lia)
   rw [Nat.pow_one] at this;exact aQ (aQ (by show B≤iz 1*B;exact jT _ (Fw 1)) this) (y6 b1)
  have I0:iB q B m 0 (fun i j=>M (ps.getD i 0) (ps.getD j 0)) (fun i=>D (ps.getD i 0)) (fun i j=>M (ps.getD i 0) (ps.getD j 0)):=⟨trivial,fun _=>Iff.rfl,fun i j=>hM _ _,fun i=>hD _,fun i=>GY _⟩;have F1:gI (bV n B) H1 q 0 m (fun i j=>vf (ps.getD i 0) (ps.getD j 0)) (nT (fun i j=>M (ps.getD i 0) (ps.getD j 0)) 0) (nU (fun i j=>M (ps.getD i 0) (ps.getD j 0)) (fun i=>D (ps.getD i 0)) 0):=fun i j _ hi _ hj=>by have e1:nT (fun i j=>M (ps.getD i 0) (ps.getD j 0)) 0 i j=M (ps.getD i 0) (ps.getD j 0):=Bt;have e2:nU (fun i j=>M (ps.getD i 0) (ps.getD j 0)) (fun i=>D (ps.getD i 0)) 0 i j=D (ps.getD i 0):=gu _;rw [e1,e2];exact ((hF _ _ (pd i hi) (pd j hj)).mono s1).bd (aQ (hM _ _) bX) (aQ (hD _) bX)
  have fin:∀{k:Nat} {N:aF} {E:Nat→Int},iB q B m k N E (fun i j=>M (ps.getD i 0) (ps.getD j 0))→∀y:Nat→Int,((∀i,i<m→q∣((List.range m).map fun j=>N i j*y j).sum)↔∀i,i<m→q∣((List.range m).map fun j=>M (ps.getD i 0) (ps.getD j 0)*y j).sum):=fun{k N E} I y=>I.rows fun f=>q∣((List.range m).map fun j=>f j*y j).sum;generalize (fun i j=>vf (ps.getD i 0) (ps.getD j 0))=Zg at W1 F1;generalize hN0:(fun i j=>M (ps.getD i 0) (ps.getD j 0))=N0 at I0 F1 fin;generalize (fun i=>D (ps.getD i 0))=E0 at I0 F1;refine aw fun _ hR=>a8 ⟨_,rfl,p,_,rfl,.inl (.of (s1 _ _ ep)),hR _ _ ?_⟩;rw [zN];refine aw fun _ hR=>⟨_,rfl,(m:Int),rfl,by lia,by lia,?_⟩
  rw [df];refine gB (fun k σ Hc=>∃(v5 v6 v7 v8 v9 v10:Option V) (rs:Nat→Addr) (fD:Nat→Nat→V) (N:aF) (E:Nat→Int),σ=[some (.ref td),some (.ref a),some (.ref p),some (.ref ln),some (.int (m:Int)),v5,v6,v7,v8,v9,v10]∧af H Hc∧WTab Hc ln m rs fD∧(∀i,i<m→H (rs i)=none)∧iB q B m k N E N0∧gI (bV n B) Hc q k m fD (nT N k) (nU N E k)) ⟨_,_,_,_,_,_,rs,Zg,N0,E0,rfl,s1,W1,gU,I0,F1⟩ ?_ ?_
  ·clear F1 I0 gU W1 s1
   rintro k σ Hc hk ⟨v5,v6,v7,v8,v9,v10,rs,fD,N,E,rfl,sc,Wc,gU,I,Fc⟩;dsimp only [bR];rw [eU];refine aw fun _ hR=>a8 ⟨_,rfl,hR _ _ ?_⟩;refine aw fun R hR=>?_;have rest:∀(b:Nat) (H3:Hp),k≤b→b≤m→af Hc H3→(∀i,k≤i→i<b→q∣nT N k i k)→(b<m→¬q∣nT N k b k)→R [some (.ref td),some (.ref a),some (.ref p),some (.ref ln),some (.int (m:Int)),some (.int (k:Int)),some (.int (b:Int)),v7,v8,v9,v10] H3:=fun b H3 kb bm sb hz OB=>hR _ _ (by
    have S3:=sc.trans sb;have W3:=Wc.mono sb;have F3:=Fc.mono sb;refine aw fun _ hR=>⟨_,rfl,_,rfl,rfl,_,rfl,bS (fun hb=>?_) (fun hb=>hR _ _ ?_)⟩
    ·have qx:b=m:=by rw [f_] at hb;have:=dN hb;lia
     subst qx;obtain ⟨y,ny,hy⟩:=VH hq hk I.good hz;exact kk true H3 S3 ⟨fun _=>(LK hm nd).mpr ⟨y,⟨k,hk,ny⟩,(fin I y).mp hy⟩,fun _=>rfl⟩
    ·have qx:b≠m:=fun e=>hb (by rw [f_];exact cj (by lia))
     have jN:b<m:=by lia
     have OC:=OB jN;refine aw fun _ hR=>a8 ⟨_,rfl,_,rfl,ln,_,_,_,rfl,rfl,.of W3.lst,bD hk,hR _ _ ?_⟩;refine aw fun _ hR=>a8 ⟨_,rfl,_,rfl,ln,_,_,_,rfl,rfl,.of W3.lst,bD jN,_,rfl,_,rfl,ln,_,_,k,rfl,rfl,W3.lst,by rw [aX,cN];exact ke hk,hR _ _ ?_⟩
     refine aw fun _ hR=>a8 ⟨_,rfl,_,rfl,_,rfl,ln,_,_,b,rfl,rfl,ay,by rw [List.length_set,aX,cN];exact ke jN,hR _ _ ?_⟩
     rw [Pp];have W4:=W3.swap hk jN;have S4:af H (upd H3 ln (.lst ((((List.range m).map fun i=>V.ref (rs i)).set k (.ref (rs b))).set b (.ref (rs k))))):=gF S3 Zf;have I4:=I.swap kb jN;have F4:gI (bV n B) (upd H3 ln (.lst ((((List.range m).map fun i=>V.ref (rs i)).set k (.ref (rs b))).set b (.ref (rs k))))) q k m (cw k b fD) (nT (cw k b N) k) (nU (cw k b N) (cw k b E) k):=F3.swap kb jN fun v t u h=>h.put W3.lst;have GZ:∀i,i<m→H (cw k b rs i)=none:=(FH hk jN (f:=rs) (P:=fun r=>H r=none)).mpr gU;have jz:¬q∣nT (cw k b N) k k k:=by rw [LI kb,LF];exact OC
     generalize upd H3 ln (.lst ((((List.range m).map fun i=>V.ref (rs i)).set k (.ref (rs b))).set b (.ref (rs k))))=H4 at W4 S4 F4 ⊢;generalize cw k b fD=Zh at W4 F4;generalize cw k b N=N4 at I4 F4 jz;generalize cw k b E=E4 at I4 F4;generalize cw k b rs=pP at W4 GZ;clear OC F3 W3 S3 hz OB;have I5:=I4.next jz;refine ⟨_,rfl,_,_,rfl,rfl,_,rfl,(k:Int)+1,(m:Int),rfl,⟨by lia,by lia,by lia,by lia⟩,?_⟩
     rw [show ((m:Int)-((k:Int)+1)).toNat=m-(k+1) by lia]
     refine gB (fun l σ Hd=>∃(v7 v8 v9 v10:Option V) (tP:Nat→Nat→V),σ=[some (.ref td),some (.ref a),some (.ref p),some (.ref ln),some (.int (m:Int)),some (.int (k:Int)),some (.int (b:Int)),v7,v8,v9,v10]∧af H Hd∧WTab Hd ln m pP tP∧gI (bV n B) Hd q k m tP (eY (fun i _=>decide (k<i∧i<k+1+l)) (nT N4 k) (nT N4 (k+1))) (eY (fun i _=>decide (k<i∧i<k+1+l)) (nU N4 E4 k) (nU N4 E4 (k+1)))) ⟨_,_,_,_,Zh,rfl,S4,W4,F4.to fun i j _ _ _ _=>⟨cJ (by simp;lia),cJ (by simp;lia)⟩⟩ ?_ ?_
     ·clear F4 W4 S4
      rintro l σ Hd hl ⟨v7,v8,v9,v10,tP,rfl,S5,W5,F5⟩;dsimp only [bR];obtain ⟨i,ei⟩:∃i,i=k+1+l:=⟨_,rfl⟩;have eI:(k:Int)+1+(l:Int)=(i:Int):=by lia
      rw [eI];rw [←ei] at F5;have jO:i<m:=by lia
      have G0:=F5 i k (by lia) jO (aN _) hk
      have G1:=F5 k k (aN _) hk (aN _) hk;rw [cJ (by simp),cJ (by simp)] at G0
      rw [cJ (by simp),cJ (by simp)] at G1
      refine aw fun _ hR=>a8 ⟨_,rfl,_,rfl,_,rfl,ln,_,_,_,rfl,rfl,.of W5.lst,bD jO,_,rfl,pP i,_,_,_,rfl,rfl,.of (W5.at' i jO),bD hk,_,rfl,_,rfl,ln,_,_,_,rfl,rfl,.of W5.lst,bD hk,_,rfl,pP k,_,_,_,rfl,rfl,.of (W5.at' k hk),bD hk,?_⟩;dsimp only [qr];refine ⟨td,_,_,q,_,_,_,_,bV n B,_,rfl,tw.mono S5,hq,G0,G1,cx,jz,ye _ _,Aq _ _,fun fc H6 s6 w6=>hR _ _ ?_⟩;have kn:k≤n:=by lia
      have w6:aH (bV n B) H6 q fc (nT N4 k i k*E4 k) (E4 i*nT N4 k k k):=(w6.eq hq (show Cg q (nT N4 k i k*nU N4 E4 k k k*(E4 i*nT N4 k k k)) (nT N4 k i k*E4 k*(nU N4 E4 k i k*nT N4 k k k)) from Cg.of_eq (by unfold nU;grind)) (eX hq (I4.nE i) jz)).bd (nV b1 (uX I4 b1 kn _ _) (I4.bE k)).1 (nV b1 (uX I4 b1 kn _ _) (I4.bE i)).2
      have S6:=S5.trans s6;have W6:=W5.mono s6;have F6:gI (bV n B) H6 q k m tP (eY (fun i' j'=>decide (k<i'∧i'<i) || (decide (i'=i) && decide (j'<k+0))) (nT N4 k) (nT N4 (k+1))) (eY (fun i' j'=>decide (k<i'∧i'<i) || (decide (i'=i) && decide (j'<k+0))) (nU N4 E4 k) (nU N4 E4 (k+1))):=(F5.mono s6).to fun i' j' _ _ h _=>by
       have ee:(fun i' j'=>decide (k<i'∧i'<i) || (decide (i'=i) && decide (j'<k+0))) i' j'=(fun i' _=>decide (k<i'∧i'<i)) i' j':=by dsimp only;rw [show decide (j'<k+0)=false from dc (by lia),Bool.and_false,Bool.or_false]
       constructor <;> (unfold eY;rw [ee])
      clear F5 W5 G0 G1;refine ⟨_,rfl,_,rfl,(k:Int),(m:Int),rfl,⟨by lia,by lia,by lia,by lia⟩,?_⟩
      rw [show ((m:Int)-(k:Int)).toNat=m-k by lia]
      refine gB (fun l2 σ He=>∃(v10:Option V) (tM:Nat→Nat→V),σ=[some (.ref td),some (.ref a),some (.ref p),some (.ref ln),some (.int (m:Int)),some (.int (k:Int)),some (.int (b:Int)),v7,some (.int (i:Int)),some fc,v10]∧af H He∧aH (bV n B) He q fc (nT N4 k i k*E4 k) (E4 i*nT N4 k k k)∧WTab He ln m pP tM∧gI (bV n B) He q k m tM (eY (fun i' j'=>decide (k<i'∧i'<i) || (decide (i'=i) && decide (j'<k+l2))) (nT N4 k) (nT N4 (k+1))) (eY (fun i' j'=>decide (k<i'∧i'<i) || (decide (i'=i) && decide (j'<k+l2))) (nU N4 E4 k) (nU N4 E4 (k+1)))) ⟨_,tP,rfl,S6,w6,W6,F6⟩ ?_ ?_
      ·clear F6 W6 S6 w6
       rintro l2 σ He JO ⟨v10,tM,rfl,S6,w6,W6,F6⟩;dsimp only [bR];obtain ⟨j,ej⟩:∃j,j=k+l2:=⟨_,rfl⟩;have eJ:(k:Int)+(l2:Int)=(j:Int):=by lia
       rw [eJ];rw [←ej] at F6;have zO:j<m:=by lia
       have xH:=F6 i j (by lia) jO (by lia) zO
       have OD:=F6 k j (aN _) hk (by lia) zO
       rw [cJ (by simp),cJ (by simp)] at xH
       rw [cJ (by simp <;> lia),cJ (by simp <;> lia)] at OD
       refine a8 ⟨_,rfl,_,rfl,_,rfl,ln,_,_,_,rfl,rfl,.of W6.lst,bD jO,_,rfl,pP i,_,_,_,rfl,rfl,.of (W6.at' i jO),bD zO,_,rfl,_,rfl,_,rfl,_,rfl,ln,_,_,_,rfl,rfl,.of W6.lst,bD hk,_,rfl,pP k,_,_,_,rfl,rfl,.of (W6.at' k hk),bD zO,?_⟩;dsimp only [qr];have oh:¬q∣E4 i*nT N4 k k k:=eX hq (I4.nE i) jz;have tJ:=FK hq I4 k j;refine ⟨td,_,_,q,_,_,_,_,bV n B,_,rfl,tw.mono S6,hq,w6,OD,cx,eX hq oh tJ,ye _ _,Aq _ _,fun v1 H7 s7 w7=>?_⟩;have dz:=iW hq I4.good;have w7:aH (bV n B) H7 q v1 (nT N4 k i k*nT N4 k k j) (E4 i*nT N4 k k k*bC N4 (cF k)):=(w7.eq hq (show Cg q (nT N4 k i k*E4 k*nT N4 k k j*(E4 i*nT N4 k k k*bC N4 (cF k))) (nT N4 k i k*nT N4 k k j*(E4 i*nT N4 k k k*nU N4 E4 k k j)) from Cg.of_eq (by unfold nU;grind)) (eX hq oh dz)).bd (by
        have:=Lv (n:=n) b1 (a:=1) (show (1:Int).natAbs≤B from b1) (uX I4 b1 kn i k) (uX I4 b1 kn k j)
        rwa [oC] at this) (Lv b1 (I4.bE i) (uX I4 b1 kn k k) (LJ I4 b1 kn))
       refine ⟨td,_,_,q,_,_,_,_,bV n B,_,rfl,(tw.mono S6).mono s7,hq,xH.mono s7,w7,cx,eX hq (FK hq I4 i j) (eX hq oh dz),ye _ _,Aq _ _,fun v2 H8 s8 w8=>?_⟩;have w8:=(w8.eq hq (VU hq I4 i j) (FK hq I5 i j)).bd (VS (n:=n) I5 b1 (by lia) i j) (VT (n:=n) I5 b1 (by lia) i j)
       have Dx:=s7.trans s8;have W8:=W6.mono Dx;refine ⟨_,rfl,_,rfl,ln,_,_,_,rfl,rfl,.of W8.lst,bD jO,_,rfl,pP i,_,_,j,rfl,rfl,W8.at' i jO,by rw [aX,cN];exact ke zO,?_⟩
       refine ⟨_,_,rfl,gF (S6.trans Dx) (GZ i jO),(w6.mono Dx).put (W8.at' i jO),W8.put (j:=j) v2 jO,(F6.mono Dx).put (fun v t u h=>h.put (W8.at' i jO)) (by rw [dX (by rw [show decide (j<k+(l2+1))=true from cj (by lia)];simp),dX (by rw [show decide (j<k+(l2+1))=true from cj (by lia)];simp)];exact w8.put (W8.at' i jO)) fun i' j' _ _ _ _ ne=>?_⟩
       have ee:(fun i' j'=>decide (k<i'∧i'<i) || (decide (i'=i) && decide (j'<k+(l2+1)))) i' j'=(fun i' j'=>decide (k<i'∧i'<i) || (decide (i'=i) && decide (j'<j))) i' j':=by
        dsimp only;by_cases h2:i'=i
        ·have h3:j'≠j:=fun z=>ne ⟨h2,z⟩
         rw [show decide (j'<k+(l2+1))=decide (j'<j) from decide_eq_decide.mpr (by lia)]
        ·simp [h2]
       constructor <;> (unfold eY;rw [ee])
      ·rintro σ He ⟨v10,tM,rfl,S6,w6,W6,F6⟩
       refine ⟨_,_,_,_,tM,rfl,S6,W6,F6.to fun i' j' _ _ _ dr=>?_⟩;have ee:(fun i' _=>decide (k<i'∧i'<k+1+(l+1))) i' j'=(fun i' j'=>decide (k<i'∧i'<i) || (decide (i'=i) && decide (j'<k+(m-k)))) i' j':=by
        dsimp only;rw [show decide (j'<k+(m-k))=true from cj (by lia),Bool.and_true,←Bool.decide_or]
        exact decide_eq_decide.mpr (by lia)
       constructor <;> (unfold eY;rw [ee])
     ·rintro σ Hd ⟨v7,v8,v9,v10,tP,rfl,S5,W5,F5⟩
      refine ⟨_,_,_,_,_,_,pP,tP,N4,E4,rfl,S5,W5,GZ,I5,fun i j h1 h2 h3 h4=>?_⟩;have:=F5 i j (by lia) h2 (by lia) h4
      rwa [dX (by simp;lia),dX (by simp;lia)] at this)
   refine ⟨fun μ σ H'=>∃b:Nat,σ=[some (.ref td),some (.ref a),some (.ref p),some (.ref ln),some (.int (m:Int)),some (.int (k:Int)),some (.int (b:Int)),v7,v8,v9,v10]∧μ=m-b∧k≤b∧b≤m∧af Hc H'∧∀i,k≤i→i<b→q∣nT N k i k,⟨_,k,rfl,rfl,aN _,by lia,af.refl _,fun i h1 h2=>by lia⟩,?_⟩
   rintro μ σ H' ⟨b,rfl,em,kb,bm,sb,hz⟩;refine ⟨_,rfl,_,rfl,_,_,rfl,rfl,_,rfl,bS (fun hb=>?_) (fun hb=>?_)⟩
   ·have jN:b<m:=by have:=dN hb;lia
    have Wb:=Wc.mono sb;obtain ⟨x,d,h1,h2,h3⟩:=Fc b k kb jN (aN _) hk;refine ⟨_,rfl,_,rfl,ln,_,_,_,rfl,rfl,.of Wb.lst,bD jN,_,rfl,rs b,_,_,_,rfl,rfl,.of (Wb.at' b jN),bD hk,_,rfl,td,q,rfl,tw.mono (sc.trans sb),hq,fun v0 H3 s3 h0=>EX (h1.mono (sb.trans s3)) h0 ⟨_,rfl,bS (fun hb=>?_) (fun hb=>?_)⟩⟩
    ·have x0:x=0:=dN hb
     have dv:=(k9 hq ⟨x,d,h1,h2,h3⟩).mpr ⟨x,d,h1,x0⟩;refine ⟨fun σ' H2=>H2=H3∧σ'=[some (.ref td),some (.ref a),some (.ref p),some (.ref ln),some (.int (m:Int)),some (.int (k:Int)),some (.int ((b:Int)+1)),v7,v8,v9,v10],?_,?_⟩
     ·rintro σ' H2 ⟨rfl,rfl⟩
      refine ⟨m-(b+1),by lia,b+1,by push_cast;rfl,rfl,by lia,by lia,sb.trans s3,fun i i1 i2=>?_⟩
      by_cases e:i=b;·subst e;exact dv
      ·exact hz i i1 (by lia)
     ·exact a8 ⟨_,rfl,_,_,rfl,rfl,rfl,rfl⟩
    ·have x0:¬x=0:=fun zz=>hb (cj zz)
     refine rest b H3 kb bm (sb.trans s3) hz fun _ dv=>?_;obtain ⟨x',m',g1,g2⟩:=(k9 hq ⟨x,d,h1,h2,h3⟩).mp dv;exact x0 ((Fu h1 g1).1.trans g2)
   ·have jN:¬b<m:=fun z=>hb (cj (by lia))
    exact rest b H' kb bm sb hz fun z=>absurd z jN
  ·rintro σ Hc ⟨v5,v6,v7,v8,v9,v10,rs,fD,N,E,rfl,sc,Wc,gU,I,Fc⟩
   refine hR _ _ (kk false Hc sc ⟨fun h=>absurd h (by decide),fun h=>?_⟩)
   obtain ⟨y,⟨j,hj,nj⟩,hy⟩:=(LK hm nd).mp h;exact absurd (VI hq I.good y ((fin I y).mpr hy) j hj) nj
theorem Zi:aZ ["told","table","order","k"] ["told","table","order"] (aG Cz):=bw
theorem Zj(T:Txt K mg t):aS P w K mg base bH 7 t.sE t.vX ["told","table","order"] VL:=by
 have S:=Zi;refine T.xr.bQ S (fun _ _ _ _ H _ _ _ hr h=>?_);obtain ⟨td,a,p,q,n,B,ra,vf,M,D,o,rfl,tw,hq,hT,hF,ep,ho,iE,b1,hM,hD,GY,iY,kS,kO⟩:=h;have lo:=gg ho;have ll:(cm o).length=n:=by unfold cm;rw [aX,lo]
 refine ⟨_,(ak (cI cb rfl (AD rfl T.da (aa ag (aa (aA fo (b6 eC rfl T.dY d8 (aa (pv 2) ae)) ag) ae))) (bP (i:=3) S.nd rfl (Or.inl rfl))
   (ao (bK (gN (aB (Ze T) hr T.Nc T.xq.kp T.Nb aD (aa (pv 0) (aa (pv 1) (aa (Es Et (pv 2) Ep (Er (pv 3))) ae))))) (ao (aE (pv 3))) bL)))
  (ao (aE ag))),?_⟩
 refine aw fun _ hR=>⟨_,rfl,p,_,rfl,.inl (.of ep),_,_,rfl,rfl,1,((cm o).length:Int)+1,rfl,⟨by lia,by lia,by lia,by lia⟩,?_⟩
 rw [ll,show ((n:Int)+1-1).toNat=n by lia]
 refine gB (fun k σ Hc=>∃(v3:Option V),σ=[some (.ref td),some (.ref a),some (.ref p),v3]∧af H Hc∧ck q M (cO o k)) ⟨_,rfl,af.refl _,trivial⟩ ?_ ?_
 ·rintro k σ Hc hk ⟨v3,rfl,sc,g⟩
  dsimp only [bR];refine ⟨_,rfl,_,rfl,_,rfl,_,rfl,_,rfl,p,_,rfl,.of (sc _ _ ep),fun u nu=>?_⟩;have ec:jk (cm o) none (some (1+(k:Int)))=cm (o.take (k+1)):=by
   rw [show (1:Int)+(k:Int)=((k+1:Nat):Int) by lia,J3]
   unfold cm;rw [List.map_take]
  rw [ec];have su:af Hc (upd Hc u (.lst (cm (o.take (k+1))))):=bf nu;have eu:upd Hc u (.lst (cm (o.take (k+1)))) u=some (.lst (cm (o.take (k+1)))):=ay;generalize upd Hc u (.lst (cm (o.take (k+1))))=H1 at su eu ⊢;have s1:=sc.trans su;have kl:k<o.length:=by lia
  refine ⟨td,a,u,q,n,B,ra,vf,M,D,o.take (k+1),rfl,tw.mono s1,hq,hT.mono s1,fun i j hi hj=>(hF i j hi hj).mono s1,eu,fun x hx=>(dI ho).mp (List.mem_of_mem_take hx),(xU _ _).nodup (k7 ho),iE,b1,hM,hD,GY,iY,fun b H2 s2 hb=>?_⟩;rw [VN hq ho kl g] at hb;refine ⟨b,rfl,bS (fun h=>?_) (fun h=>?_)⟩
  ·have:=kS k kl g (hb.mp h) H2 (s1.trans s2)
   refine gP ⟨_,rfl,?_⟩;rw [show (1:Int)+(k:Int)=(k:Int)+1 by lia]
   exact this
  ·refine ⟨_,rfl,s1.trans s2,?_⟩
   rw [ph kl];exact ⟨g,fun z=>h (hb.mpr z)⟩
 ·rintro σ Hc ⟨v3,rfl,sc,g⟩
  exact hR _ _ (kO g Hc sc)
theorem Zk:aZ ["told","tape","size","links","table","i","j","way"] ["told","tape","size","links"] (aG Cs):=bw
theorem Zl(T:Txt K mg t):aS P w K mg base bH 6 t.sq t.vR ["told","tape","size","links"] VQ:=by
 have S:=Zk;refine T.xk.bQ S (fun _ _ _ _ H _ _ _ hr h=>?_);obtain ⟨td,Tp,lk,q,n,us,L,rfl,tw,hq,tc,xG,lT,pQ,hL,cq,kk⟩:=h;have hu:=hr.oM
 refine ⟨_,(ak (l7 (i0:=4) (N:=["i","size","told"]) (ρ:=(fun σ=>[σ[2]?.join,σ[0]?.join])) (eV [2,0] rfl) rfl S.nd rfl (Or.inl rfl) (eA rfl T.da (aa (pv 2) ae)) (fun _ _ _=>.nil) (fun _ _ _=>(j8 (N:=["j","told"]) (ρ:=(fun σ=>[σ[2]?.join])) (eV [2] rfl) rfl (eA rfl T.da (aa (pv 1) ae)) (fun _ _ _=>.nil) (fun _ _ _=>(aB (mB T) hr T.lA T.iD.kp T.lz aD (aa (pv 1) ae))))))
  (ak (cI cb rfl (eA rfl T.da (aa (pv 2) ae)) (bP (i:=5) S.nd rfl (Or.inl rfl))
   (ak (@ig _ _ _ _ _ _ (aB (Dp T) hr T.zk T.og.kp T.zh aD (aa (pv 0) (aa (pv 1) ae))) (jf (aj a9 (pv 4) (pv 5)) (pv 5) set_list) (by rfl) (by rfl) (by rfl))
  (ao (bK (PW.pt (pw_and (aY (ER hu) (aj a9 (aj a9 (pv 4) (pv 5)) (pv 5)) (aB (mB T) hr T.lA T.iD.kp T.lz aD (aa (pv 0) ae))) (pw_and1 (aY oK (aB (lC T) hr T.jG T.gT.kp T.jF aD (aa (pv 1) (aa ag ae))) ag)))) (ao (@ig _ _ _ _ _ _ (aB (pL T) hr T.n_ T.jH.kp T.n8 aD (aa (pv 0) (aa ag (aa ag ae)))) (jf (aj a9 (pv 4) (pv 5)) (pv 5) set_list) (by rfl) (by rfl) (by rfl))) bL))))
  (ak (cI cb rfl (d_ (pv 3)) (mX rfl (fM (bP (i:=5) S.nd rfl (Or.inl rfl)) (fM (bP (i:=6) S.nd rfl (Or.inl rfl)) mW)))
   (ak (putL 7 S.nd (aB (lC T) hr T.jG T.gT.kp T.jF aD (aa (pv 1) (aa ag ae))))
  (ak (bK (aY iq (pv 7) ag) (ao (@ig _ _ _ _ _ _ (aB (Dp T) hr T.zk T.og.kp T.zh aD (aa (pv 0) (aa (pv 1) ae))) (jf (aj a9 (pv 4) (pv 5)) (pv 6) set_list) (by rfl) (by rfl) (by rfl))) bL)
  (ao (bK (aY iq (pv 7) ag) (ao (@ig _ _ _ _ _ _ (aB (Dp T) hr T.zk T.og.kp T.zh aD (aa (pv 0) (aa (pv 1) ae))) (jf (aj a9 (pv 4) (pv 6)) (pv 5) set_list) (by rfl) (by rfl) (by rfl))) bL)))))
  (ao (aE (pv 4)))))),?_⟩
 have fR:((List.range n).map fun i:Nat=>V.int (0+(i:Int))).length=n:=by rw [aX,cN]
 refine aw fun _ hR=>a8 (jw (xs:=(List.range n).map fun i:Nat=>V.int (0+(i:Int))) (n:=n) fR (fun R h=>⟨_,rfl,(n:Int),rfl,by lia,by lia,by rw [df];exact h _ _ (af.refl _) nN⟩) (cB (by lia)) (fun _ i y Hx=>(∃ys,Hx y=some (.lst ys)∧ys.length=n∧∀(j:Nat) (v:V),ys[j]?=some v→aV 1000 Hx q v 0 1)∧H y=none) ?_ ?_ ?_)
 ·intro D i y Ha Hb ys ⟨⟨zs,h1,h3,h4⟩,h2⟩ hy e f
  exact ⟨⟨zs,f y _ hy h1,h3,fun j v hv=>(h4 j v hv).bG e f⟩,h2⟩
 ·intro D i x hx Hc R sc _ kc
  refine Bg (xs:=(List.range n).map fun i:Nat=>V.int (0+(i:Int))) (fun R h=>⟨_,rfl,(n:Int),rfl,by lia,by lia,by rw [df];exact h _ _ (af.refl _) nN⟩) (by rw [fR];exact cB (by lia)) (fun _ j y Hx=>aV 1000 Hx q y 0 1) (fun D' i' y' Ha Hb ys' h e f=>h.bG e f) ?_ ?_
  ·intro D1 j x' AA Hd R' sd _ kd
   exact ⟨_,rfl,td,q,rfl,tw.mono (sc.trans sd),hq,fun v0 H2 s2 h0=>kd v0 H2 s2 h0⟩
  ·intro D1 ys Hd oi sd jK lB eD
   rw [fR] at jK;exact kc D1 Hd sd oi ⟨_,eD⟩ ⟨⟨ys,eD,jK,lB⟩,none_of sc oi⟩
 ·intro D rs H1 nD s1 inj hA eD
  refine hR _ _ ?_;have gU:∀i,i<n→H (rs i)=none:=fun i hi=>(hA i hi).1.2;have row:∀i,i<n→∃f:Nat→V,H1 (rs i)=some (.lst ((List.range n).map f))∧∀j,j<n→aV 1000 H1 q (f j) 0 1:=fun i hi=>by
   obtain ⟨ys,h1,h2,h3⟩:=(hA i hi).1.1;refine ⟨fun j=>ys.getD j .aI,?_,fun j hj=>?_⟩
   ·rw [h1]
    congr 2
    refine fK (by simp [h2]) fun j g1 g2=>?_
    rw [fh,gw,getD_at g1]
   ·have dr:j<ys.length:=by lia
    dsimp only;rw [getD_at dr];exact h3 j _ (cY dr)
  obtain ⟨vf,hv⟩:∃vf:Nat→Nat→V,∀i,i<n→H1 (rs i)=some (.lst ((List.range n).map (vf i)))∧∀j,j<n→aV 1000 H1 q (vf i j) 0 1:=⟨fun i=>if h:i<n then (row i h).choose else fun _=>.aI,fun i hi=>by dsimp only;rw [fL hi];exact (row i hi).choose_spec⟩
  have W1:WTab H1 D n rs vf:=⟨eD,inj,fun i hi=>(hA i hi).2,fun i hi=>(hv i hi).1⟩;have F1:k_ H1 q n vf:=fun i j hi hj=>⟨0,1,(hv i hi).2 j hj,fun _=>⟨by decide,by decide⟩⟩
  clear hA row hv eD inj;have DT:=tc.ne nD;have rT:∀i,i<n→rs i≠Tp:=fun i hi=>tc.ne (gU i hi);have o1:bJ Tp H H1:=bJ.of s1;have t1:=tc.mono s1;have step:∀{Ha Hb:Hp} {vf:Nat→Nat→V} {i j:Nat} {v:V} {x d:Int},i<n→j<n→bJ Tp H Ha→WTab Ha D n rs vf→k_ Ha q n vf→b_ Ha Tp→bJ Tp Ha Hb→b_ Hb Tp→aV 1000 Hb q v x d→mj q x d→bJ Tp H (upd Hb (rs i) (.lst (((List.range n).map (vf i)).set j v)))∧b_ (upd Hb (rs i) (.lst (((List.range n).map (vf i)).set j v))) Tp∧WTab (upd Hb (rs i) (.lst (((List.range n).map (vf i)).set j v))) D n rs (ki vf i j v)∧k_ (upd Hb (rs i) (.lst (((List.range n).map (vf i)).set j v))) q n (ki vf i j v):=fun{Ha Hb vf i j v x d} hi hj oa Wa Fa ta ob tb nu sm=>by
   have Wb:WTab Hb D n rs vf:=Wa.bG fun b o hb e=>ob b o (by rcases hb with rfl | ⟨k,hk,rfl⟩;exact DT;exact rT k hk) e
   refine ⟨fun b o ne e=>?_,?_,Wb.put v hi,fun i' j' c_ dr=>?_⟩
   ·rw [aJ (fun z=>by rw [z,gU i hi] at e;cases e)]
    exact ob b o ne (oa b o ne e)
   ·obtain ⟨x,ex⟩:=tb
    exact ⟨x,by rw [aJ (Ne.symm (rT i hi))];exact ex⟩
   ·have up:∀{v:V} {x d:Int},aV 1000 Hb q v x d→aV 1000 (upd Hb (rs i) (.lst (((List.range n).map (vf i)).set j v))) q v x d:=fun{v x d} h=>h.bG (Wb.at' i hi) fun b o ne e=>by rw [aJ ne];exact e
    unfold ki
    split
    ·exact ⟨x,d,nu.bG (Wb.at' i hi) fun b o ne e=>by rw [aJ ne];exact e,sm⟩
    ·obtain ⟨x',d',h1,h2⟩:=Fa i' j' c_ dr
     exact ⟨x',d',(h1.y7 ta ob).bG (Wb.at' i hi) fun b o ne e=>by rw [aJ ne];exact e,h2⟩
  have bG:∀{Ha Hb:Hp} {vf:Nat→Nat→V},WTab Ha D n rs vf→k_ Ha q n vf→b_ Ha Tp→bJ Tp Ha Hb→WTab Hb D n rs vf∧k_ Hb q n vf:=fun{Ha Hb vf} Wa Fa ta ob=>⟨Wa.bG fun b o hb e=>ob b o (by rcases hb with rfl | ⟨k,hk,rfl⟩;exact DT;exact rT k hk) e,fun i j hi hj=>by obtain ⟨x',d',h1,h2⟩:=Fa i j hi hj;exact ⟨x',d',h1.y7 ta ob,h2⟩⟩
  refine aw fun _ hR=>⟨_,rfl,(n:Int),rfl,by lia,by lia,?_⟩
  rw [df];refine gB (fun k σ Hc=>∃(vf:Nat→Nat→V) (v5 v6 v7:Option V),σ=[some (.ref td),some (.ref Tp),some (.int (n:Int)),some (.ref lk),some (.ref D),v5,v6,v7]∧bJ Tp H Hc∧b_ Hc Tp∧WTab Hc D n rs vf∧k_ Hc q n vf) ⟨vf,_,_,_,rfl,o1,t1,W1,F1⟩ ?_ ?_
  ·clear W1 F1 o1 t1
   rintro k σ Hc hk ⟨vf,v5,v6,v7,rfl,oc,eM,Wc,Fc⟩;dsimp only [bR];rw [eU];refine aw fun _ hR=>a8 ⟨_,rfl,_,rfl,td,Tp,q,rfl,tw.off oc tc,hq,eM,fun v x d H2 o2 t2 nu sm=>?_⟩;obtain ⟨W2,F2⟩:=bG Wc Fc eM o2;obtain ⟨o3,t3,W3,F3⟩:=step hk hk oc Wc Fc eM o2 t2 nu sm;refine ⟨_,rfl,_,rfl,D,_,_,_,rfl,rfl,.of W2.lst,bD hk,_,rfl,rs k,_,_,k,rfl,rfl,W2.at' k hk,by rw [aX,cN];exact ke hk,hR _ _ ?_⟩
   generalize upd H2 (rs k) (.lst (((List.range n).map (vf k)).set k v))=H3 at o3 t3 W3 F3 ⊢;generalize ki vf k k v=vf3 at W3 F3;clear W2 F2 o2 t2 nu;obtain ⟨x3,d3,h3,_⟩:=F3 k k hk hk;refine ⟨_,rfl,_,rfl,D,_,_,_,rfl,rfl,.of W3.lst,bD hk,_,rfl,rs k,_,_,_,rfl,rfl,.of (W3.at' k hk),bD hk,_,rfl,td,q,rfl,tw.off o3 tc,hq,fun v0 H4 s4 h0=>EX (h3.mono s4) h0 ⟨_,rfl,bS (fun hb=>?_) (fun hb=>?_)⟩⟩
   ·refine ⟨_,rfl,Tp,3,rfl,t3.mono s4,by decide,by decide,fun g H5 g3 o5 t5=>⟨_,_,rfl,rfl,_,rfl,bS (fun hb=>?_) (fun hb=>?_)⟩⟩
    ·have zP:=(bJ.of s4:bJ Tp H3 H4).trans o5
     refine a8 ⟨_,rfl,td,q,1,1,1000,rfl,tw.off (o3.trans zP) tc,hq,uP hq,by decide,by decide,by decide +kernel,fun v' H6 s6 w6=>?_⟩
     obtain ⟨x6,d6,n6,Zm⟩:=VP hq w6;have OE:=zP.trans (bJ.of s6);obtain ⟨W6,F6⟩:=bG W3 F3 t3 OE;obtain ⟨o7,t7,W7,F7⟩:=step hk hk o3 W3 F3 t3 OE (t5.mono s6) n6 Zm;exact ⟨_,rfl,_,rfl,D,_,_,_,rfl,rfl,.of W6.lst,bD hk,_,rfl,rs k,_,_,k,rfl,rfl,W6.at' k hk,by rw [aX,cN];exact ke hk,⟨_,_,_,_,rfl,o7,t7,W7,F7⟩⟩
    ·have zP:=(bJ.of s4:bJ Tp H3 H4).trans o5
     obtain ⟨W6,F6⟩:=bG W3 F3 t3 zP;exact ⟨_,_,_,_,rfl,o3.trans zP,t5,W6,F6⟩
   ·obtain ⟨W6,F6⟩:=bG W3 F3 t3 (bJ.of s4)
    exact ⟨_,_,_,_,rfl,o3.trans (bJ.of s4),t3.mono s4,W6,F6⟩
  ·rintro σ Hc ⟨vf,v5,v6,v7,rfl,oc,eM,Wc,Fc⟩
   refine hR _ _ ?_;refine aw fun _ hR=>⟨_,rfl,lk,rfl,⟨_,.of (oc _ _ lT pQ)⟩,?_⟩;refine jg (K:=K) (a:=lk) (xs:=us) (fun k σ Hc=>∃(vf:Nat→Nat→V) (v5 v6 v7:Option V),σ=[some (.ref td),some (.ref Tp),some (.int (n:Int)),some (.ref lk),some (.ref D),v5,v6,v7]∧bJ Tp H Hc∧b_ Hc Tp∧WTab Hc D n rs vf∧k_ Hc q n vf) ⟨vf,_,_,_,rfl,oc,eM,Wc,Fc⟩ (fun k σ Hc _ ⟨_,_,_,_,_,oc,_⟩=>.of (oc _ _ lT pQ)) ?_ ?_
   ·clear Wc Fc oc eM
    rintro k x σ Hc hx ⟨vf,v5,v6,v7,rfl,oc,eM,Wc,Fc⟩;have hk:k<L.length:=by rw [←hL.1];exact (bZ.mp hx).1
    obtain ⟨b,rfl,eb⟩:=(hL.y7 tc oc).2 k x L[k] hx (cY hk);obtain ⟨z1,z2,z3⟩:=cq L[k] (fj hk);obtain ⟨i,ei⟩:=p8 z1;obtain ⟨j,ej⟩:=p8 (show 0≤(L[k]).2 by lia)
    rw [ei,ej] at eb;have hi:i<n:=by lia
    have hj:j<n:=by lia
    dsimp only [bR];refine ⟨b,_,rfl,.of eb,rfl,_,_,rfl,_,_,rfl,rfl,?_⟩;refine aw fun _ hR=>a8 ⟨_,rfl,Tp,5,rfl,eM,by decide,by decide,fun wy H1 _ o1 t1=>hR _ _ ?_⟩
    obtain ⟨W1,F1⟩:=bG Wc Fc eM o1;have G2:=oc.trans o1;clear Wc Fc;refine aw fun R hR=>?_;have next:∀(vf:Nat→Nat→V) (Hd:Hp),bJ Tp H Hd→b_ Hd Tp→WTab Hd D n rs vf→k_ Hd q n vf→R [some (.ref td),some (.ref Tp),some (.int (n:Int)),some (.ref lk),some (.ref D),some (.int (i:Int)),some (.int (j:Int)),some (.int (wy:Int))] Hd:=fun vf Hd od Dy Wd Fd=>hR _ _ (by refine ⟨_,rfl,rfl,_,rfl,bS (fun hb=>?_) (fun hb=>⟨_,_,_,_,rfl,od,Dy,Wd,Fd⟩)⟩;refine a8 ⟨_,rfl,_,rfl,td,Tp,q,rfl,tw.off od tc,hq,Dy,fun v x d H2 o2 t2 nu sm=>?_⟩;obtain ⟨W2,F2⟩:=bG Wd Fd Dy o2;obtain ⟨o3,t3,W3,F3⟩:=step hj hi od Wd Fd Dy o2 t2 nu sm;exact ⟨_,rfl,_,rfl,D,_,_,_,rfl,rfl,.of W2.lst,bD hj,_,rfl,rs j,_,_,i,rfl,rfl,W2.at' j hj,by rw [aX,cN];exact ke hi,⟨_,_,_,_,rfl,o3,t3,W3,F3⟩⟩)
    refine ⟨_,rfl,rfl,_,rfl,bS (fun hb=>?_) (fun hb=>next vf H1 G2 t1 W1 F1)⟩
    refine a8 ⟨_,rfl,_,rfl,td,Tp,q,rfl,tw.off G2 tc,hq,t1,fun v x d H2 o2 t2 nu sm=>?_⟩;obtain ⟨W2,F2⟩:=bG W1 F1 t1 o2;obtain ⟨o3,t3,W3,F3⟩:=step hi hj G2 W1 F1 t1 o2 t2 nu sm;exact ⟨_,rfl,_,rfl,D,_,_,_,rfl,rfl,.of W2.lst,bD hi,_,rfl,rs i,_,_,j,rfl,rfl,W2.at' i hi,by rw [aX,cN];exact ke hj,next _ _ o3 t3 W3 F3⟩
   ·rintro σ Hc ⟨vf,v5,v6,v7,rfl,oc,eM,Wc,Fc⟩
    exact hR _ _ ⟨_,rfl,kk D rs vf Hc oc eM nD gU Wc Fc⟩
theorem Zn:aZ ["script","start","tape","told","size","order","links","table"] ["script","start"] (aG CH):=bw
theorem Zo(T:Txt K mg t):aS P w K mg base bH 7 t.sM t.wg ["script","start"] (V7 K):=by
 have S:=Zn;refine T.xx.bQ S (fun _ _ _ s H vs _ _ hr h=>?_);obtain ⟨sc,ns,k,rfl,hS,ag3,kk⟩:=h
 refine ⟨_,(ak (putL 2 S.nd (aB (Dn T) hr T.zg T.n5.kp T.zf aD (aa (pv 0) (aa (pv 1) ae))))
  (ak (putL 3 S.nd (aB (YG T) hr T.M0 T.xj.kp T.MZ aD (aa (pv 2) ae)))
  (ak (putL 4 S.nd (aA fo ag (aB (lC T) hr T.jG T.gT.kp T.jF aD (aa (pv 2) (aa ag ae)))))
  (ak (putL 5 S.nd (aB (YT T) hr T.M7 T.xn.kp T.M6 aD (aa (pv 2) (aa (pv 4) ae))))
  (ak (putL 6 S.nd (aB (YL T) hr T.M5 T.xl.kp T.M4 aD (aa (aB (Dn T) hr T.zg T.n5.kp T.zf aD (aa (pv 0) (aa (aA fo (pv 1) ag) ae))) (aa (pv 4) ae))))
  (ak (putL 7 S.nd (aB (Zl T) hr T.M3 T.xk.kp T.M1 aD (aa (pv 3) (aa (aB (Dn T) hr T.zg T.n5.kp T.zf aD (aa (pv 0) (aa (aA fo (pv 1) ag) ae))) (aa (pv 4) (aa (pv 6) ae))))))
  (ao (aE (fU (aa (pv 3) (aa (pv 7) (aa (pv 5) (aa (aB (YI T) hr T.M9 T.xo.kp T.M8 aD (aa (pv 3) (aa (aB (Dn T) hr T.zg T.n5.kp T.zf aD (aa (pv 0) (aa (aA fo (pv 1) ag) ae))) (aa (pv 4) ae)))) ae))))))))))))),?_⟩
 have join:∀{Ha Hb Hc:Hp} {T:Addr},af Ha Hb→Ha T=none→bJ T Hb Hc→af Ha Hc:=fun{Ha Hb Hc T} s nT o b u e=>o b u (fun z=>by rw [z,nT] at e;cases e) (s _ _ e)
 refine aw fun _ hR=>a8 ⟨_,rfl,_,rfl,sc,ns,k,rfl,hS,by lia,fun T1 H1 s1 OF Zp=>hR _ _ ?_⟩
 refine aw fun _ hR=>a8 ⟨_,rfl,T1,rfl,Zp,fun td q H2 o2 OG tw hq=>hR _ _ ?_⟩;refine aw fun _ hR=>a8 ⟨_,rfl,T1,6,rfl,OG,by decide,by decide,fun d H3 d6 o3 Zq=>⟨_,_,rfl,rfl,hR _ _ ?_⟩⟩
 obtain ⟨n,en⟩:∃n,n=1+d:=⟨_,rfl⟩;have eI:(1:Int)+(d:Int)=(n:Int):=by lia
 dsimp only [L2.start,List.set_cons_zero,List.set_cons_succ];rw [eI];refine aw fun _ hR=>a8 ⟨_,rfl,_,rfl,T1,n,rfl,Zq,by lia,fun od o H4 o4 tc4 Fo Zr ho=>hR _ _ ?_⟩
 have S4:af H H4:=join s1 OF (o2.trans (o3.trans o4));have tw4:dw H4 td q:=tw.off (o3.trans o4) OG;have Zs:H od=none:=none_of (join s1 OF (o2.trans o3)) Fo;refine aw fun _ hR=>a8 ⟨_,rfl,_,rfl,_,_,rfl,rfl,sc,ns,k+1,rfl,S4.seq hS,by lia,fun T2 H5 s5 Zt Zu=>⟨_,rfl,T2,n,rfl,Zu,by lia,fun lk us L H6 o6 tc6 Zv pQ hL cq hlen=>hR _ _ ?_⟩⟩
 have zQ:af H4 H6:=join s5 Zt o6;have S6:=S4.trans zQ;refine aw fun _ hR=>a8 ⟨_,rfl,_,rfl,_,rfl,_,_,rfl,rfl,sc,ns,k+2,rfl,S6.seq hS,by lia,fun T3 H7 s7 OH Zw=>?_⟩
 refine ⟨_,rfl,_,rfl,td,T3,lk,q,n,us,L,rfl,(tw4.mono zQ).mono s7,hq,Zw,by lia,(fun z=>by rw [z,OH] at pQ;cases pQ),s7 _ _ pQ,hL.mono s7,cq,fun tab rs vf H8 o8 tc8 Zx gU Wt Ft=>hR _ _ ?_⟩
 have Dz:af H6 H8:=join s7 OH o8;have S8:=S6.trans Dz;refine gP ⟨_,rfl,_,rfl,_,rfl,_,rfl,_,rfl,_,rfl,_,_,rfl,rfl,sc,ns,k+3,rfl,S8.seq hS,by lia,fun T4 H9 s9 Zy Zz=>?_⟩
 refine ⟨_,rfl,td,T4,q,n,rfl,((tw4.mono zQ).mono Dz).mono s9,hq,Zz,by lia,fun am ps mE ZA ag7 ZC rg zN ZD=>?_⟩
 have OI:af H8 mE:=join s9 Zy ZA;have ZE:=S8.trans OI;refine ⟨by show 4≤sizeLine;decide,fun tp gs=>?_⟩
 have oj:af mE (upd mE tp (.tup [.ref td,.ref tab,.ref od,.ref am])):=bf gs;have iF:upd mE tp (.tup [.ref td,.ref tab,.ref od,.ref am]) tp=some (.tup [.ref td,.ref tab,.ref od,.ref am]):=ay;generalize upd mE tp (.tup [.ref td,.ref tab,.ref od,.ref am])=mF at oj iF ⊢;obtain ⟨vs,ZF,kz,om⟩:=id rg;have DA:=OI.trans oj;have ra:gH mF am n (fun i=>vs.getD i .aI):=by
  unfold gH;rw [oj _ _ ZF]
  congr 2
  refine fK (by simp;lia) fun j g1 g2=>?_
  rw [fh,gw,getD_at g1]
 have na:∀i,i<n→∃x m,aV 1000 mF q ((fun i=>vs.getD i V.aI) i) x m∧mj q x m:=fun i hi=>by
  have g1:i<vs.length:=by lia
  have g2:i<ps.length:=by lia
  refine ⟨ps[i].1,ps[i].2,?_,ZD _ (fj g2)⟩;dsimp only;rw [getD_at g1];exact (om i _ _ (cY g1) (cY g2)).mono oj
 have ZG:k_ mF q n vf:=fun i j hi hj=>by obtain ⟨x,m,h1,h2⟩:=Ft i j hi hj;exact ⟨x,m,h1.mono DA,h2⟩
 obtain ⟨f,f1,f2,f3⟩:=V8 ZG na;exact kk tp td tab od am q n o rs vf _ f mF (ZE.trans oj) iF (((tw4.mono zQ).mono Dz).mono DA) hq (by lia) (by lia) ⟨Wt.mono DA,DA _ _ (Dz _ _ (zQ _ _ Zr)),ho,ra,f1,f2,f3⟩ (none_of (S6.trans s7) Zx) Zs (none_of (S8.trans s9) ZC) fun i hi=>none_of (S6.trans s7) (gU i hi)
theorem ZH:aZ ["world","row","turns","i","told"] ["world","row","turns","i"] (aG BZ):=bw
theorem ZI(T:Txt K mg t):aS P w K mg base bH 5 t.rp t.vn ["world","row","turns","i"] (Wv t.bI):=by
 have S:=ZH;have pJ:=C8 (P:=P) (w:=w) (base:=base) T;obtain ⟨dv,pK,eR⟩:=T.zm;refine T.wV.bQ S (fun _ _ _ _ H vs _ _ hr h=>?_);obtain ⟨z,w',tn,q,X,n,i,o,wv,Tw,U,rfl,hw,hq,iE,hi,ho,ew,et,X1,bd,tQ,G3,G4,kk⟩:=h;have nv:=Bi hq;obtain ⟨dz,hz⟩:=id hw
 refine ⟨_,(ak (Wh (i0:=4) (N:=["j","number","turns","i","world"]) (ρ:=(fun σ=>[σ[2]?.join,σ[3]?.join,σ[0]?.join])) (Bb [2,3,0] rfl) rfl S.nd rfl (Or.inl rfl) (uK rfl T.tH (aa (pv 1) ae)) (fun _ _ _=>.nil) (fun _ _ _=>(IS (aY lV (aj (iT (K:=K)) (pv 2) (pv 0)) (aj (iT (K:=K)) (pv 2) (pv 3))) (pv 1) (oN (pv 4) T.fE T.xD pJ (hr.mono (by decide)) eR pK m9 (aa ag ae)))))
  (ak (@ig _ _ _ _ _ _ (oN (pv 0) T.fE T.xD pJ (hr.mono (by decide)) eR pK m9 (aa ag ae)) (jf (pv 4) (pv 3) set_list) (by rfl) (by rfl) (by rfl))
  (ao (aE (pv 4))))),?_⟩
 refine aw fun _ hR=>a8 (Bk (Z:=fun zs _=>zs=(((List.range ((List.range n).map wv).length).zip ((List.range n).map wv)).map fun p=>(V.int (p.1:Int),p.2))) (fun R h=>⟨_,rfl,w',rfl,⟨_,.of ew⟩,h _ _ _ (af.refl _) (Bw (.of ew)) (by rw [pB];exact cB (by lia)) rfl⟩) (fun _ j y Hx=>j≠i→aH X Hx q y (Tw j) (U j)) (fun D j y Ha Hb ys h e f ne=>(h ne).bG e f) ?_ ?_)
 ·rintro zs H1 rfl s1 D j x y tR Hc R sc _ kc
  obtain ⟨hj,rfl,rfl⟩:=BG tR;have s2:=s1.trans sc;have zR:=s2 _ _ et;have pR:=s2 _ _ hz;refine ⟨_,rfl,_,rfl,tn,_,_,_,rfl,rfl,.of zR,bD hj,_,rfl,_,rfl,tn,_,_,_,rfl,rfl,.of zR,bD hi,_,_,rfl,rfl,_,rfl,bS (fun hb=>?_) (fun hb=>?_)⟩
  ·have hb:=dN hb
   exact ⟨_,rfl,kc _ Hc (af.refl _) fun _=>(tQ j hj (by lia)).mono s2⟩
  ·refine ⟨_,rfl,z,dz,_,rfl,pR,oR (by decide +kernel),z,q,0,1,rfl,⟨dz,pR⟩,hq,eK.of_lt (by decide) (by decide),fun h=>absurd h nv,fun _ v0 H5 s5 tL=>kc v0 H5 s5 fun ne=>?_⟩
   have h0:=yP (B:=1000) (by decide) tL hq (.inl rfl)
   have lt:o.idxOf i<o.idxOf j:=by have h1:¬((o.idxOf j:Nat):Int)<((o.idxOf i:Nat):Int):=fun z=>hb (cj z);have h2:=uR ho hj hi ne;lia
   rw [G3 j hj lt];exact uW h0 (by rw [gv,gv];exact ja q) (bd j hj).2.2 (cn _) (bd j hj).2.1
 ·rintro zs H1 rfl s1 D vs Hc nD sc kz om eD
  rw [pB] at kz;have s2:=s1.trans sc;refine hR _ _ ?_;have ev:vs=(List.range n).map fun j=>vs.getD j .aI:=by
   refine fK (by simp [kz]) fun j h1 h2=>?_
   rw [fh,gw,getD_at h1]
  have hv:∀j,j<n→j≠i→aH X Hc q (vs.getD j .aI) (Tw j) (U j):=fun j hj ne=>by
   have dr:j<vs.length:=by lia
   rw [getD_at dr];exact om j _ (cY dr) ne
  obtain ⟨lv,ZJ,hv⟩:∃lv:Nat→V,vs=(List.range n).map lv∧∀j,j<n→j≠i→aH X Hc q (lv j) (Tw j) (U j):=⟨fun j=>vs.getD j .aI,ev,hv⟩;rw [ZJ] at eD;have pR:=s2 _ _ hz;refine aw fun _ hR=>a8 ⟨_,rfl,z,dz,_,rfl,pR,oR (by decide +kernel),z,q,1,1,rfl,⟨dz,pR⟩,hq,eK.of_lt (by decide) (by decide),fun h=>absurd h nv,fun _ v1 H4 s4 tL=>?_⟩
  have h1:=yP (B:=1000) (by decide) tL hq (.inr rfl)
  have G5:=s4 _ _ eD;refine ⟨_,rfl,_,rfl,D,_,_,i,rfl,rfl,G5,by rw [aX,cN];exact ke hi,hR _ _ ?_⟩
  rw [map_set];refine ⟨_,rfl,kk D _ _ (gF (s2.trans s4) nD) nD ay fun j hj=>?_⟩
  split
  ·rename_i e
   subst e;rw [G4];refine aH.put ?_ G5;exact uW h1 (by rw [oC,gu,p6];exact ja q) (bd j hj).2.2 (bd j hj).2.1 (bd j hj).2.1
  ·rename_i ne
   exact ((hv j hj ne).mono s4).put G5
theorem ZK:aZ ["world","row","turns","i"] ["world","row","turns","i"] (aG B0):=bw
theorem ZL(T:Txt K mg t):aS P w K mg base bH 5 t.rq t.vo ["world","row","turns","i"] (Ww t.bI):=by
 have S:=ZK;have pJ:=C8 (P:=P) (w:=w) (base:=base) T;obtain ⟨dv,pK,eR⟩:=T.zm;refine T.wW.bQ S (fun _ _ _ _ H vs _ _ hr h=>?_);obtain ⟨z,w',tn,q,X,n,i,o,wv,Tw,U,rfl,hw,hq,iE,hi,ho,ew,et,X1,bd,G6,tQ,kk⟩:=h;have nv:=Bi hq;obtain ⟨dz,hz⟩:=id hw;refine ⟨_,(ao (aE (EU (N:=["j","number","turns","i","world"]) (ρ:=(fun σ=>[σ[2]?.join,σ[3]?.join,σ[0]?.join])) (Bb [2,3,0] rfl) rfl (uK rfl T.tH (aa (pv 1) ae)) (fun _ _ _=>.nil) (fun _ _ _=>(IS (aY lV (aj (iT (K:=K)) (pv 2) (pv 0)) (aj (iT (K:=K)) (pv 2) (pv 3))) (oN (pv 4) T.fE T.xD pJ (hr.mono (by decide)) eR pK m9 (aa ag ae)) (pv 1)))))),?_⟩
 refine gP (Bk (Z:=fun zs _=>zs=(((List.range ((List.range n).map wv).length).zip ((List.range n).map wv)).map fun p=>(V.int (p.1:Int),p.2))) (fun R h=>⟨_,rfl,w',rfl,⟨_,.of ew⟩,h _ _ _ (af.refl _) (Bw (.of ew)) (by rw [pB];exact cB (by lia)) rfl⟩) (fun _ j y Hx=>aH X Hx q y (Tw j) (U j)) (fun D j y Ha Hb ys h e f=>h.bG e f) ?_ ?_)
 ·rintro zs H1 rfl s1 D j x y tR Hc R sc _ kc
  obtain ⟨hj,rfl,rfl⟩:=BG tR;have s2:=s1.trans sc;have zR:=s2 _ _ et;have pR:=s2 _ _ hz;refine ⟨_,rfl,_,rfl,tn,_,_,_,rfl,rfl,.of zR,bD hj,_,rfl,_,rfl,tn,_,_,_,rfl,rfl,.of zR,bD hi,_,_,rfl,rfl,_,rfl,bS (fun hb=>?_) (fun hb=>?_)⟩
  ·have hb:=dN hb
   refine ⟨_,rfl,z,dz,_,rfl,pR,oR (by decide +kernel),z,q,0,1,rfl,⟨dz,pR⟩,hq,eK.of_lt (by decide) (by decide),fun h=>absurd h nv,fun _ v0 H5 s5 tL=>kc v0 H5 s5 ?_⟩
   have h0:=yP (B:=1000) (by decide) tL hq (.inl rfl)
   rw [tQ j hj (by lia)]
   exact uW h0 (by rw [gv,gv];exact ja q) (bd j hj).2.2 (cn _) (bd j hj).2.1
  ·have h1:¬((o.idxOf j:Nat):Int)<((o.idxOf i:Nat):Int):=fun z=>hb (cj z)
   exact ⟨_,rfl,kc _ Hc (af.refl _) ((G6 j hj (by lia)).mono s2)⟩
 ·rintro zs H1 rfl s1 D vs Hc nD sc kz om eD
  rw [pB] at kz;have ev:vs=(List.range n).map fun j=>vs.getD j .aI:=by
   refine fK (by simp [kz]) fun j h1 h2=>?_
   rw [fh,gw,getD_at h1]
  refine kk D (fun j=>vs.getD j .aI) Hc (s1.trans sc) nD (by unfold gH;rw [←ev];exact eD) fun j hj=>?_
  have dr:j<vs.length:=by lia
  rw [getD_at dr];exact om j _ (cY dr)
theorem ZM:aZ ["world","table","turns"] ["world","table","turns"] (aG B1):=bw
theorem ZN(T:Txt K mg t):aS P w K mg base bH 6 t.rz t.vp ["world","table","turns"] (Wx t.bI):=by
 have S:=ZM;refine T.wX.bQ S (fun _ _ _ _ H vs _ _ hr h=>?_);obtain ⟨z,a,tn,q,X,n,o,ra,vf,Tw,U,rfl,hw,hq,iE,ho,hT,et,X1,bd,tQ,G3,G4,kk⟩:=h;refine ⟨_,(ao (aE (EU (N:=["i","row","world","turns"]) (ρ:=(fun σ=>[σ[0]?.join,σ[2]?.join])) (Bb [0,2] rfl) rfl (uK rfl T.tH (aa (pv 1) ae)) (fun _ _ _=>.nil) (fun _ _ _=>(aB (ZI T) hr T.Mv T.wV.kp T.Mu aD (aa (pv 2) (aa (pv 1) (aa (pv 3) (aa (pv 0) ae))))))))),?_⟩;refine gP (Bk (Z:=fun zs _=>zs=(((List.range ((List.range n).map fun i=>V.ref (ra i)).length).zip ((List.range n).map fun i=>V.ref (ra i))).map fun p=>(V.int (p.1:Int),p.2))) (fun R h=>⟨_,rfl,a,rfl,⟨_,.of hT.lst⟩,h _ _ _ (af.refl _) (Bw (.of hT.lst)) (by rw [pB];exact cB (by lia)) rfl⟩) (fun D i y Hx=>∃(r:Addr) (lv:Nat→V),y=.ref r∧r≠D∧H r=none∧gH Hx r n lv∧∀j,j<n→aH X Hx q (lv j) (Tw i j) (U i j)) (fun D j y Ha Hb ys ⟨r,lv,e1,e2,e3,e4,e5⟩ e f=>⟨r,lv,e1,e2,e3,f r _ e2 e4,fun j hj=>(e5 j hj).bG e f⟩) ?_ ?_)
 ·rintro zs H1 rfl s1 D i x y tR Hc R sc ⟨ys,G7⟩ kc
  obtain ⟨hi,rfl,rfl⟩:=BG tR;have s2:=s1.trans sc;refine ⟨_,rfl,_,rfl,_,rfl,_,rfl,z,ra i,tn,q,X,n,i,o,vf i,Tw i,U i,rfl,hw.mono s2,hq,iE,hi,ho,s2 _ _ (hT.at' i hi),s2 _ _ et,X1,fun j hj=>bd i j hi hj,fun j hj h=>(tQ i j hi hj h).mono s2,fun j hj h=>G3 i j hi hj h,G4 i hi,fun r lv H3 s3 nr er ew=>kc (.ref r) H3 s3 ⟨r,lv,rfl,(fun zz=>by rw [zz,G7] at nr;cases nr),none_of s2 nr,er,ew⟩⟩
 ·rintro zs H1 rfl s1 D vs Hc nD sc kz om eD
  rw [pB] at kz;have row:∀i,i<n→∃(r:Addr) (lv:Nat→V),vs.getD i .aI=.ref r∧H r=none∧gH Hc r n lv∧∀j,j<n→aH X Hc q (lv j) (Tw i j) (U i j):=fun i hi=>by
   have c_:i<vs.length:=by lia
   obtain ⟨r,lv,e1,e2,e3,e4,e5⟩:=om i _ (cY c_);exact ⟨r,lv,by rw [getD_at c_,e1],e3,e4,e5⟩
  refine kk D (fun i=>if h:i<n then (row i h).choose else 0) (fun i=>if h:i<n then (row i h).choose_spec.choose else fun _=>.aI) Hc (s1.trans sc) nD (fun i hi=>?_) ⟨?_,fun i hi=>?_⟩ fun i j hi hj=>?_
  ·rw [fL hi]
   exact (row i hi).choose_spec.choose_spec.2.1
  ·rw [eD]
   congr 2
   refine fK (by simp [kz]) fun i h1 h2=>?_
   have hi:i<n:=by lia
   rw [fh,gw,fL hi,←(row i hi).choose_spec.choose_spec.1,getD_at h1]
  ·rw [fL hi,fL hi]
   exact (row i hi).choose_spec.choose_spec.2.2.1
  ·dsimp only
   rw [fL hi];exact (row i hi).choose_spec.choose_spec.2.2.2 j hj
theorem ZO:aZ ["world","table","turns"] ["world","table","turns"] (aG B2):=bw
theorem ZP(T:Txt K mg t):aS P w K mg base bH 6 t.rA t.vq ["world","table","turns"] (Wy t.bI):=by
 have S:=ZO;refine T.wY.bQ S (fun _ _ _ _ H vs _ _ hr h=>?_);obtain ⟨z,a,tn,q,X,n,o,ra,vf,Tw,U,rfl,hw,hq,iE,ho,hT,et,X1,bd,G6,tQ,kk⟩:=h;refine ⟨_,(ao (aE (EU (N:=["i","row","world","turns"]) (ρ:=(fun σ=>[σ[0]?.join,σ[2]?.join])) (Bb [0,2] rfl) rfl (uK rfl T.tH (aa (pv 1) ae)) (fun _ _ _=>.nil) (fun _ _ _=>(aB (ZL T) hr T.Mx T.wW.kp T.Mw aD (aa (pv 2) (aa (pv 1) (aa (pv 3) (aa (pv 0) ae))))))))),?_⟩;refine gP (Bk (Z:=fun zs _=>zs=(((List.range ((List.range n).map fun i=>V.ref (ra i)).length).zip ((List.range n).map fun i=>V.ref (ra i))).map fun p=>(V.int (p.1:Int),p.2))) (fun R h=>⟨_,rfl,a,rfl,⟨_,.of hT.lst⟩,h _ _ _ (af.refl _) (Bw (.of hT.lst)) (by rw [pB];exact cB (by lia)) rfl⟩) (fun D i y Hx=>∃(r:Addr) (lv:Nat→V),y=.ref r∧r≠D∧H r=none∧gH Hx r n lv∧∀j,j<n→aH X Hx q (lv j) (Tw i j) (U i j)) (fun D j y Ha Hb ys ⟨r,lv,e1,e2,e3,e4,e5⟩ e f=>⟨r,lv,e1,e2,e3,f r _ e2 e4,fun j hj=>(e5 j hj).bG e f⟩) ?_ ?_)
 ·rintro zs H1 rfl s1 D i x y tR Hc R sc ⟨ys,G7⟩ kc
  obtain ⟨hi,rfl,rfl⟩:=BG tR;have s2:=s1.trans sc;refine ⟨_,rfl,_,rfl,_,rfl,_,rfl,z,ra i,tn,q,X,n,i,o,vf i,Tw i,U i,rfl,hw.mono s2,hq,iE,hi,ho,s2 _ _ (hT.at' i hi),s2 _ _ et,X1,fun j hj=>bd i j hi hj,fun j hj h=>(G6 i j hi hj h).mono s2,fun j hj h=>tQ i j hi hj h,fun r lv H3 s3 nr er ew=>kc (.ref r) H3 s3 ⟨r,lv,rfl,(fun zz=>by rw [zz,G7] at nr;cases nr),none_of s2 nr,er,ew⟩⟩
 ·rintro zs H1 rfl s1 D vs Hc nD sc kz om eD
  rw [pB] at kz;have row:∀i,i<n→∃(r:Addr) (lv:Nat→V),vs.getD i .aI=.ref r∧H r=none∧gH Hc r n lv∧∀j,j<n→aH X Hc q (lv j) (Tw i j) (U i j):=fun i hi=>by
   have c_:i<vs.length:=by lia
   obtain ⟨r,lv,e1,e2,e3,e4,e5⟩:=om i _ (cY c_);exact ⟨r,lv,by rw [getD_at c_,e1],e3,e4,e5⟩
  refine kk D (fun i=>if h:i<n then (row i h).choose else 0) (fun i=>if h:i<n then (row i h).choose_spec.choose else fun _=>.aI) Hc (s1.trans sc) nD (fun i hi=>?_) ⟨?_,fun i hi=>?_⟩ fun i j hi hj=>?_
  ·rw [fL hi]
   exact (row i hi).choose_spec.choose_spec.2.1
  ·rw [eD]
   congr 2
   refine fK (by simp [kz]) fun i h1 h2=>?_
   have hi:i<n:=by lia
   rw [fh,gw,fL hi,←(row i hi).choose_spec.choose_spec.1,getD_at h1]
  ·rw [fL hi,fL hi]
   exact (row i hi).choose_spec.choose_spec.2.2.1
  ·dsimp only
   rw [fL hi];exact (row i hi).choose_spec.choose_spec.2.2.2 j hj
theorem ZQ:aZ ["world","table","order","told","turns"] ["world","table","order"] (aG B3):=bw
theorem OJ(T:Txt K mg t):aS P w K mg base bH 9 t.rB t.vt ["world","table","order"] (Wz t.bI):=by
 have S:=ZQ;refine T.tj.bQ S (fun _ _ _ _ H _ _ _ hr h=>?_);obtain ⟨z,a,d,q,B,X,n,ah,o,M,D,rfl,hw,hq,hT,N9,ln,n1,iE,wd,ed,ho,gj,DB,kS,kF⟩:=h
 refine ⟨_,(ak (putL 3 S.nd (aB (Yg T) hr T.Mt T.wU.kp T.Ms aD (aa (pv 0) (aa (pv 1) (aa (pv 2) ae)))))
  (ak (bK (aY Jk (aj aM (pv 3) ag) kI) (ao (aE kI)) bL)
  (ak (putL 4 S.nd (aB (NU T) hr T.Ga T.tf.kp T.F_ aD (aa (pv 2) ae)))
  (ao (aE (fU (aa (aB (ZN T) hr T.MA T.wX.kp T.Mz aD (aa (pv 0) (aa (aj aM (pv 3) ag) (aa (pv 4) ae)))) (aa (aB (ZP T) hr T.MC T.wY.kp T.MB aD (aa (pv 0) (aa (aj aM (pv 3) ag) (aa (pv 4) ae)))) ae)))))))),?_⟩
 refine aw fun _ hR=>a8 ⟨_,rfl,_,rfl,_,rfl,z,a,d,q,B,X,n,ah,o,M,D,rfl,hw,hq,hT,N9,ln,n1,iE,wd,ed,ho,gj,fun k hk gd dv tp wk ot H1 rs ls vf g s1 iF pk=>hR _ _ ?_,fun gd tp wk ot H1 rs ls vf g s1 iF pk=>hR _ _ ?_⟩
 ·refine aw fun _ hR=>⟨_,rfl,tp,_,_,_,rfl,rfl,.of iF,rfl,rfl,true,by simp,dQ ?_⟩
  exact kS k hk gd dv H1 s1
 ·clear hR
  have idx:∀{k},k<n→o.idxOf k<n:=fun{k} hk=>by have:=(gG ((dI ho).mpr hk)).1;have:=gg ho;lia
  have dz:∀j,j≤n→¬q∣bC M (cO o j):=fun j hj=>iW hq (mh gd hj);refine aw fun _ hR=>⟨_,rfl,tp,_,_,_,rfl,rfl,.of iF,rfl,rfl,false,by simp,bM (hR _ _ ?_)⟩
  refine aw fun _ hR=>a8 ⟨_,rfl,d,n,o,rfl,⟨s1 _ _ ed,ho⟩,by lia,fun tn H2 s2 ZR et=>hR _ _ ?_⟩
  have dq:=s1.trans s2;have OK:=s2 _ _ iF;have OL:=pk.tab.r.mono s2;have F2:dj X H2 q n vf (sT M D o n) (sU M D o n):=fun i j hi hj=>(pk.uV i j hi hj).mono s2;refine gP ⟨_,rfl,_,rfl,tp,_,_,_,rfl,rfl,.of OK,rfl,_,rfl,z,wk,tn,q,X,n,o,rs,vf,hE M D o,kj M D o,rfl,hw.mono dq,hq,iE,ho,OL,et,gj.X1,fun i j hi hj=>⟨(DB i j hi hj).1,(DB i j hi hj).2.1,eX hq (gj.dn i) (dz _ (by have:=idx hj;lia))⟩,fun i j hi hj h=>?_,fun i j hi hj h=>FW hq ho gd hi hj h,fun i hi=>LX hq ho hi,fun lo rl lf H3 s3 ZS ZT low wl=>?_⟩
  ·have:=F2 i j hi hj
   rwa [(LZ hq ho hi hj h).1,(LZ hq ho hi hj h).2] at this
  ·refine ⟨_,rfl,_,rfl,tp,_,_,_,rfl,rfl,.of (s3 _ _ OK),rfl,_,rfl,z,wk,tn,q,X,n,o,rs,vf,ko M o,mq M D o,rfl,hw.mono (dq.trans s3),hq,iE,ho,OL.mono s3,s3 _ _ et,gj.X1,fun i j hi hj=>⟨(DB i j hi hj).2.2.1,(DB i j hi hj).2.2.2,eX hq (gj.dn i) (dz _ (by have:=idx hi;lia))⟩,fun i j hi hj h=>?_,fun i j hi hj h=>FX ho hj h,fun up ru uf H4 s4 ZU ZV gq wu=>?_⟩
   ·have:=(F2 i j hi hj).mono s3
    rwa [(L0 ho hi h).1,(L0 ho hi h).2] at this
   ·refine ⟨by show 2≤sizeLine;decide,fun fd zA=>?_⟩
    have s5:af H4 (upd H4 fd (.tup [.ref lo,.ref up])):=bf zA;have jM:=dq.trans (s3.trans s4);exact kF gd fd lo up rl ru lf uf _ (jM.trans s5) ⟨ay,(low.mono s4).mono s5,gq.mono s5,fun i j hi hj=>((wl i j hi hj).mono s4).mono s5,fun i j hi hj=>(wu i j hi hj).mono s5,none_of jM zA,none_of dq ZS,none_of (dq.trans s3) ZU,fun i hi=>⟨none_of dq (ZT i hi),none_of (dq.trans s3) (ZV i hi)⟩⟩
theorem ZW:aZ ["told","found","size"] ["told","found","size"] (aG CI):=bw
theorem OM(T:Txt K mg t):aS P w K mg base bH 5 t.sN t.wj ["told","found","size"] WA:=by
 have S:=ZW;refine T.tG.bQ S (fun _ _ _ _ H _ _ _ hr h=>?_);obtain ⟨td,a,q,B,n,ra,vf,Tw,U,rfl,tw,hq,hT,hF,xG,k⟩:=h
 refine ⟨_,(ak (bK (PW.pt (pw_or (je (gN (b6 (kU (K:=K)) rfl T.kr boot_isinstance (aa (pv 1) (aa (kJ (v:=.ty "list") rfl T.jJ boot_list rfl) ae))))) (pw_or1 (aY iq (b6 eC rfl T.dY d8 (aa (pv 1) ae)) (pv 2))))) (ao (aE d9)) bL)
  (ao (aE (AJ Eu d9 (j8 (N:=["row","told","size"]) (ρ:=(fun σ=>[σ[0]?.join,σ[2]?.join])) (eV [0,2] rfl) rfl (d_ (pv 1)) (fun _ _ _=>.nil) (fun _ _ _=>(aB (YR T) hr T.Nn T.xw.kp T.Nm aD (aa (pv 1) (aa (pv 0) (aa (pv 2) ae)))))) rfl)))),?_⟩
 have fR:((List.range n).map fun i=>V.ref (ra i)).length=n:=by rw [aX,cN]
 refine aw fun _ hR=>⟨_,rfl,_,_,_,true,rfl,rfl,.of (.lst hT.lst),qD,true,rfl,bM ?_⟩;refine ⟨_,rfl,a,_,rfl,.inl (.of hT.lst),_,rfl,rfl,false,by rw [f_,cj (by lia)];rfl,bM (hR _ _ ?_)⟩
 refine gP ?_;dsimp only [m5,tC];refine (A_ (xs:=(List.range n).map fun i=>V.ref (ra i)) (fun R h=>⟨_,rfl,a,rfl,⟨_,.of hT.lst⟩,h _ _ (af.refl _) (j_ (.of hT.lst))⟩) (by rw [fR];exact cB (by lia)) (fun _ i y _=>y=.bl true) (fun _ _ _ _ _ _ h _ _=>h) ?_ ?_)
 ·intro D i v hx Hc R sc _ kc
  obtain ⟨hi,rfl⟩:=eZ hx;obtain ⟨fr,Bm⟩:=We (fun j hj=>hF i j hi hj);have lr:((List.range n).map fr).length=n:=by simp
  exact ⟨_,rfl,_,rfl,_,rfl,td,ra i,q,(List.range n).map fr,B,by rw [lr];rfl,tw.mono sc,hq,LO (sc _ _ (hT.at' i hi)) (fun j hj=>(Bm j hj).mono sc),by rw [lr];lia,fun H2 s2=>kc _ H2 s2 rfl⟩
 ·intro D ys Hc sc lB hP eD
  have yt:ys=List.replicate ys.length (.bl true):=List.eq_replicate_iff.mpr ⟨rfl,fun y hy=>by obtain ⟨i,hi⟩:=List.getElem?_of_mem hy;exact hP i y hi⟩
  refine ⟨D,ys,rfl,.inl (.of eD),rfl,?_,?_⟩;·rw [yt];simp [fN]
  ·rw [show jZ (.bl false) ys=false by rw [yt];simp [jZ];intro _;rfl]
   exact k Hc sc
theorem ZX:aZ ["told","one","other","size","columns","rows","line"] ["told","one","other"] (aG CJ):=bw
theorem ZY(T:Txt K mg t):aS P w K mg base bH 7 t.sO t.wm ["told","one","other"] WB:=by
 have S:=ZX;refine T.xy.bQ S (fun _ _ _ _ H _ _ _ hr h=>?_);obtain ⟨td,a,b,q,X,Y,n,ra,rb,lf,uf,lT,lU,uT,uU,Sw,R,rfl,tw,hq,hA,hB,iE,wl,wu,cp,kk⟩:=h
 refine ⟨_,(ak (A4 3 S.nd (b6 eC rfl T.dY d8 (aa (pv 1) ae)))
  (ak (Kb (i0:=4) (N:=["j","size","other"]) (ρ:=(fun σ=>[σ[3]?.join,σ[2]?.join])) ⟨rfl,rfl,(fun _=>rfl),(fun _=>rfl),by decide +kernel,(t6.mpr ⟨rfl,(t6.mpr ⟨rfl,(Ad _)⟩)⟩),J_ (by rfl),rfl,by decide +kernel,rfl,(fun σ j v h=>match j,h with | 0,h=>⟨3,_,rfl,rfl,join_some h,Or.inr (Or.inl rfl),.inl rfl,.inl rfl⟩ | 1,h=>⟨2,_,rfl,rfl,join_some h,Or.inr (Or.inl rfl),.inl rfl,.inl rfl⟩ | j+2,h=>by cases h),(fun _ _=>rfl)⟩ rfl S.nd rfl (Or.inl rfl) (eA rfl T.da (aa (pv 3) ae)) (fun _ _ _=>.nil) (fun _ _ _=>(j8 (N:=["i","other","j"]) (ρ:=(fun σ=>[σ[2]?.join,σ[0]?.join])) (eV [2,0] rfl) rfl (eA rfl T.da (aa (pv 1) ae)) (fun _ _ _=>.nil) (fun _ _ _=>(aj (iT (K:=K)) (aj (iT (K:=K)) (pv 1) (pv 0)) (pv 2))))))
  (ak (putL 5 S.nd (fV ae))
  (ak (cI cb rfl (d_ (pv 1)) (bP (i:=6) S.nd rfl (Or.inl rfl))
   (ao (gX (j4 ie mM mO iM (pv 5) (aa (aB (Zb T) hr T.Na T.xp.kp T.M_ aD (aa (pv 0) (aa (pv 4) (aa (pv 6) ae)))) ae)))))
  (ao (aE (pv 5))))))),?_⟩
 have fR:∀f:Nat→V,((List.range n).map f).length=n:=fun f=>by rw [aX,cN]
 refine aw fun _ hR=>a8 ⟨_,rfl,a,_,rfl,.inl (.of hA.lst),hR _ _ ?_⟩;rw [fR];refine aw fun _ hR=>a8 (jw (xs:=(List.range n).map fun i:Nat=>V.int (0+(i:Int))) (n:=n) (fR _) (fun R h=>⟨_,rfl,(n:Int),rfl,by lia,by lia,by rw [df];exact h _ _ (af.refl _) nN⟩) (cB (by lia)) (fun _ j y Hx=>Hx y=some (.lst ((List.range n).map fun i=>uf i j))∧H y=none) ?_ ?_ ?_)
 ·intro D i y Ha Hb ys ⟨h1,h2⟩ hy e f
  exact ⟨f y _ hy h1,h2⟩
 ·intro D j x hx Hc R sc _ kc
  obtain ⟨hj,rfl⟩:=eZ hx;refine Bg (xs:=(List.range n).map fun i:Nat=>V.int (0+(i:Int))) (fun R h=>⟨_,rfl,(n:Int),rfl,by lia,by lia,by rw [df];exact h _ _ (af.refl _) nN⟩) (by rw [fR];exact cB (by lia)) (fun _ i y _=>y=uf i j) (fun _ _ _ _ _ _ h _ _=>h) ?_ ?_
  ·intro D1 i x hx Hd R' sd _ kd
   obtain ⟨hi,rfl⟩:=eZ hx;have S2:=sc.trans sd;rw [eU,eU];exact ⟨_,rfl,_,rfl,b,_,_,_,rfl,rfl,.of (S2 _ _ hB.lst),bD hi,_,rfl,rb i,_,_,_,rfl,rfl,.of (S2 _ _ (hB.at' i hi)),bD hj,kd _ Hd (af.refl _) rfl⟩
  ·intro D1 ys Hd oi sd jK lB eD
   rw [fR] at jK;refine kc D1 Hd sd oi ⟨_,eD⟩ ⟨?_,none_of sc oi⟩;rw [eD]
   congr 2
   refine fK (by simp [jK]) fun i h1 h2=>?_
   rw [fh,gw];exact lB i _ (cY h1)
 ·intro cl rc H1 ncl s1 inj hC ZZ
  refine hR _ _ ?_;have Z0:cM H1 cl n n rc (fun j i=>uf i j):=⟨ZZ,fun j hj=>(hC j hj).1.1⟩;refine aw fun _ hR=>a8 ⟨cn _,fun D nD=>hR _ _ ?_⟩;have s2:af H1 (upd H1 D (.lst [])):=bf nD;have eD:upd H1 D (.lst []) D=some (.lst []):=ay;generalize upd H1 D (.lst [])=H2 at s2 eD ⊢;have dq:=s1.trans s2;have Z1:H D=none:=none_of s1 nD;refine aw fun _ hR=>⟨_,rfl,a,rfl,⟨_,.of (dq _ _ hA.lst)⟩,?_⟩;refine jg (K:=K) (a:=a) (xs:=(List.range n).map fun i=>V.ref (ra i)) (fun k σ Hc=>∃(rr:Nat→Addr) (pf:Nat→Nat→V) (v6:Option V),σ=[some (.ref td),some (.ref a),some (.ref b),some (.int (n:Int)),some (.ref cl),some (.ref D),v6]∧af H1 Hc∧Hc D=some (.lst ((List.range k).map fun i=>V.ref (rr i)))∧(∀i,i<k→gH Hc (rr i) n (pf i)∧rr i≠D∧∀j,j<n→aH X Hc q (pf i j) (Sw i j n) (R i j))) ⟨fun _=>0,fun _ _=>.aI,_,rfl,s2,eD,fun i hi=>by lia⟩ (fun k σ Hc _ ⟨_,_,_,_,sc,_⟩=>.of (sc _ _ (s1 _ _ hA.lst))) ?_ ?_
  ·rintro i x σ Hc hx ⟨rr,pf,v6,rfl,sc,ec,Fc⟩
   obtain ⟨hi,rfl⟩:=eZ hx;dsimp only [bR];have S2:=s1.trans sc;refine ⟨_,rfl,.inl ⟨rfl,_,.of ec⟩,_,rfl,_,rfl,_,rfl,td,cl,ra i,q,X,Y,n,n,rc,(fun j i=>uf i j),lf i,_,_,lT i,lU i,Sw i,R i,rfl,tw.mono S2,hq,Z0.mono sc,S2 _ _ (hA.at' i hi),by lia,by lia,(fun j k hj hk=>(wu k j hk hj).mono S2),(fun k hk=>(wl i k hi hk).mono S2),cp i hi,fun r wv H3 s3 nr er ew=>?_⟩
   have G8:=s3 _ _ ec;have rD:r≠D:=fun zz=>by rw [zz,ec] at nr;cases nr
   refine ⟨D,_,_,rfl,rfl,G8,by rw [aX,cN];exact cB (by lia),?_⟩
   refine ⟨fun j=>if j=i then r else rr j,fun j=>if j=i then wv else pf j,_,rfl,fun b u e=>?_,?_,fun j hj=>?_⟩
   ·rw [aJ (fun zz=>by rw [zz,nD] at e;cases e)]
    exact s3 _ _ (sc b u e)
   ·rw [ay,lK,i9,Ap]
    dsimp only;rw [ar rfl]
    congr 3
    refine iG fun j hj=>?_;rw [au (by have:=e8.mp hj;lia)]
   ·dsimp only
    by_cases e:j=i
    ·subst e
     rw [ar rfl,ar rfl];exact ⟨by unfold gH;rw [aJ rD];exact er,rD,fun k hk=>(ew k hk).put G8⟩
    ·rw [au e,au e]
     obtain ⟨f1,f2,f3⟩:=Fc j (by lia)
     exact ⟨by unfold gH;rw [aJ f2];exact s3 _ _ f1,f2,fun k hk=>((f3 k hk).mono s3).put G8⟩
  ·rintro σ Hc ⟨rr,pf,v6,rfl,sc,ec,Fc⟩
   rw [fR] at ec Fc;exact hR _ _ ⟨_,rfl,kk D rr pf Hc (s1.trans sc) Z1 ⟨ec,fun i hi=>(Fc i hi).1⟩ fun i j hi hj=>(Fc i hi).2.2 j hj⟩
theorem Z2:aZ ["told","table","order","lower","upper","turns","i","j"] ["told","table","order","lower","upper"] (aG CK):=bw
theorem Z3(T:Txt K mg t):aS P w K mg base bH 8 t.sP t.wo ["told","table","order","lower","upper"] WD:=by
 have S:=Z2;refine T.xA.bQ S (fun _ _ _ _ H _ _ _ hr h=>?_);obtain ⟨td,tab,od,am,lo,up,q,X,n,o,rt,rl,ru,vf,lf,uf,av,f,rfl,tw,hq,n6,pc,hL,hU,wl,wu,iY,gd,kk⟩:=h;have hu:=hr.oM;have jL:=hr.units
 refine ⟨_,(ak (l7 (i0:=5) (N:=["k","order"]) (ρ:=(fun σ=>[σ[2]?.join])) (eV [2] rfl) rfl S.nd rfl (Or.inl rfl) (eA rfl T.da (aa (b6 eC rfl T.dY d8 (aa (pv 2) ae)) ae)) (fun _ _ _=>.nil) (fun _ _ _=>(WH (K:=K) ie PySem.F.slot_list_index PySem.F.type_list_index U1 (pv 1) (aa (pv 0) ae))))
  (ak (cI cb rfl (eA rfl T.da (aa (b6 eC rfl T.dY d8 (aa (pv 2) ae)) ae)) (bP (i:=6) S.nd rfl (Or.inl rfl))
   (ao (cI cb rfl (eA rfl T.da (aa (b6 eC rfl T.dY d8 (aa (pv 2) ae)) ae)) (bP (i:=7) S.nd rfl (Or.inl rfl))
   (ak (bK (PW.pt (pw_and (aY eB (pv 6) (pv 7)) (pw_and1 (aY (uE hu) (aj a9 (aj a9 (pv 3) (pv 6)) (pv 7)) (aB (pL T) hr T.n_ T.jH.kp T.n8 aD (aa (pv 0) (aa ag (aa ag ae)))))))) (ao (aE d9)) bL)
  (ak (bK (PW.pt (pw_and (aY oK (aj a9 (pv 5) (pv 7)) (aj a9 (pv 5) (pv 6))) (pw_and1 (aY (uE hu) (aj a9 (aj a9 (pv 3) (pv 6)) (pv 7)) (aB (mB T) hr T.lA T.iD.kp T.lz aD (aa (pv 0) ae)))))) (ao (aE d9)) bL)
  (ao (bK (PW.pt (pw_and (aY lV (aj a9 (pv 5) (pv 7)) (aj a9 (pv 5) (pv 6))) (pw_and1 (aY (uE hu) (aj a9 (aj a9 (pv 4) (pv 6)) (pv 7)) (aB (mB T) hr T.lA T.iD.kp T.lz aD (aa (pv 0) ae)))))) (ao (aE d9)) bL)))))))
  (ao (aE (lW (S1 (n:=2) jL) (aB (ZY T) hr T.Nt T.xy.kp T.Nr aD (aa (pv 0) (aa (pv 3) (aa (pv 4) ae)))) (pv 1)))))),?_⟩
 have zS:=gg pc.lh;have ho:=pc.lh;have ll:(cm o).length=n:=by unfold cm;rw [aX,zS]
 have ez:cm o=(o.map iN).map V.int:=by unfold cm;rw [ic];rfl
 refine aw fun _ hR=>a8 (Bg (xs:=(List.range n).map fun i:Nat=>V.int (0+(i:Int))) (fun R h=>⟨_,rfl,od,_,rfl,.inl (.of pc.ord),_,rfl,by rw [ll];lia,by rw [ll];lia,by rw [ll,df];exact h _ _ (af.refl _) nN⟩) (by simp;exact cB (by lia)) (fun _ j y _=>y=.int ((o.idxOf j:Nat):Int)) (fun _ _ _ _ _ _ h _ _=>h) ?_ ?_)
 ·intro D j x hx Hc R sc _ kc
  obtain ⟨hj,rfl⟩:=eZ hx;obtain ⟨g1,g2⟩:=WC ho hj;rw [eU];exact ⟨_,rfl,.inl ⟨rfl,_,.of (sc _ _ pc.ord)⟩,_,rfl,od,o.map iN,o.idxOf j,_,rfl,rfl,by rw [←ez];exact sc _ _ pc.ord,by rw [aX];lia,g1,g2,kc _ Hc (af.refl _) rfl⟩
 ·intro tn ys H1 ZR s1 jK lB G9
  refine hR _ _ ?_;have ey:ys=(List.range n).map fun j=>V.int ((o.idxOf j:Nat):Int):=by
   refine fK (by simpa using jK) fun j h1 h2=>?_
   rw [fh,gw];exact lB j _ (cY h1)
  rw [ey] at G9;refine aw fun _ hR=>⟨_,rfl,od,_,rfl,.inl (.of (s1 _ _ pc.ord)),_,rfl,by rw [ll];lia,by rw [ll];lia,?_⟩
  rw [ll,df];refine gB (fun i σ Hc=>∃(v6 v7:Option V),σ=[some (.ref td),some (.ref tab),some (.ref od),some (.ref lo),some (.ref up),some (.ref tn),v6,v7]∧af H1 Hc) ⟨_,_,rfl,af.refl _⟩ ?_ ?_
  ·rintro i σ Hc hi ⟨v6,v7,rfl,sc⟩
   dsimp only [bR];rw [eU];refine ⟨_,rfl,od,_,rfl,.inl (.of (sc _ _ (s1 _ _ pc.ord))),_,rfl,by rw [ll];lia,by rw [ll];lia,?_⟩
   rw [ll,df];refine gB (fun j σ Hd=>∃(v7:Option V),σ=[some (.ref td),some (.ref tab),some (.ref od),some (.ref lo),some (.ref up),some (.ref tn),some (.int (i:Int)),v7]∧af H1 Hd) ⟨_,rfl,sc⟩ ?_ ?_
   ·clear sc
    rintro j σ Hc hj ⟨v7,rfl,sc⟩;dsimp only [bR];rw [eU];have iI:∀{a b:Nat},((a:Nat):Int)=(b:Int)→a=b:=fun{a b} h=>by lia
    refine aw fun R1 Z4=>?_;have one:∀Hd,af H1 Hd→R1 [some (.ref td),some (.ref tab),some (.ref od),some (.ref lo),some (.ref up),some (.ref tn),some (.int (i:Int)),some (.int (j:Int))] Hd:=fun Hd sd=>Z4 _ _ (by
     refine aw fun R2 Z5=>?_;have two:∀He,af H1 He→R2 [some (.ref td),some (.ref tab),some (.ref od),some (.ref lo),some (.ref up),some (.ref tn),some (.int (i:Int)),some (.int (j:Int))] He:=fun He se=>Z5 _ _ (by
      have S3:=s1.trans se;have zT:=se _ _ G9;refine ⟨_,rfl,_,rfl,tn,_,_,_,rfl,rfl,.of zT,bD hj,_,rfl,_,rfl,tn,_,_,_,rfl,rfl,.of zT,bD hi,_,_,rfl,rfl,_,rfl,bS (fun hb=>?_) (fun hb=>bM ⟨_,rfl,se⟩)⟩;have lt:o.idxOf j<o.idxOf i:=by have:=dN hb;lia
      refine ⟨_,rfl,_,rfl,up,_,_,_,rfl,rfl,.of (S3 _ _ hU.lst),bD hi,_,rfl,ru i,_,_,_,rfl,rfl,.of (S3 _ _ (hU.at' i hi)),bD hj,_,rfl,td,q,rfl,tw.mono S3,hq,fun v0 H6 s6 h0=>?_⟩;obtain ⟨x,m,hx,x0⟩:=(k9 hq ((wu i j hi hj).mono (S3.trans s6))).mp (by rw [FX ho hj lt];exact ja q)
      exact oZ hx h0 ⟨false,by simp [x0],bM ⟨_,rfl,se.trans s6⟩⟩)
     have S3:=s1.trans sd;have zT:=sd _ _ G9;refine ⟨_,rfl,_,rfl,tn,_,_,_,rfl,rfl,.of zT,bD hj,_,rfl,_,rfl,tn,_,_,_,rfl,rfl,.of zT,bD hi,_,_,rfl,rfl,_,rfl,bS (fun hb=>?_) (fun hb=>bM (two Hd sd))⟩;have lt:o.idxOf i<o.idxOf j:=by have:=dN hb;lia
     refine ⟨_,rfl,_,rfl,lo,_,_,_,rfl,rfl,.of (S3 _ _ hL.lst),bD hi,_,rfl,rl i,_,_,_,rfl,rfl,.of (S3 _ _ (hL.at' i hi)),bD hj,_,rfl,td,q,rfl,tw.mono S3,hq,fun v0 H6 s6 h0=>?_⟩;obtain ⟨x,m,hx,x0⟩:=(k9 hq ((wl i j hi hj).mono (S3.trans s6))).mp (by rw [FW hq ho gd hi hj lt];exact ja q)
     exact oZ hx h0 ⟨false,by simp [x0],bM (two H6 (sd.trans s6))⟩)
    have S3:=s1.trans sc;refine ⟨_,rfl,_,rfl,rfl,_,rfl,bS (fun hb=>?_) (fun hb=>bM (one Hc sc))⟩;have e:i=j:=by rw [f_] at hb;have:=dN hb;lia
    subst e;refine ⟨_,rfl,_,rfl,lo,_,_,_,rfl,rfl,.of (S3 _ _ hL.lst),bD hi,_,rfl,rl i,_,_,_,rfl,rfl,.of (S3 _ _ (hL.at' i hi)),bD hi,_,rfl,td,q,1,1,1000,rfl,tw.mono S3,hq,uP hq,by decide,by decide,by decide +kernel,fun v1 H6 s6 w6=>?_⟩
    obtain ⟨x1,m1,u1,u2⟩:=FR hq ((wl i i hi hi).mono (S3.trans s6)) w6 (by rw [LX hq ho hi,gu,oC];exact Cg.refl _)
    exact V_ u1 u2 ⟨false,rfl,bM (one H6 (sc.trans s6))⟩
   ·rintro σ Hd ⟨v7,rfl,sd⟩
    exact ⟨_,_,rfl,sd⟩
  ·rintro σ Hc ⟨v6,v7,rfl,sc⟩
   refine hR _ _ ?_;have S2:=s1.trans sc;have cx:X≤10 ^ 140:=aQ iY (by decide +kernel)
   have b1:1≤997:=by decide
   have hM:=uZ pc.sm;have cp:=fun i=>Ws (D:=dJ q) hq ho gd n6 hM qP (BC hq) (fun z=>WE pc.sm z) (fun z=>WG z) i;have ON:∀{v:V} {t u:Int},aH X H q v t u→aH (10 ^ 140) Hc q v t u:=fun{v t u} h=>by obtain ⟨x,m,a,b⟩:=h.mono S2;exact ⟨x,m,a.up cx,b⟩
   refine gP ⟨_,rfl,_,rfl,_,rfl,td,lo,up,q,10 ^ 140,10 ^ 140,n,rl,ru,lf,uf,_,_,_,_,_,_,rfl,tw.mono S2,hq,hL.mono S2,hU.mono S2,by lia,(fun i j hi hj=>ON (wl i j hi hj)),(fun i j hi hj=>ON (wu i j hi hj)),fun i _=>cp i,fun D rr pf H3 s3 nD hP wP=>?_⟩
   have S3:=S2.trans s3;refine ⟨_,rfl,D,tab,_,_,rfl,rfl,.of hP.lst,.of (S3 _ _ pc.tab.lst),by simp,fun i x y hx hy=>?_,kk H3 S3⟩
   obtain ⟨hi,rfl⟩:=eZ hx;obtain ⟨_,rfl⟩:=eZ hy;refine .inr ⟨_,_,_,_,rfl,rfl,.inl ⟨.of (hP.at' i hi),.of (S3 _ _ (pc.tab.at' i hi))⟩,by simp,fun j x y hx hy=>?_⟩
   obtain ⟨hj,rfl⟩:=eZ hx;obtain ⟨_,rfl⟩:=eZ hy;obtain ⟨x1,m1,u1,u2⟩:=FR hq (wP i j hi hj) ((pc.uV hq hi hj).mono S3) (by rw [Wl hq ho gd i hj];have c1:=za q (cW q n f i j*dP (cW q n f) o n);have c2:=za q (dJ q i*dP (cW q n f) o n);exact (c1.mulR _).trans ((Cg.of_eq (by grind)).trans (c2.symm.mulL _)))
   exact FT u1 u2
theorem Z6:aZ ["told","table","order","found","size","behind","i","j"] ["told","table","order","found"] (aG CL):=bw
theorem Z7(T:Txt K mg t):aS P w K mg base bH 9 t.sQ t.wq ["told","table","order","found"] WI:=by
 have S:=Z6;refine T.xB.bQ S (fun _ _ _ _ H _ _ _ hr h=>?_);obtain ⟨td,tab,od,am,v,q,n,o,rt,vf,av,f,H0,rfl,tw,hq,n1,n6,pc,out,kk⟩:=h;have hu:=hr.oM;have jL:=hr.units
 refine ⟨_,(ak (putL 4 S.nd (b6 eC rfl T.dY d8 (aa (pv 2) ae)))
  (ak (bK (aY oK (aB (Zj T) hr T.Nf T.xr.kp T.Nd aD (aa (pv 0) (aa (pv 1) (aa (pv 2) ae)))) ag) (ao (aE (lW um (pv 3) kI))) bL)
  (ak (bK (PW.pt (pw_or (je (gN (b6 (kU (K:=K)) rfl T.kr boot_isinstance (aa (pv 3) (aa (kJ (v:=.ty "tuple") rfl T.xE boot_tuple rfl) ae))))) (pw_or1 (aY iq (b6 eC rfl T.dY d8 (aa (pv 3) ae)) ag)))) (ao (aE d9)) bL)
  (ak (bK (PW.pt (pw_or (je (gN (aB (OM T) hr T.Gp T.tG.kp T.Gn aD (aa (pv 0) (aa (aj aM (pv 3) ag) (aa (pv 4) ae)))))) (pw_or1 (je (gN (aB (OM T) hr T.Gp T.tG.kp T.Gn aD (aa (pv 0) (aa (aj aM (pv 3) ag) (aa (pv 4) ae))))))))) (ao (aE d9)) bL)
  (ak (putL 5 S.nd (aB (YV T) hr T.Nj T.xu.kp T.Ni aD (aa (pv 4) (aa (aB (Y9 T) hr T.Nh T.xt.kp T.Ng aD (aa (pv 0) (aa (pv 1) ae))) (aa (pv 2) ae)))))
  (ak (cI cb rfl (eA rfl T.da (aa (pv 4) ae)) (bP (i:=6) S.nd rfl (Or.inl rfl))
   (ao (cI cb rfl (eA rfl T.da (aa (pv 4) ae)) (bP (i:=7) S.nd rfl (Or.inl rfl))
   (ao (bK (PW.pt (pw_and (aY iq (pv 6) (pv 7)) (pw_and (uo (Br (K:=K)) (pv 7) (aj a9 (pv 5) (pv 6)) rfl) (pw_and1 (uo (Br (K:=K)) (pv 6) (aj a9 (pv 5) (pv 7)) rfl))))) (ao (bK (PW.pt (pw_or (aY (uE hu) (aj a9 (aj a9 (aj aM (pv 3) ag) (pv 6)) (pv 7)) (aB (mB T) hr T.lA T.iD.kp T.lz aD (aa (pv 0) ae))) (pw_or1 (aY (uE hu) (aj a9 (aj a9 (aj aM (pv 3) ag) (pv 6)) (pv 7)) (aB (mB T) hr T.lA T.iD.kp T.lz aD (aa (pv 0) ae)))))) (ao (aE d9)) bL)) bL)))))
  (ao (aE (aB (Z3 T) hr T.Nv T.xA.kp T.Nu aD (aa (pv 0) (aa (pv 1) (aa (pv 2) (aa (aj aM (pv 3) ag) (aa (aj aM (pv 3) ag) ae)))))))))))))),?_⟩
 have zS:=gg pc.lh;have ho:=pc.lh;have iY:=(FL n (by lia)).2
 have ll:(cm o).length=n:=by unfold cm;rw [aX,zS]
 refine aw fun _ hR=>a8 ⟨_,rfl,od,_,rfl,.inl (.of pc.ord),hR _ _ ?_⟩;rw [ll];refine aw fun _ hR=>⟨_,rfl,_,rfl,_,rfl,td,tab,od,q,n,997,rt,vf,cW q n f,dJ q,o,rfl,tw,hq,pc.tab.r,fun i j hi hj=>pc.uV hq hi hj,pc.ord,pc.lh,by lia,by decide,uZ pc.sm,qP,BC hq,iY,fun k hk g d H1 s1=>?_,fun g H1 s1=>?_⟩
 ·cases out with
  | yes fd lo up rl ru lf uf gd=>exact (FQ zS hk d gd).elim
  | no k' xM g' d' ev=>
   subst ev;refine ⟨_,_,rfl,rfl,true,by simp <;> lia,dQ (gP ⟨_,rfl,rfl,?_⟩)⟩
   have:=kk H1 s1;simpa using this
 ·cases out with
  | no k' xM g' d' ev=>exact (FQ zS xM d' g).elim
  | yes fd lo up rl ru lf uf gd ev fa=>
   subst ev;have xO:=fa.mono s1;refine ⟨_,_,rfl,rfl,false,by simp,bM (hR _ _ ?_)⟩
   refine aw fun _ hR=>⟨_,rfl,_,_,_,true,rfl,rfl,.of (.tup xO.tup),qD,true,rfl,bM ?_⟩;refine ⟨_,rfl,fd,_,rfl,.inr (.of xO.tup),rfl,_,rfl,bM (hR _ _ ?_)⟩;refine aw fun _ hR=>⟨_,rfl,_,rfl,fd,_,_,_,rfl,rfl,.of xO.tup,rfl,_,rfl,td,lo,q,bV n 997,n,rl,lf,_,_,rfl,tw.mono s1,hq,xO.low,xO.wl,by lia,fun H2 s2=>⟨true,rfl,bM ?_⟩⟩
   have G_:=xO.mono s2;have dq:=s1.trans s2;refine ⟨_,rfl,_,rfl,fd,_,_,_,rfl,rfl,.of G_.tup,rfl,_,rfl,td,up,q,bV n 997,n,ru,uf,_,_,rfl,tw.mono dq,hq,G_.gq,G_.wu,by lia,fun H3 s3=>⟨true,rfl,bM (hR _ _ ?_)⟩⟩
   have mv:=dq.trans s3;have GH:yT n (gi (gR n n f) n):=fun zz hz=>by have:=LQ zz hz;exact ⟨this.1,by lia,by lia,this.2.2⟩
   refine aw fun _ hR=>a8 ⟨_,rfl,_,rfl,_,rfl,td,tab,q,1000,n,gR n n f,rfl,tw.mono mv,hq,pc.V9.mono mv,FN,by lia,FO,fun lk us H4 s4 Zv pQ Z8 Z9=>?_⟩
   have jM:=mv.trans s4;refine ⟨_,rfl,lk,od,n,us,gi (gR n n f) n,o,rfl,pQ,Z8,GH,by lia,Z9,LP _ _,fun z hz=>(LQ z hz).2.1,jM _ _ pc.ord,pc.lh,fun H5 D5 Ho g5 s5 Hq Z_=>hR _ _ ?_⟩
   have OO:=jM.trans s5;have zero:∀a b,a<n→b<n→a≠b→¬aL n (gi (gR n n f) n) a b→cW q n f a b=0:=fun a b ha hb ab na=>(pc.gj hq (by lia)).zero a b ha hb (Lr ha hb ab (by rw [V4] at na;exact na))
   refine aw fun _ hR=>⟨_,rfl,(n:Int),rfl,by lia,by lia,?_⟩
   rw [df];refine gB (fun i σ Hc=>∃(v6 v7:Option V),σ=[some (.ref td),some (.ref tab),some (.ref od),some (.ref fd),some (.int (n:Int)),some (.ref D5),v6,v7]∧af H5 Hc) ⟨_,_,rfl,af.refl _⟩ ?_ ?_
   ·rintro i σ Hc hi ⟨v6,v7,rfl,sc⟩
    dsimp only [bR];rw [eU];refine ⟨_,rfl,(n:Int),rfl,by lia,by lia,?_⟩
    rw [df];refine gB (fun j σ Hd=>∃(v7:Option V),σ=[some (.ref td),some (.ref tab),some (.ref od),some (.ref fd),some (.int (n:Int)),some (.ref D5),some (.int (i:Int)),v7]∧af H5 Hd) ⟨_,rfl,sc⟩ ?_ ?_
    ·clear sc
     rintro j σ Hc hj ⟨v7,rfl,sc⟩;dsimp only [bR];rw [eU];have S6:=OO.trans sc;have lD:=fa.mono S6;have lg:∀p,p<n→Hc (Ho p)=some (.lst ((g5 p).map fun k:Nat=>V.int (k:Int))):=fun p hp=>sc _ _ (Hq.2 p hp);have fl:∀l:List Nat,(l.map fun k:Nat=>V.int (k:Int)).all fN=true:=fun l=>by rw [List.all_map];simp [fN]
     refine ⟨_,rfl,_,rfl,rfl,_,rfl,bS (fun hb=>?_) (fun hb=>bM ⟨_,rfl,sc⟩)⟩;have ne:i≠j:=fun e=>by subst e;simp [f_] at hb
     refine ⟨_,rfl,_,rfl,_,rfl,D5,_,_,_,rfl,rfl,.of (sc _ _ Hq.1),bD hi,Ho i,_,rfl,.inl (.of (lg i hi)),rfl,fl _,_,rfl,?_⟩;rw [qK];refine bS (fun eR=>?_) (fun eR=>bM ⟨_,rfl,sc⟩);have n1':j∉g5 i:=fun zz=>by simp [zz] at eR
     refine ⟨_,rfl,_,rfl,_,rfl,D5,_,_,_,rfl,rfl,.of (sc _ _ Hq.1),bD hj,Ho j,_,rfl,.inl (.of (lg j hj)),rfl,fl _,_,rfl,?_⟩;rw [qK];refine bS (fun i4=>?_) (fun i4=>⟨_,rfl,sc⟩);have n2':i∉g5 j:=fun zz=>by simp [zz] at i4
     obtain ⟨z1,z2⟩:=WJ (D:=dJ q) hq ho gd zero (fun p hp=>(Z_ p hp).2) hi hj ne n1' n2';refine ⟨_,rfl,fd,_,_,_,rfl,rfl,.of lD.tup,rfl,_,rfl,lo,_,_,_,rfl,rfl,.of lD.low.lst,bD hi,_,rfl,rl i,_,_,_,rfl,rfl,.of (lD.low.at' i hi),bD hj,_,rfl,td,q,rfl,tw.mono S6,hq,fun v0 H7 s7 h0=>?_⟩;have oo:=lD.mono s7;obtain ⟨x,m,hx,x0⟩:=(k9 hq (oo.wl i j hi hj)).mp (by rw [z1];exact ja q)
     refine oZ hx h0 ⟨false,by simp [x0],bM ?_⟩
     refine ⟨_,rfl,fd,_,_,_,rfl,rfl,.of oo.tup,rfl,_,rfl,up,_,_,_,rfl,rfl,.of oo.gq.lst,bD hi,_,rfl,ru i,_,_,_,rfl,rfl,.of (oo.gq.at' i hi),bD hj,_,rfl,td,q,rfl,tw.mono (S6.trans s7),hq,fun Y_ H8 s8 Bj=>?_⟩;have DC:=oo.mono s8;obtain ⟨x,m,hx,x0⟩:=(k9 hq (DC.wu i j hi hj)).mp (by rw [z2];exact ja q)
     exact oZ hx Bj ⟨false,by simp [x0],bM ⟨_,rfl,sc.trans (s7.trans s8)⟩⟩
    ·rintro σ Hd ⟨v7,rfl,sd⟩
     exact ⟨_,_,rfl,sd⟩
   ·rintro σ Hc ⟨v6,v7,rfl,sc⟩
    refine hR _ _ ?_;have S6:=OO.trans sc;have lD:=fa.mono S6;exact gP ⟨_,rfl,_,rfl,_,rfl,_,rfl,fd,_,_,_,rfl,rfl,.of lD.tup,rfl,_,rfl,fd,_,_,_,rfl,rfl,.of lD.tup,rfl,td,tab,od,am,lo,up,q,bV n 997,n,o,rt,rl,ru,vf,lf,uf,av,f,rfl,tw.mono S6,hq,n6,pc.mono S6,lD.low,lD.gq,lD.wl,lD.wu,iY,gd,fun H9 s9=>kk H9 (S6.trans s9)⟩
theorem aac:aZ ["script","start","told","table","order","aim","world","handed","found","kept","row","again"] ["script"] (aG CM):=bw
theorem aad(T:Txt K mg t):aS P w K mg base bH 10 t.pF t.sR ["script"] (A6 K):=by
 have S:=aac;have aae:=Xd (P:=P) (w:=w) (base:=base) T;refine T.xC.bQ S (fun _ _ _ _ H _ _ _ hr h=>?_);obtain ⟨a,ns,rfl,hS,hlen,kQ⟩:=h;have jL:=hr.units;have hu:=hr.oM
 refine ⟨_,(ak (cI cb rfl (V1 rfl T.da (aa ag (aa (b6 (Qp rfl) rfl T.NK boot_max (aa ag (aa (b6 (Qq rfl) rfl T.NL boot_min (aa ag (aa (b6 eC rfl T.dY d8 (aa (pv 0) ae)) ae))) ae))) (aa ag ae)))) (bP (i:=1) S.nd rfl (Or.inl rfl))
   (ak (@ig _ _ _ _ _ _ (aB (Zo T) hr T.Nq T.xx.kp T.Np aD (aa (pv 0) (aa (pv 1) ae))) (mX rfl (fM (bP (i:=2) S.nd rfl (Or.inl rfl)) (fM (bP (i:=3) S.nd rfl (Or.inl rfl)) (fM (bP (i:=4) S.nd rfl (Or.inl rfl)) (fM (bP (i:=5) S.nd rfl (Or.inl rfl)) mW))))) (by rfl) (by rfl) (by rfl))
  (ak (putL 6 S.nd (QQ T.CZ aae (hr.mono (by decide)) rfl T.NF T.Nz .nil m9 (aa (pv 2) ae)))
  (ak (l7 (i0:=7) (N:=["row"]) (ρ:=(fun σ=>[])) (eV [] rfl) rfl S.nd rfl (Or.inl rfl) (d_ (pv 3)) (fun _ _ _=>.nil) (fun _ _ _=>(jj (Bh (K:=K)) rfl T.jJ boot_list (aa (pv 0) ae))))
  (ak (putL 8 S.nd (aB (OJ T) hr T.Gd T.tj.kp T.Gb aD (aa (pv 6) (aa (pv 7) (aa (jj yy rfl T.jJ boot_list (aa (pv 4) ae)) ae)))))
  (ak (bK (PW.pt (pw_or (je (gN (aB (Z7 T) hr T.Nx T.xB.kp T.Nw aD (aa (pv 2) (aa (pv 3) (aa (pv 4) (aa (pv 8) ae))))))) (pw_or1 (aY (yN (n:=2) jL) (pv 7) (pv 3))))) (ao (aE d9)) bL)
  (ao (bK (aY Jk (pv 8) kI) (ak (l7 (i0:=9) (N:=["one"]) (ρ:=(fun σ=>[])) (eV [] rfl) rfl S.nd rfl (Or.inl rfl) (I_ (pv 8)) (fun _ _ _=>.nil) (fun _ _ _=>(j8 (N:=["row"]) (ρ:=(fun σ=>[])) (eV [] rfl) rfl (Km (K:=K) (pv 0)) (fun _ _ _=>.nil) (fun _ _ _=>(jj (Bh (K:=K)) rfl T.jJ boot_list (aa (pv 0) ae))))))
  (ak (cI cb rfl (d_ (pv 7)) (bP (i:=10) S.nd rfl (Or.inl rfl))
   (ao (gX (AR ie PySem.F.slot_list_clear PySem.F.type_list_clear JQ (pv 10)))))
  (ak (bK (aY (yN (n:=3) jL) (jj yy rfl T.jJ boot_list (aa (pv 8) ae)) (pv 9)) (ao (aE d9)) bL)
  (ak (l7 (i0:=7) (N:=["row"]) (ρ:=(fun σ=>[])) (eV [] rfl) rfl S.nd rfl (Or.inl rfl) (d_ (pv 3)) (fun _ _ _=>.nil) (fun _ _ _=>(jj (Bh (K:=K)) rfl T.jJ boot_list (aa (pv 0) ae))))
  (ak (putL 11 S.nd (aB (OJ T) hr T.Gd T.tj.kp T.Gb aD (aa (pv 6) (aa (pv 7) (aa (pv 4) ae)))))
  (ak (bK (PW.pt (pw_or (aY um (pv 11) kI) (pw_or1 (aY (yN (n:=3) jL) (jj yy rfl T.jJ boot_list (aa (pv 11) ae)) (pv 9))))) (ao (aE d9)) bL)
  (ak (cI cb rfl (d_ (aA Rk (aj aM (pv 11) ag) (aj aM (pv 11) ag))) (bP (i:=10) S.nd rfl (Or.inl rfl))
   (ao (gX (AR ie PySem.F.slot_list_clear PySem.F.type_list_clear JQ (pv 10)))))
  (ao (bK (PW.pt (pw_or (aY (yN (n:=2) jL) (pv 7) (pv 3)) (pw_or1 (aY (yN (n:=3) jL) (jj yy rfl T.jJ boot_list (aa (pv 8) ae)) (pv 9))))) (ao (aE d9)) bL))))))))) bL))))))))
  (ao (aE d9))),?_⟩
 refine aw fun _ hR=>⟨_,rfl,a,_,rfl,.inl hS,_,_,rfl,_,_,rfl,_,_,4,rfl,⟨by decide,by decide,by decide,by decide,?_,?_⟩,?_⟩
 ·split <;> split <;> lia
 ·split <;> split <;> lia
 refine V2 (fun i σ Hc=>∃(v:Nat→Option V),σ=[some (.ref a),v 1,v 2,v 3,v 4,v 5,v 6,v 7,v 8,v 9,v 10,v 11]∧af H Hc) ⟨fun _=>none,rfl,af.refl _⟩ ?_ ?_
 ·rintro i σ Hc hi ⟨v,rfl,sc⟩
  have i10:i≤40:=by
   revert hi
   unfold Builtin.Range.rangeSize;rw [ar (by decide)]
   split
   ·split <;> split <;> lia
   ·lia
  have hSc:b5 K Hc a (ns.map V.int):=sc.seq hS;dsimp only [bR];have eI:(0:Int)+(i:Int)*4=((4*i:Nat):Int):=by lia
  rw [eI];refine aw fun _ hR=>a8 ⟨_,rfl,_,rfl,a,ns,4*i,rfl,hSc,by lia,fun tp td tab od am q n o rt vf av f H1 s1 iF tw hq n1 n6 pc _ _ _ _=>⟨tp,_,rfl,.of iF,rfl,_,_,rfl,_,_,rfl,_,_,rfl,_,_,rfl,rfl,hR _ _ ?_⟩⟩
  have lo:=gg pc.lh;simp only [List.set_cons_zero,List.set_cons_succ];refine aw fun _ hR=>a8 ⟨_,rfl,fun z dz nz OP ne=>⟨z,dz,td,l9 q,rfl,ay,?_,fun _=>⟨rfl,hR _ _ ?_⟩,fun hg=>absurd ((Tj hq).symm.trans hg) (by decide)⟩⟩
  ·have e:=tw.at
   rw [aJ (iJ e nz),aJ (iJ e OP)];exact e
  have s2:af H1 (upd (upd (upd H1 dz (.own z)) z (.ins t.bI dz [])) z (.ins t.bI dz [("prime",(l9 q).prime)])):=fun b o e=>by rw [aJ (iJ e nz),aJ (iJ e nz),aJ (iJ e OP)];exact e
  have hz:dU t.bI (upd (upd (upd H1 dz (.own z)) z (.ins t.bI dz [])) z (.ins t.bI dz [("prime",(l9 q).prime)])) z q:=⟨dz,by rw [ay,TV]⟩
  generalize (upd (upd (upd H1 dz (.own z)) z (.ins t.bI dz [])) z (.ins t.bI dz [("prime",(l9 q).prime)]))=H2 at s2 hz ⊢;have zU:=pc.mono s2;have tw2:=tw.mono s2;refine aw fun _ hR=>a8 (jw (xs:=(List.range n).map fun i=>V.ref (rt i)) (n:=n) (by simp) (fun R h=>⟨_,rfl,tab,rfl,⟨_,.of zU.tab.lst⟩,h _ _ (af.refl _) (j_ (.of zU.tab.lst))⟩) (cB (by lia)) (fun _ i y Hx=>Hx y=some (.lst ((List.range n).map (vf i)))∧H2 y=none) ?_ ?_ ?_)
  ·intro D i y Ha Hb ys ⟨g1,g2⟩ hy e f
   exact ⟨f y _ hy g1,g2⟩
  ·intro D i x hx Hd R sd _ kc
   obtain ⟨hi,rfl⟩:=eZ hx;exact ⟨_,rfl,rt i,_,rfl,.inl (.of (sd _ _ (zU.tab.at' i hi))),fun l nl=>kc l _ (bf nl) nl ⟨_,ay⟩ ⟨ay,none_of sd nl⟩⟩
  intro hd rh H3 nhd s3 aag DD OQ;have Hr:cM H3 hd n n rh vf:=⟨OQ,fun i hi=>(DD i hi).1.1⟩;have nrh:∀i,i<n→H2 (rh i)=none:=fun i hi=>(DD i hi).1.2;have aai:∀i,i<n→rh i≠hd:=fun i hi=>(DD i hi).2;clear aag DD OQ;refine hR _ _ ?_;have tS:=zU.mono s3;have tw3:=tw2.mono s3;have OR:=hz.mono s3;refine aw fun _ hR=>a8 (LR (fun x Hx=>af H3 Hx∧pD H3 Hx q (bV n 997) n o (cW q n f) (dJ q) x) (fun R' zV=>?_) ?_)
  ·refine ⟨_,rfl,_,rfl,_,rfl,od,_,rfl,.inl (.of tS.ord),fun zW aaj=>?_⟩
   have sl:af H3 (upd H3 zW (.lst (cm o))):=bf aaj;have el:upd H3 zW (.lst (cm o)) zW=some (.lst (cm o)):=ay;generalize upd H3 zW (.lst (cm o))=H3' at sl el ⊢;refine ⟨z,hd,zW,q,1000,bV n 997,n,gR n n f,o,cW q n f,dJ q,rfl,OR.mono sl,hq,FP (Hr.mono sl) (tS.mono sl).num,by decide +kernel,FN,n1,by lia,FO,el,tS.lh,tS.gj hq (by lia),lub (uZ tS.sm) lo,fun k hk g d Hx sx=>zV _ _ ⟨sl.trans sx,.no k hk g d rfl⟩,fun g fd lw up rl ru lf uf Hx sx fa=>zV _ _ ⟨sl.trans sx,.yes fd lw up rl ru lf uf g rfl ⟨fa.tup,fa.low,fa.gq,fa.wl,fa.wu,none_of sl fa.new.1,none_of sl fa.new.2.1,none_of sl fa.new.2.2.1,fun i hi=>⟨none_of sl (fa.new.2.2.2 i hi).1,none_of sl (fa.new.2.2.2 i hi).2⟩⟩⟩⟩
  rintro x H4 ⟨s4,out⟩;refine hR _ _ ?_;have Hs:=tS.mono s4;have tw4:=tw3.mono s4;have OS:=Hr.mono s4;refine aw fun _ hR=>⟨_,rfl,_,rfl,_,rfl,_,rfl,td,tab,od,am,x,q,n,o,rt,vf,av,f,H3,rfl,tw4,hq,n1,n6,Hs,out,fun H5 s5=>⟨true,rfl,bM ?_⟩⟩;have DE:=Hs.mono s5;have oQ:=OS.mono s5;have aak:=out.mono s5;have OT:∀{Hx:Hp},jD Hx q tab od am n o rt vf av f→∀i j,i<n→j<n→iS K Hx 1 (vf i j) (vf i j):=fun{Hx} p i j hi hj=>FT (p.num i j hi hj) (p.num i j hi hj);refine ⟨_,rfl,_,rfl,hd,tab,_,_,rfl,rfl,.of oQ.lst,.of DE.tab.lst,by simp,L4 oQ DE.tab.r (OT DE),false,rfl,bM (hR _ _ ?_)⟩
  have aal:af H H5:=sc.trans (s1.trans (s2.trans (s3.trans (s4.trans s5))));cases aak with
  | no k hk g d ev=>subst ev;exact ⟨_,rfl,rfl,false,by simp,bM ⟨fun k=>List.getD [none,_,_,_,_,_,_,_,_,_,_,_] k none,rfl,aal⟩⟩
  | yes fd lw up rl ru lf uf g ev fa=>
   subst ev;refine ⟨_,rfl,rfl,true,by simp,dQ ?_⟩
   refine aw fun _ hR=>a8 (jw (xs:=[V.ref lw,.ref up]) (n:=2) rfl (fun R h=>⟨_,rfl,fd,rfl,⟨_,.of fa.tup⟩,h _ _ (af.refl _) (WK fa.tup)⟩) (cB (by lia)) (fun D i y Hx=>(∃rr:Nat→Addr,cM Hx y n n rr (if i=0 then lf else uf)∧∀j,j<n→rr j≠D∧H5 (rr j)=none)∧H5 y=none) ?_ ?_ ?_)
   ·intro D i y Ha Hb ys ⟨⟨rr,g1,g2⟩,g3⟩ hy e f'
    exact ⟨⟨rr,⟨f' y _ hy g1.lst,fun j hj=>f' _ _ (g2 j hj).1 (g1.at' j hj)⟩,g2⟩,g3⟩
   ·intro D i x hx Hd R sd ⟨ys,eD⟩ kc
    have src:∃(a:Addr) (ra:Nat→Addr),x=.ref a∧cM H5 a n n ra (if i=0 then lf else uf):=by
     match i,hx with
     | 0,hx=>cases hx;exact ⟨lw,rl,rfl,fa.low⟩
     | 1,hx=>cases hx;exact ⟨up,ru,rfl,fa.gq⟩
     | i+2,hx=>simp at hx
    obtain ⟨a',ra,rfl,hs⟩:=src;generalize (if i=0 then lf else uf)=wf at hs kc ⊢
    have hs:=hs.mono sd;refine jw (xs:=(List.range n).map fun i=>V.ref (ra i)) (n:=n) (by simp) (fun R h=>⟨_,rfl,a',rfl,⟨_,.of hs.lst⟩,h _ _ (af.refl _) (j_ (.of hs.lst))⟩) (cB (by lia)) (fun _ i y Hx=>Hx y=some (.lst ((List.range n).map (wf i)))∧Hd y=none) ?_ ?_ ?_
    ·intro D' i y Ha Hb ys ⟨g1,g2⟩ hy e f'
     exact ⟨f' y _ hy g1,g2⟩
    ·intro D' i x hx He R' se _ kc'
     obtain ⟨hi,rfl⟩:=eZ hx;exact ⟨_,rfl,ra i,_,rfl,.inl (.of (se _ _ (hs.at' i hi))),fun l nl=>kc' l _ (bf nl) nl ⟨_,ay⟩ ⟨ay,none_of se nl⟩⟩
    ·intro y rr He ny se inj hA ey
     exact kc y He se ny ⟨_,ey⟩ ⟨⟨rr,⟨ey,fun j hj=>(hA j hj).1.1⟩,fun j hj=>⟨(fun zz=>by have:=(hA j hj).1.2;rw [zz,eD] at this;cases this),none_of sd (hA j hj).1.2⟩⟩,none_of sd ny⟩
   intro kp ka H6 nkp s6 aao Ht OU;refine hR _ _ ?_;obtain ⟨⟨r0,OV,nr0⟩,nk0⟩:=(Ht 0 (by decide)).1
   obtain ⟨⟨r1,OW,nr1⟩,nk1⟩:=(Ht 1 (by decide)).1
   have kpt:pE H5 H6 n kp (ka 0) (ka 1) r0 r1 lf uf:=⟨OU,OV,OW,nkp,nk0,nk1,fun i hi=>⟨(nr0 i hi).2,(nr1 i hi).2⟩⟩;clear Ht aao OU OV OW;have DF:=oQ.mono s6;have Hv:lq (fun l=>∃i,i<n∧l=rh i) H6:=fun l ⟨i,hi,e⟩=>by subst e;exact ⟨_,DF.at' i hi⟩
   have hdC:¬(fun l=>∃i,i<n∧l=rh i) hd:=fun⟨i,hi,e⟩=>aai i hi e.symm;refine aw fun _ hR=>⟨_,rfl,hd,rfl,⟨_,.of DF.lst⟩,?_⟩;refine jg (K:=K) (a:=hd) (xs:=(List.range n).map fun i=>V.ref (rh i)) (fun k σ Hd=>∃(v10:Option V),σ=[some (.ref a),some (.int ((4*i:Nat):Int)),some (.ref td),some (.ref tab),some (.ref od),some (.ref am),some (.ref z),some (.ref hd),some (.ref fd),some (.ref kp),v10,v 11]∧gS (fun l=>∃i,i<n∧l=rh i) H6 Hd∧lq (fun l=>∃i,i<n∧l=rh i) Hd) ⟨_,rfl,gS.refl _ _,Hv⟩ (fun k σ Hd _ ⟨_,_,od,_⟩=>.of (od _ _ hdC DF.lst)) ?_ ?_
   ·rintro k x σ Hd hx ⟨v10,rfl,j9,ls⟩
    obtain ⟨hk,rfl⟩:=eZ hx;obtain ⟨ys,ey⟩:=ls (rh k) ⟨k,hk,rfl⟩;dsimp only [bR];refine ⟨_,rfl,.inl ⟨rfl,_,.of ey⟩,rh k,ys,rfl,rfl,ey,_,rfl,j9.clear ⟨k,hk,rfl⟩,fun l' Hy=>?_⟩;by_cases e:l'=rh k
    ·subst e
     exact ⟨_,ay⟩
    ·rw [aJ e]
     exact ls l' Hy
   rintro σ H7 ⟨v10,rfl,o7,_⟩;refine hR _ _ ?_;have DG:∀{l},H3 l=none→¬∃i,i<n∧l=rh i:=fun{l} e ⟨i,hi,z⟩=>by rw [z,Hr.at' i hi] at e;cases e
   have oo:=(fa.mono s6).iC Hv o7 (DG fa.new.2.1) (DG fa.new.2.2.1) fun i hi=>⟨DG (fa.new.2.2.2 i hi).1,DG (fa.new.2.2.2 i hi).2⟩;have OX:=kpt.iC o7 fun l ⟨i,hi,z⟩=>by subst z;exact ⟨_,oQ.at' i hi⟩
   have hz7:dU t.bI H7 z q:=(((OR.mono s4).mono s5).mono s6).iC Hv o7;have S26:af H2 H6:=s3.trans (s4.trans (s5.trans s6));have Hz:af H2 H7:=o7.same (fun l ⟨i,hi,z⟩=>by rw [z];exact nrh i hi) S26
   have pc7:=zU.mono Hz;have tw7:=tw2.mono Hz;have xJ:∀{Hx:Hp},nX H3 Hx q (bV n 997) n o (cW q n f) (dJ q) fd lw up rl ru lf uf→pE H5 Hx n kp (ka 0) (ka 1) r0 r1 lf uf→∀(j:Nat) (x y:V),[V.ref lw,.ref up][j]?=some x→[V.ref (ka 0),.ref (ka 1)][j]?=some y→iS K Hx 3 x y:=fun{Hx} fx kx=>L5 (BH fx.low kx.low fun i j hi hj=>BI hq (fx.wl i j hi hj) (fx.wl i j hi hj)) (BH fx.gq kx.gq fun i j hi hj=>BI hq (fx.wu i j hi hj) (fx.wu i j hi hj));refine aw fun _ hR=>⟨_,rfl,fd,_,rfl,.inr (.of oo.tup),fun l8 nl8=>?_⟩;have s8:af H7 (upd H7 l8 (.lst [.ref lw,.ref up])):=bf nl8;have OY:upd H7 l8 (.lst [.ref lw,.ref up]) l8=some (.lst [.ref lw,.ref up]):=ay;generalize upd H7 l8 (.lst [.ref lw,.ref up])=H8 at s8 OY ⊢;have DC:=oo.mono s8;have HA:=OX.mono s8;refine ⟨_,rfl,l8,kp,_,_,rfl,rfl,.of OY,.of HA.lst,rfl,xJ DC HA,false,rfl,bM (hR _ _ ?_)⟩;have DH:=pc7.mono s8;have tw8:=tw7.mono s8;have hz8:=hz7.mono s8;clear oo OX DF oQ OS DE Hs tS;refine aw fun _ hR=>a8 (jw (xs:=(List.range n).map fun i=>V.ref (rt i)) (n:=n) (by simp) (fun R h=>⟨_,rfl,tab,rfl,⟨_,.of DH.tab.lst⟩,h _ _ (af.refl _) (j_ (.of DH.tab.lst))⟩) (cB (by lia)) (fun _ i y Hx=>Hx y=some (.lst ((List.range n).map (vf i)))∧H8 y=none) ?_ ?_ ?_)
   ·intro D i y Ha Hb ys ⟨g1,g2⟩ hy e f
    exact ⟨f y _ hy g1,g2⟩
   ·intro D i x hx Hd R sd _ kc
    obtain ⟨hi,rfl⟩:=eZ hx;exact ⟨_,rfl,rt i,_,rfl,.inl (.of (sd _ _ (DH.tab.at' i hi))),fun l nl=>kc l _ (bf nl) nl ⟨_,ay⟩ ⟨ay,none_of sd nl⟩⟩
   intro hd2 HC H9 ahb s9 aaA DI OZ;have O0:cM H9 hd2 n n HC vf:=⟨OZ,fun i hi=>(DI i hi).1.1⟩;have ahc:∀i,i<n→H8 (HC i)=none:=fun i hi=>(DI i hi).1.2;have ahe:∀i,i<n→HC i≠hd2:=fun i hi=>(DI i hi).2;clear aaA DI OZ;refine hR _ _ ?_;have xP:=DH.mono s9;have hz9:=hz8.mono s9;have O1:=DC.mono s9;have O2:=HA.mono s9;refine aw fun _ hR=>a8 (LR (fun x Hx=>af H9 Hx∧pD H9 Hx q (bV n 997) n o (cW q n f) (dJ q) x) (fun R' zV=>?_) ?_);·exact ⟨_,rfl,_,rfl,_,rfl,z,hd2,od,q,1000,bV n 997,n,gR n n f,o,cW q n f,dJ q,rfl,hz9,hq,FP O0 xP.num,by decide +kernel,FN,n1,by lia,FO,xP.ord,xP.lh,xP.gj hq (by lia),lub (uZ xP.sm) lo,fun k hk g d Hx sx=>zV _ _ ⟨sx,.no k hk g d rfl⟩,fun g fd lw up rl ru lf uf Hx sx fa=>zV _ _ ⟨sx,.yes fd lw up rl ru lf uf g rfl fa⟩⟩
   rintro x mE ⟨s10,aaD⟩;refine hR _ _ ?_;cases aaD with
   | no k hk g' d ev=>exact (FQ lo hk d g).elim
   | yes DJ zX zY lE lF lf2 uf2 g2 ev fb=>
    subst ev;refine aw fun _ hR=>⟨_,rfl,rfl,false,by simp,bM ?_⟩
    refine ⟨_,rfl,DJ,_,rfl,.inr (.of fb.tup),fun zZ aaE=>?_⟩;have oj:af mE (upd mE zZ (.lst [.ref zX,.ref zY])):=bf aaE;have O3:upd mE zZ (.lst [.ref zX,.ref zY]) zZ=some (.lst [.ref zX,.ref zY]):=ay;generalize upd mE zZ (.lst [.ref zX,.ref zY])=mF at oj O3 ⊢;have HD:=s10.trans oj;have O4:=O1.mono HD;have HE:=O2.mono HD;have mG:=fb.mono oj;refine ⟨_,rfl,zZ,kp,_,_,rfl,rfl,.of O3,.of HE.lst,rfl,L5 (BH mG.low HE.low fun i j hi hj=>BI hq (mG.wl i j hi hj) (O4.wl i j hi hj)) (BH mG.gq HE.gq fun i j hi hj=>BI hq (mG.wu i j hi hj) (O4.wu i j hi hj)),false,rfl,bM (hR _ _ ?_)⟩;have O5:lq (fun l=>∃i,i<n∧(l=lE i∨l=lF i)) mF:=fun l ⟨i,hi,e⟩=>by
     rcases e with e | e;·subst e;exact ⟨_,mG.low.at' i hi⟩
     ·subst e;exact ⟨_,mG.gq.at' i hi⟩
    refine aw fun _ hR=>⟨_,rfl,DJ,_,_,_,rfl,rfl,.of mG.tup,rfl,_,rfl,DJ,_,_,_,rfl,rfl,.of mG.tup,rfl,zX,zY,_,_,rfl,rfl,mG.low.lst,mG.gq.lst,aQ (show _≤100 by simp;lia) (by decide),fun p np=>⟨p,rfl,⟨_,.of ay⟩,?_⟩⟩
    have dq:af mF (upd mF p (.lst (((List.range n).map fun i=>V.ref (lE i))++((List.range n).map fun i=>V.ref (lF i))))):=bf np;have ep:upd mF p (.lst (((List.range n).map fun i=>V.ref (lE i))++((List.range n).map fun i=>V.ref (lF i)))) p=some (.lst (((List.range n).map fun i=>V.ref (lE i))++((List.range n).map fun i=>V.ref (lF i)))):=ay;generalize upd mF p (.lst (((List.range n).map fun i=>V.ref (lE i))++((List.range n).map fun i=>V.ref (lF i))))=O6 at dq ep ⊢;have pC:¬(fun l=>∃i,i<n∧(l=lE i∨l=lF i)) p:=fun zz=>by obtain ⟨ys,ey⟩:=O5 p zz;rw [np] at ey;cases ey
    have aaF:lq (fun l=>∃i,i<n∧(l=lE i∨l=lF i)) O6:=fun l hl=>let ⟨ys,ey⟩:=O5 l hl;⟨ys,dq _ _ ey⟩
    refine jg (K:=K) (a:=p) (xs:=((List.range n).map fun i=>V.ref (lE i))++((List.range n).map fun i=>V.ref (lF i))) (fun k σ Hd=>∃(v10:Option V),σ=[some (.ref a),some (.int ((4*i:Nat):Int)),some (.ref td),some (.ref tab),some (.ref od),some (.ref am),some (.ref z),some (.ref hd2),some (.ref fd),some (.ref kp),v10,some (.ref DJ)]∧gS (fun l=>∃i,i<n∧(l=lE i∨l=lF i)) O6 Hd∧lq (fun l=>∃i,i<n∧(l=lE i∨l=lF i)) Hd) ⟨_,rfl,gS.refl _ _,aaF⟩ (fun k σ Hd _ ⟨_,_,od,_⟩=>.of (od _ _ pC ep)) ?_ ?_
    ·rintro k x σ Hd hx ⟨v10,rfl,j9,ls⟩
     have mx:∃l,x=.ref l∧∃i,i<n∧(l=lE i∨l=lF i):=by
      rcases fG.mp (pV hx) with hx | hx
      ·obtain ⟨i,hi,rfl⟩:=i_.mp hx
       exact ⟨_,rfl,i,e8.mp hi,.inl rfl⟩
      ·obtain ⟨i,hi,rfl⟩:=i_.mp hx
       exact ⟨_,rfl,i,e8.mp hi,.inr rfl⟩
     obtain ⟨l,rfl,cl⟩:=mx;obtain ⟨ys,ey⟩:=ls l cl;dsimp only [bR];refine ⟨_,rfl,.inl ⟨rfl,_,.of ey⟩,l,ys,rfl,rfl,ey,_,rfl,j9.clear cl,fun l' Hy=>?_⟩;by_cases e:l'=l
     ·subst e
      exact ⟨_,ay⟩
     ·rw [aJ e]
      exact ls l' Hy
    rintro σ z5 ⟨ahh,rfl,o13,_⟩;refine hR _ _ ?_;have z6:af H9 z5:=o13.same (fun l ⟨i,hi,e⟩=>by
     rcases e with e | e;·rw [e];exact (fb.new.2.2.2 i hi).1
     ·rw [e];exact (fb.new.2.2.2 i hi).2) (HD.trans dq)
    have HF:=xP.mono z6;have O7:=O0.mono z6;refine ⟨_,rfl,_,rfl,hd2,tab,_,_,rfl,rfl,.of O7.lst,.of HF.tab.lst,by simp,L4 O7 HF.tab.r (OT HF),false,rfl,bM ?_⟩
    have O8:=O1.mono z6;refine ⟨_,rfl,fd,_,rfl,.inr (.of O8.tup),fun z7 aaH=>?_⟩;have jM:af z5 (upd z5 z7 (.lst [.ref lw,.ref up])):=bf aaH;have O9:upd z5 z7 (.lst [.ref lw,.ref up]) z7=some (.lst [.ref lw,.ref up]):=ay;generalize upd z5 z7 (.lst [.ref lw,.ref up])=H14 at jM O9 ⊢;have O_:=(O2.mono z6).mono jM;refine ⟨_,rfl,z7,kp,_,_,rfl,rfl,.of O9,.of O_.lst,rfl,xJ (O8.mono jM) O_,false,rfl,bM ?_⟩;exact ⟨fun k=>List.getD [none,_,_,_,_,_,_,_,_,_,_,_] k none,rfl,sc.trans (s1.trans (s2.trans (Hz.trans (s8.trans (s9.trans (z6.trans jM))))))⟩
 ·rintro σ Hc ⟨v,rfl,sc⟩
  exact hR _ _ (kQ _)
theorem aaI{l:PySem.W.OpenLaw}(T:Txt K mg t):∃fd:FuncData,(∀(s:Shared) (v:Value),BindsTo s fd ⟨[v],[]⟩ [("script",v)])∧∀base:Heap,K.In base→base.Ns mainGlobals mg→aS l.prog w K mg base bH 10 t.pF fd ["script"] (A6 K):=by obtain ⟨oc,od,kV,doc,pm,an,ba,ct,fW,e,lk,fS⟩:=T.xC.ex;refine ⟨t.sR,fun s v=>?_,fun base _ _=>aad T⟩;rw [e];exact .of_eq rfl
end
theorem walk{l:PySem.W.OpenLaw}{q:Program}{loose:List Str}{XP:(Str→Option Value)→Heap→Prop}{YP:World→Heap→Prop}{d:DefRec}{K:Params→PySem.W.Frag}(hn:l.most=some 63)(yE:d.params.defaults=[])
  (hY:∀(w:World) (h:Heap),YP w h→(K w.params).In h)
  (F:∀(w:World) (mg:dh) (fa:Addr) (h:Heap),(K w.params).In h→h.Ns mainGlobals mg→mg d.name=some (.ref fa)→
   ∃fd:FuncData,(∀(s:Shared) (u:Value),BindsTo s fd ⟨[u],[]⟩ [("script",u)])∧∀base:Heap,(K w.params).In base→base.Ns mainGlobals mg→aS l.prog w (K w.params) mg base bH 10 fa fd ["script"] (A6 (K w.params))) :
  PySem.W.WalkO q loose XP YP l.row.toRowW d [] (fun f vs=>PySem.call f vs):=
 L2.RE (n:=63) (k:=10) (x:="script") (CX:=fun _=>bH) (sp:=fun w=>A6 (K w.params)) hn (by decide) yE ⟨rfl,by decide,by decide⟩ hY F (fun _ _ a ns hl _ hS=>⟨a,ns,rfl,hS,hl,fun _=>rfl⟩) fun _ _ _ _ _ z=>z
theorem aaJ{K:aC}{h:Heap}{mg:dh}(X:K.In h)(G:h.Ns mainGlobals mg)
  {bI:Addr}
  {sZ:Addr}
  {jE:Addr}
  {nZ:Addr}
  {n4:Addr}
  {nY:Addr} {aaK Pa:Option Addr} {aaL:Array (Option Value)} {aaM Pb Pc Pd HG Pe:Value}
  {HH:Addr} {aaN:Tok} {aaO:Value} {aaP:Option Addr} {aaQ:Nat} {aaR:Array (Option Value)}
  {aaS:Tok}
  {aaT:Tok}
  {qQ qS qT u9 qU qV qW qX qY qZ q5 q8 q_ rf rj rn rp rq rz rA rB rC rE rF rH rJ rK rM rN rO rP rQ rR rS rV rW rX rY rZ r6 r9 r_ sk sq sr sv sA sC sD sE sF sG sI sJ sL sM sN sO sP sQ pF sS wz sW sX sY:Addr} {u5 u6 u7 zc u_ va vb vc vd ve vg vh vi vj vk vm vn vo vp vq vt vv vw vx vy vz vA vB vC vD vE vF vG vH vI vJ vK vL vM vN vO vP vQ vR vS vT vU vV vW vX vY vZ v_ wc we wg wj wm wo wq sR wx ze wA wB wC:FuncData}
  (HJ:PySem.W.nsIn K mainGlobals "World"=some (some (.ref bI)))
  (HK:PySem.W.nsIn K mainGlobals "NoWorld"=some (some (.ref sZ)))
  (HL:PySem.W.nsIn K mainGlobals "NoOver"=some (some (.ref jE)))
  (HM:PySem.W.nsIn K mainGlobals "NoFit"=some (some (.ref nZ)))
  (HN:PySem.W.nsIn K mainGlobals "NoOrder"=some (some (.ref n4)))
  (aaU:mg "width"=some (.ref qQ))
  (wD:ax K "width" BJ qQ u5)
  (aaV:mg "square_size"=some (.ref qS))
  (wF:ax K "square_size" BK qS u6)
  (aaW:mg "is_whole"=some (.ref qT))
  (s_:ax K "is_whole" BL qT u7)
  (aaX:mg "shortened"=some (.ref u9))
  (CT:ax K "shortened" FY u9 zc)
  (aaY:mg "common_divisor"=some (.ref qU))
  (mr:ax K "common_divisor" BM qU u_)
  (aaZ:mg "is_prime"=some (.ref qV))
  (wI:ax K "is_prime" BN qV va)
  (aa0:mg "links_of_place"=some (.ref qW))
  (wJ:ax K "links_of_place" BO qW vb)
  (aa1:mg "shape_of"=some (.ref qX))
  (wK:ax K "shape_of" BP qX vc)
  (aa2:mg "neighbours"=some (.ref qY))
  (wL:ax K "neighbours" BQ qY vd)
  (aa3:mg "is_order"=some (.ref qZ))
  (wM:ax K "is_order" BR qZ ve)
  (aa4:mg "check_order"=some (.ref q5))
  (wN:ax K "check_order" BS q5 vg)
  (aa5:mg "turns_of"=some (.ref q8))
  (tf:ax K "turns_of" BU q8 vh)
  (aa6:mg "link_all"=some (.ref q_))
  (wO:ax K "link_all" BV q_ vi)
  (aa7:mg "later"=some (.ref rf))
  (wQ:ax K "later" BW rf vj)
  (aa8:mg "undo_place"=some (.ref rj))
  (wR:ax K "undo_place" BX rj vk)
  (aa9:mg "packed"=some (.ref rn))
  (wU:ax K "packed" BY rn vm)
  (aa_:mg "lower_row"=some (.ref rp))
  (wV:ax K "lower_row" BZ rp vn)
  (aba:mg "upper_row"=some (.ref rq))
  (wW:ax K "upper_row" B0 rq vo)
  (abb:mg "lower_of"=some (.ref rz))
  (wX:ax K "lower_of" B1 rz vp)
  (abc:mg "upper_of"=some (.ref rA))
  (wY:ax K "upper_of" B2 rA vq)
  (abd:mg "factors"=some (.ref rB))
  (tj:ax K "factors" B3 rB vt)
  (abe:mg "ratio"=some (.ref rC))
  (wZ:ax K "ratio" B4 rC vv)
  (abf:mg "ratio_plus"=some (.ref rE))
  (w5:ax K "ratio_plus" B5 rE vw)
  (abg:mg "ratio_minus"=some (.ref rF))
  (w9:ax K "ratio_minus" B6 rF vx)
  (abh:mg "ratio_times"=some (.ref rH))
  (pG:ax K "ratio_times" B7 rH vy)
  (abi:mg "ratio_over"=some (.ref rJ))
  (w_:ax K "ratio_over" B8 rJ vz)
  (abj:mg "remainder_back"=some (.ref rK))
  (xa:ax K "remainder_back" B9 rK vA)
  (abk:mg "remainder_over"=some (.ref rM))
  (tu:ax K "remainder_over" B_ rM vB)
  (abl:mg "is_fractions"=some (.ref rN))
  (xb:ax K "is_fractions" Ca rN vC)
  (abm:mg "is_wheel"=some (.ref rO))
  (xc:ax K "is_wheel" Cb rO vD)
  (abn:mg "_law_acell"=some (.ref rP))
  (xf:ax K "_law_acell" Cc rP vE)
  (abo:mg "_law_atape"=some (.ref rQ))
  (n5:ax K "_law_atape" Cd rQ vF)
  (abp:mg "_law_adigit"=some (.ref rR))
  (gT:ax K "_law_adigit" Ce rR vG)
  (abq:mg "_law_adivisor"=some (.ref rS))
  (tD:ax K "_law_adivisor" Cf rS vH)
  (abr:mg "_law_aturned"=some (.ref rV))
  (tE:ax K "_law_aturned" Ci rV vI)
  (abt:mg "_law_anumber"=some (.ref rW))
  (jH:ax K "_law_anumber" Cj rW vJ)
  (abu:mg "_law_aplus"=some (.ref rX))
  (xg:ax K "_law_aplus" Ck rX vK)
  (abv:mg "_law_atimes"=some (.ref rY))
  (tF:ax K "_law_atimes" Cm rY vL)
  (abw:mg "_law_aless"=some (.ref rZ))
  (xh:ax K "_law_aless" Cn rZ vM)
  (abx:mg "_law_aover"=some (.ref r6))
  (xi:ax K "_law_aover" Co r6 vN)
  (aby:mg "_law_aworld"=some (.ref r9))
  (xj:ax K "_law_aworld" Cp r9 vO)
  (abz:mg "_law_asome"=some (.ref r_))
  (og:ax K "_law_asome" Cq r_ vP)
  (abA:mg "_law_anought"=some (.ref sk))
  (iD:ax K "_law_anought" Cr sk vQ)
  (abB:mg "_law_atable"=some (.ref sq))
  (xk:ax K "_law_atable" Cs sq vR)
  (abC:mg "_law_alinks"=some (.ref sr))
  (xl:ax K "_law_alinks" Ct sr vS)
  (abD:mg "_law_aorder"=some (.ref sv))
  (xn:ax K "_law_aorder" Cu sv vT)
  (abE:mg "_law_arow"=some (.ref sA))
  (xo:ax K "_law_arow" Cv sA vU)
  (abF:mg "_law_acarried"=some (.ref sC))
  (xp:ax K "_law_acarried" Cw sC vV)
  (abG:mg "_law_atied"=some (.ref sD))
  (xq:ax K "_law_atied" Cy sD vW)
  (abH:mg "_law_afirst_tied"=some (.ref sE))
  (xr:ax K "_law_afirst_tied" Cz sE vX)
  (abI:mg "_law_ashape"=some (.ref sF))
  (xt:ax K "_law_ashape" CA sF vY)
  (abJ:mg "_law_alater"=some (.ref sG))
  (xu:ax K "_law_alater" CB sG vZ)
  (abK:mg "_law_awhole"=some (.ref sI))
  (pH:ax K "_law_awhole" CD sI v_)
  (abL:mg "_law_ais_number"=some (.ref sJ))
  (xv:ax K "_law_ais_number" CF sJ wc)
  (abM:mg "_law_ais_row"=some (.ref sL))
  (xw:ax K "_law_ais_row" CG sL we)
  (abN:mg "_law_apiece"=some (.ref sM))
  (xx:ax K "_law_apiece" CH sM wg)
  (abO:mg "_law_ais_table"=some (.ref sN))
  (tG:ax K "_law_ais_table" CI sN wj)
  (abP:mg "_law_aproduct"=some (.ref sO))
  (xy:ax K "_law_aproduct" CJ sO wm)
  (abQ:mg "_law_aare_factors"=some (.ref sP))
  (xA:ax K "_law_aare_factors" CK sP wo)
  (abR:mg "_law_atold_right"=some (.ref sQ))
  (xB:ax K "_law_atold_right" CL sQ wq)
  (abS:mg "law"=some (.ref pF))
  (xC:ax K "law" CM pF sR)
  (CZ:Mk K bI sS)
  (zl:eE K "__init__" "World.__init__" CN sS wx)
  (HP:PySem.W.findIn K (.ref bI) "of"=some (some (.ref nY)))
  (HQ:PySem.W.isFn K (.ref nY)=true)
  (xQ:K.lookup nY=some ⟨aaM,aaK,.func (PySem.W.fnOf "of" "World.of" (jq kq) (gD kq) (aG kq) (.ref HH) Pb Pc Pd Pa HG Pe),aaL⟩)
  (xR:PySem.W.codeIn K HG "World.of"=true)
  (tT:PySem.W.keepIn K (.ref nY)=true)
  (xS:K.lookup HH=some ⟨aaO,aaP,.seq #[.int 1 aaN] aaQ,aaR⟩)
  (Gq:Meth K bI "plus" wz)
  (C0:eE K "plus" "World.plus" FZ wz ze)
  (C1:Meth K bI "minus" sW)
  (zo:eE K "minus" "World.minus" CO sW wA)
  (C2:Meth K bI "times" sX)
  (zp:eE K "times" "World.times" CP sX wB)
  (C3:Meth K bI "over" sY)
  (zq:eE K "over" "World.over" CQ sY wC)
  (HR:PySem.W.plainGet K bI Str.empty=true)
  (HS:PySem.W.hasDictIn K bI=true)
  (HU:PySem.W.plainOver K bI=true)
  (HV:PySem.W.findIn K (.ref bI) "__setattr__"=some (some (.builtin "object.__setattr__")))
  (HW:PySem.W.findIn K (.ref bI) "prime"=some none)
  (HX:PySem.W.nsIn K mainGlobals "ValueError"=some none)
  (HY:PySem.W.nsIn K mainGlobals "abs"=some none)
  (HZ:PySem.W.nsIn K mainGlobals "all"=some none)
  (H_:PySem.W.nsIn K mainGlobals "any"=some none)
  (Ia:PySem.W.nsIn K mainGlobals "bool"=some none)
  (Ib:PySem.W.nsIn K mainGlobals "enumerate"=some none)
  (Ic:PySem.W.nsIn K mainGlobals "int"=some none)
  (Ie:PySem.W.nsIn K mainGlobals "isinstance"=some none)
  (Ig:PySem.W.nsIn K mainGlobals "len"=some none)
  (Ih:PySem.W.nsIn K mainGlobals "list"=some none)
  (Ii:PySem.W.nsIn K mainGlobals "max"=some none)
  (Ij:PySem.W.nsIn K mainGlobals "min"=some none)
  (Ik:PySem.W.nsIn K mainGlobals "range"=some none)
  (Il:PySem.W.nsIn K mainGlobals "reversed"=some none)
  (Im:PySem.W.nsIn K mainGlobals "sorted"=some none)
  (Io:PySem.W.nsIn K mainGlobals "sum"=some none)
  (Ip:PySem.W.nsIn K mainGlobals "tuple"=some none)
  (Iq:PySem.W.nsIn K mainGlobals "zip"=some none)
  (Ir:PySem.W.nsIn K mainGlobals "GREATEST_PRIME"=some (some (.int 997 aaS)))
  (Iu:PySem.W.nsIn K mainGlobals "LONG"=some (some (.int 2048 aaT)))
  (Iv:PySem.W.excIn K sZ [.type "ValueError",.type "Exception",.type "BaseException",.type "object"] "ValueError.__new__"=true)
  (Iw:PySem.W.excIn K jE [.type "ValueError",.type "Exception",.type "BaseException",.type "object"] "ValueError.__new__"=true)
  (Iz:PySem.W.excIn K nZ [.type "ValueError",.type "Exception",.type "BaseException",.type "object"] "ValueError.__new__"=true)
  (IA:PySem.W.excIn K n4 [.type "ValueError",.type "Exception",.type "BaseException",.type "object"] "ValueError.__new__"=true)
  : ∃t:F0,Txt K mg t:=by
 refine ⟨⟨qQ,u5,qS,u6,qT,u7,u9,zc,qU,u_,qV,va,qW,vb,qX,vc,qY,vd,qZ,ve,q5,vg,q8,vh,q_,vi,rf,vj,rj,vk,rn,vm,rp,vn,rq,vo,rz,vp,rA,vq,rB,vt,rC,vv,rE,vw,rF,vx,rH,vy,rJ,vz,rK,vA,rM,vB,rN,vC,rO,vD,rP,vE,rQ,vF,rR,vG,rS,vH,rV,vI,rW,vJ,rX,vK,rY,vL,rZ,vM,r6,vN,r9,vO,r_,vP,sk,vQ,sq,vR,sr,vS,sv,vT,sA,vU,sC,vV,sD,vW,sE,vX,sF,vY,sG,vZ,sI,v_,sJ,wc,sL,we,sM,wg,sN,wj,sO,wm,sP,wo,sQ,wq,pF,sR,sS,wx,nY,PySem.W.fnOf "of" "World.of" (jq kq) (gD kq) (aG kq) (.ref HH) Pb Pc Pd Pa HG Pe,wz,ze,sW,wA,sX,wB,sY,wC,bI,sZ,jE,nZ,n4⟩,?_⟩
 exact {
  wD:=wD
  L6:=wD.bh
  L7:=aaU
  wF:=wF
  L8:=wF.bh
  L9:=aaV
  s_:=s_
  F8:=s_.bh
  F9:=aaW
  CT:=CT
  WL:=CT.bh
  WM:=aaX
  mr:=mr
  wG:=mr.bh
  wH:=aaY
  wI:=wI
  L_:=wI.bh
  Ma:=aaZ
  wJ:=wJ
  Mb:=wJ.bh
  Mc:=aa0
  wK:=wK
  Md:=wK.bh
  Me:=aa1
  wL:=wL
  Mf:=wL.bh
  Mg:=aa2
  wM:=wM
  Mh:=wM.bh
  Mi:=aa3
  wN:=wN
  Mj:=wN.bh
  Ml:=aa4
  tf:=tf
  F_:=tf.bh
  Ga:=aa5
  wO:=wO
  Mm:=wO.bh
  Mn:=aa6
  wQ:=wQ
  Mo:=wQ.bh
  Mp:=aa7
  wR:=wR
  Mq:=wR.bh
  Mr:=aa8
  wU:=wU
  Ms:=wU.bh
  Mt:=aa9
  wV:=wV
  Mu:=wV.bh
  Mv:=aa_
  wW:=wW
  Mw:=wW.bh
  Mx:=aba
  wX:=wX
  Mz:=wX.bh
  MA:=abb
  wY:=wY
  MB:=wY.bh
  MC:=abc
  tj:=tj
  Gb:=tj.bh
  Gd:=abd
  wZ:=wZ
  MD:=wZ.bh
  ME:=abe
  w5:=w5
  MF:=w5.bh
  MG:=abf
  w9:=w9
  MH:=w9.bh
  MI:=abg
  pG:=pG
  CU:=pG.bh
  CV:=abh
  w_:=w_
  MJ:=w_.bh
  MK:=abi
  xa:=xa
  ML:=xa.bh
  MM:=abj
  tu:=tu
  Ge:=tu.bh
  Gf:=abk
  xb:=xb
  MN:=xb.bh
  MO:=abl
  xc:=xc
  MP:=xc.bh
  MQ:=abm
  xf:=xf
  MR:=xf.bh
  MS:=abn
  n5:=n5
  zf:=n5.bh
  zg:=abo
  gT:=gT
  jF:=gT.bh
  jG:=abp
  tD:=tD
  Gg:=tD.bh
  Gh:=abq
  tE:=tE
  Gi:=tE.bh
  Gj:=abr
  jH:=jH
  n8:=jH.bh
  n_:=abt
  xg:=xg
  MT:=xg.bh
  MU:=abu
  tF:=tF
  Gk:=tF.bh
  Gm:=abv
  xh:=xh
  MV:=xh.bh
  MW:=abw
  xi:=xi
  MX:=xi.bh
  MY:=abx
  xj:=xj
  MZ:=xj.bh
  M0:=aby
  og:=og
  zh:=og.bh
  zk:=abz
  iD:=iD
  lz:=iD.bh
  lA:=abA
  xk:=xk
  M1:=xk.bh
  M3:=abB
  xl:=xl
  M4:=xl.bh
  M5:=abC
  xn:=xn
  M6:=xn.bh
  M7:=abD
  xo:=xo
  M8:=xo.bh
  M9:=abE
  xp:=xp
  M_:=xp.bh
  Na:=abF
  xq:=xq
  Nb:=xq.bh
  Nc:=abG
  xr:=xr
  Nd:=xr.bh
  Nf:=abH
  xt:=xt
  Ng:=xt.bh
  Nh:=abI
  xu:=xu
  Ni:=xu.bh
  Nj:=abJ
  pH:=pH
  CW:=pH.bh
  CY:=abK
  xv:=xv
  Nk:=xv.bh
  Nl:=abL
  xw:=xw
  Nm:=xw.bh
  Nn:=abM
  xx:=xx
  Np:=xx.bh
  Nq:=abN
  tG:=tG
  Gn:=tG.bh
  Gp:=abO
  xy:=xy
  Nr:=xy.bh
  Nt:=abP
  xA:=xA
  Nu:=xA.bh
  Nv:=abQ
  xB:=xB
  Nw:=xB.bh
  Nx:=abR
  xC:=xC
  WN:=xC.bh
  Ny:=abS
  zl:=zl
  Nz:=zl.bh
  CZ:=CZ
  NA:=(A8 (st:=kq) (i:=1) xQ xR tT xS)
  WO:=jt.binds (ps:=["self","top","bottom"]) (A8 (st:=kq) (i:=1) xQ xR tT xS) fun s dT kV doc pm an ba ct tk o n us ho hd hl=>match us,hl with | [_,_,_],_=>.of_defaults rfl ho hd rfl rfl
  zm:=jt.SE (ps:=["self","top","bottom"]) (A8 (st:=kq) (i:=1) xQ xR tT xS) fun s dT kV doc pm an ba ct tk o n us ho hd hl=>match us,hl with | [_,_],_=>.of_defaults rfl ho hd rfl rfl
  WQ:=jt.SF (ps:=["self","top","bottom"]) (y:="bottom") (A8 (st:=kq) (i:=1) xQ xR tT xS) fun s dT kV doc pm an ba ct tk o n us ws ho hd hw hl=>match ws,us,hw,hl with | [_],[_,_],_,_=>.of_defaults rfl ho hd rfl rfl
  xD:=⟨HP,HQ,tT⟩
  C0:=C0
  WR:=C0.bh
  Gq:=Gq
  zo:=zo
  NB:=zo.bh
  C1:=C1
  zp:=zp
  NC:=zp.bh
  C2:=C2
  zq:=zq
  ND:=zq.bh
  C3:=C3
  fE:=⟨HR,HS,HU,HV⟩
  NF:=bg X G HJ
  jI:=HW
  NG:=bg X G HK
  C4:=bg X G HL
  Gr:=bg X G HM
  NH:=bg X G HN
  WS:=gz X G HX
  C5:=gz X G HY
  NI:=gz X G HZ
  NJ:=gz X G H_
  Gs:=gz X G Ia
  tH:=gz X G Ib
  zt:=gz X G Ic
  kr:=gz X G Ie
  dY:=gz X G Ig
  jJ:=gz X G Ih
  NK:=gz X G Ii
  NL:=gz X G Ij
  da:=gz X G Ik
  WT:=gz X G Il
  C6:=gz X G Im
  WU:=gz X G Io
  xE:=gz X G Ip
  WV:=gz X G Iq
  NM:=⟨_,bg X G Ir,_,rfl⟩
  NN:=⟨_,bg X G Iu,_,rfl⟩
  NO:=Iv
  C7:=Iw
  Gu:=Iz
  NP:=IA
 }
end My
namespace PySem.W.Fast
def tw11306543283958187253:Unit:=()
def tw7493050152701231225:Unit:=()
def tw15665338625248204749:Unit:=()
def tw13198810427266014466:Unit:=()
def tw7832112193875055959:Unit:=()
def tw263098702373832433:Unit:=()
def tw6150151616246686815:Unit:=()
def tw10661016964736134672:Unit:=()
def tw16873179062294319859:Unit:=()
def tw9626165194348373280:Unit:=()
def tw13149639016886618701:Unit:=()
def tw6909924075244512334:Unit:=()
def tw15296930430826336366:Unit:=()
def tw9716955862308593885:Unit:=()
def tw1215097135818476017:Unit:=()
def tw17781694341184611452:Unit:=()
def tw16607804770406682539:Unit:=()
def tw5195679498583060522:Unit:=()
def tw977408632884882155:Unit:=()
def tw8189751567936030041:Unit:=()
def tw10156504180560160801:Unit:=()
def tw5006247860321951986:Unit:=()
def tw5741421206944585569:Unit:=()
def tw2838400404269215228:Unit:=()
def tw12927719214344497110:Unit:=()
def tw9338252715058350939:Unit:=()
def tw10808473172235532094:Unit:=()
def tw12140560951132391306:Unit:=()
def tw217451608251696423:Unit:=()
def tw1063111659283651139:Unit:=()
def tw15324569378113515314:Unit:=()
def tw2261889075815293445:Unit:=()
def tw11858289011343496724:Unit:=()
def tw4723278586908610410:Unit:=()
def tw954590276055679678:Unit:=()
def tw5634332235907279835:Unit:=()
def tw2746427223518935832:Unit:=()
def tw7927031905474020205:Unit:=()
def tw6886642838815788952:Unit:=()
def tw15076085357083317996:Unit:=()
def tw16975052200123617470:Unit:=()
def tw209130458295179845:Unit:=()
def tw17651362673843842034:Unit:=()
def tw14404049638863516421:Unit:=()
def tw6405432571261064287:Unit:=()
def tw14812620002055651058:Unit:=()
def tw6329404619525304179:Unit:=()
def tw1994684538611317102:Unit:=()
def tw75427835886684143:Unit:=()
def tw4758281483529765747:Unit:=()
def tw12366035994949217563:Unit:=()
def tw5976012163900281251:Unit:=()
def tw8818018381609237062:Unit:=()
def tw3012948041653836597:Unit:=()
def tw5512436597866613898:Unit:=()
def tw4853439201090415259:Unit:=()
def tw7797533028368513413:Unit:=()
def tw7597212326696250491:Unit:=()
def tw9638632818751470946:Unit:=()
def tw9889490031512913509:Unit:=()
def tw2706963280625519774:Unit:=()
def tw15713782799601330336:Unit:=()
def tw4905617328089502459:Unit:=()
def tw17414912639025093328:Unit:=()
def tw13351754904085041515:Unit:=()
def tw8034111872884507551:Unit:=()
def tw11590268427709112667:Unit:=()
def tw448497166829171412:Unit:=()
def tw11364107911360659059:Unit:=()
def tw3139302828920124766:Unit:=()
def tw15214191416001301791:Unit:=()
def tw15575724586761038941:Unit:=()
def tw2753013609417934044:Unit:=()
def tw5035161858085379563:Unit:=()
def tw900318556531022985:Unit:=()
def tw16460780164765640316:Unit:=()
def tw17395056595746280939:Unit:=()
def tw17522971545487917780:Unit:=()
def tw11053158704712563450:Unit:=()
def tw7940438901966193493:Unit:=()
def tw1564898691237763896:Unit:=()
def tw5854231214320324441:Unit:=()
def tw17521556731841352479:Unit:=()
def tw12920326035421731936:Unit:=()
def tw5703200922786245414:Unit:=()
def tw17633611733975083202:Unit:=()
def tw4847038818691601479:Unit:=()
def tw16544227012301904617:Unit:=()
def tw8101799022198251602:Unit:=()
def tw9147638973727300288:Unit:=()
def tw4298707206543715342:Unit:=()
def tw18158587074719017540:Unit:=()
def tw10245509501701034918:Unit:=()
def tw17732226420101525829:Unit:=()
def tw10323038741227799787:Unit:=()
def tw5609765926735388006:Unit:=()
def tw3223473717619695366:Unit:=()
def tw11762805176889813462:Unit:=()
def tw7508116698207454065:Unit:=()
def tw7071280510748649141:Unit:=()
def tw787271741734710028:Unit:=()
def tw1552417340012650749:Unit:=()
def tw10885931259364915464:Unit:=()
def tw12528234828714934981:Unit:=()
def tw7214592789556693162:Unit:=()
def tw13461069399307357087:Unit:=()
def tw6875708519203842655:Unit:=()
def tw16822174504794725610:Unit:=()
def tw2560151767938184033:Unit:=()
def tw11214897848431146234:Unit:=()
def tw16471170051161215339:Unit:=()
def tw4323809847796483681:Unit:=()
def tw6676395437039642807:Unit:=()
def tw7105228836994753887:Unit:=()
def tw15846603072896296306:Unit:=()
def tw17491580636138152314:Unit:=()
def tw113308107591010911:Unit:=()
def tw5479660098192344722:Unit:=()
def tw18021791011086941919:Unit:=()
def tw2798498786880222924:Unit:=()
def tw15834633932115535017:Unit:=()
def tw13788617402251066030:Unit:=()
def tw6067536184520360078:Unit:=()
def tw12551874264669337957:Unit:=()
def tw15442920654682874202:Unit:=()
def tw1527512146940961951:Unit:=()
def tw15687329632979867909:Unit:=()
def tw18224565886008974602:Unit:=()
def tw17573973301415003827:Unit:=()
def tw4665550533874651182:Unit:=()
def tw3785115387869215282:Unit:=()
def tw13926759887357282710:Unit:=()
def tw15890041381388168043:Unit:=()
def tw8959784576168995940:Unit:=()
def tw14965411674771111719:Unit:=()
def tw11452619671707159375:Unit:=()
def tw5108136213838546148:Unit:=()
def tw4602891743874315591:Unit:=()
def tw13440006055866556613:Unit:=()
def tw14187352947990904599:Unit:=()
def tw10726635308083149366:Unit:=()
def tw9425441178808818442:Unit:=()
def tw18074758033888401914:Unit:=()
def tw181235213150340915:Unit:=()
def tw13746338111435741581:Unit:=()
def tw14405741225370618556:Unit:=()
def tw16287825437634899988:Unit:=()
def tw937090141738269043:Unit:=()
def tw15125371826299165011:Unit:=()
def tw2892847193634232490:Unit:=()
def tw4400968233126187795:Unit:=()
def tw12031670193651255452:Unit:=()
def tw14134794632950827743:Unit:=()
def tw17878614974217256011:Unit:=()
def tw18011921529022397399:Unit:=()
def tw6694081083592238433:Unit:=()
def tw5308934202130044046:Unit:=()
def tw5107979894501316732:Unit:=()
def tw1121535354229999911:Unit:=()
def tw433229246478172323:Unit:=()
def tw4087504321524086481:Unit:=()
def tw7874972117121053084:Unit:=()
def tw745448019705474289:Unit:=()
def tw15764130009539414771:Unit:=()
def tw2450757376033163773:Unit:=()
def tw17252853440300178150:Unit:=()
def tw8302052983398868979:Unit:=()
def tw11023071435369322888:Unit:=()
def tw11877246639422403701:Unit:=()
def tw5289687537998935958:Unit:=()
def tw11500677929831072519:Unit:=()
def tw13699869814138018758:Unit:=()
def tw17965396490319624126:Unit:=()
def tw9558691577379567168:Unit:=()
def tw10382948417225934686:Unit:=()
def tw15079611131404436225:Unit:=()
def tw180919959746099935:Unit:=()
def tw11921219124492665115:Unit:=()
def tw8913129056503908726:Unit:=()
def tw4872072451894200426:Unit:=()
def tw933577692766176384:Unit:=()
def tw1713564359430371980:Unit:=()
def tw4152834613260298748:Unit:=()
def tw17924633222314590896:Unit:=()
def tw14835711474163700291:Unit:=()
def tw1446284753373618436:Unit:=()
def tw4286898706946385164:Unit:=()
def tw4345675424577256581:Unit:=()
def tw5929099441367618280:Unit:=()
def tw17348753094369331116:Unit:=()
def tw17800305634538305493:Unit:=()
def tw16993188935464323755:Unit:=()
def tw15092760547541779742:Unit:=()
def tw7251356228290463374:Unit:=()
def tw2505399646173880595:Unit:=()
def tw13523897942979300194:Unit:=()
def tw4407809292576730997:Unit:=()
def tw17556550877652073432:Unit:=()
def tw14553371926970892621:Unit:=()
def tw4381133123979708580:Unit:=()
def tw9514797388707802787:Unit:=()
def tw6741509450156999101:Unit:=()
def tw3435259105495510062:Unit:=()
def tw11807673075475155766:Unit:=()
def tw8841719506746317883:Unit:=()
def tw2471269048575699701:Unit:=()
def tw15147183244137614852:Unit:=()
def tw5243932076326905914:Unit:=()
def tw3973165649179906444:Unit:=()
def tw6287998519247160349:Unit:=()
def tw13798477054738851214:Unit:=()
def tw1696828706682630118:Unit:=()
def tw3515051484273963790:Unit:=()
def tw11522224009992467336:Unit:=()
def tw17669337999029887844:Unit:=()
def tw2952815358093797956:Unit:=()
def tw9320558933366694955:Unit:=()
def tw18066146193103887648:Unit:=()
def tw5357685486968755474:Unit:=()
def tw6983370818231244978:Unit:=()
def tw8675999840016170181:Unit:=()
def tw9328694552246243582:Unit:=()
def tw15557656165368243:Unit:=()
def tw15276009935241508426:Unit:=()
def tw7872590212359523423:Unit:=()
def tw17646537909496553891:Unit:=()
def tw15563750671312945768:Unit:=()
def tw15242214962503692854:Unit:=()
def tw2844931118991791578:Unit:=()
def tw3236690575141371581:Unit:=()
def tw14183176878722572186:Unit:=()
def tw4960550328108262201:Unit:=()
def tw375924555957072051:Unit:=()
def tw5801013325951107468:Unit:=()
def tw15281969577988319070:Unit:=()
def tw17142586173927214590:Unit:=()
def tw18028746484280568442:Unit:=()
def tw8173323085211890431:Unit:=()
def tw4469405175049841093:Unit:=()
def tw10494928544543377409:Unit:=()
def tw14788345786538341841:Unit:=()
def tw7151195426078250798:Unit:=()
def tw3907457606685181411:Unit:=()
def tw7033342718670772929:Unit:=()
def tw16075991411169154133:Unit:=()
def tw12295547360894603739:Unit:=()
def tw4455801570791770762:Unit:=()
def tw15769638827107205704:Unit:=()
def tw17996332783061864972:Unit:=()
def tw8592350440081103872:Unit:=()
def tw12258914800746663750:Unit:=()
def tw6337355621242789512:Unit:=()
def tw18147359013816472784:Unit:=()
def tw9124546004793348595:Unit:=()
def tw8082889234435433623:Unit:=()
def tw16963416550099098243:Unit:=()
def tw8094543528070887902:Unit:=()
def tw1096262669751992394:Unit:=()
def tw17748735161052156018:Unit:=()
def tw4960430261745655321:Unit:=()
def tw14039791790343079898:Unit:=()
def tw9852152415555750348:Unit:=()
def tw5406947209604604254:Unit:=()
def tw857680213565033031:Unit:=()
def tw8225124585507461960:Unit:=()
def tw15732166336960119215:Unit:=()
def tw9920277925251509410:Unit:=()
def tw9611663477298969814:Unit:=()
def tw7764941161951744151:Unit:=()
def tw6345475548269276129:Unit:=()
def tw16312502932012678025:Unit:=()
def tw1258124687490272959:Unit:=()
def tw4617047291430807398:Unit:=()
def tw9234038070783040307:Unit:=()
def tw15232979050578835371:Unit:=()
def tw13041840903834268273:Unit:=()
def tw4394206326698235267:Unit:=()
def tw14301592752069285511:Unit:=()
def tw13536618402134780798:Unit:=()
def tw6513941211652470402:Unit:=()
def tw15966950933684550916:Unit:=()
def tw2699631728275124547:Unit:=()
def tw13983732888814666960:Unit:=()
def tw12434512833463008131:Unit:=()
def tw2297734585664617377:Unit:=()
def tw637118817706177329:Unit:=()
def tw9045159145140412661:Unit:=()
def tw10151215090634833825:Unit:=()
def tw12219107245275273696:Unit:=()
def tw17648503571223814361:Unit:=()
def tw15359192369199433884:Unit:=()
def tw10046529173705575444:Unit:=()
def tw5185430984155003646:Unit:=()
def tw15082704995189886704:Unit:=()
def tw6118909198373997360:Unit:=()
def tw617380668511645344:Unit:=()
def tw4249645344388264156:Unit:=()
def tw12299971185634929391:Unit:=()
def tw14302878777373611882:Unit:=()
def tw17143872166178527213:Unit:=()
def tw14634863316892177903:Unit:=()
def tw12812655145587037533:Unit:=()
def tw8723533287142672773:Unit:=()
def tw15212995682502349034:Unit:=()
def tw8454652034894487163:Unit:=()
def tw39163158642827285:Unit:=()
def tw9931342620482947526:Unit:=()
def tw16873705315684240513:Unit:=()
def tw12551976124877838079:Unit:=()
def tw7435490047475747125:Unit:=()
def tw9302316118894479883:Unit:=()
def tw13652410350199423738:Unit:=()
def tw14885688545102234820:Unit:=()
def tw7891501646389060277:Unit:=()
def tw2613680248446257517:Unit:=()
def tw7247942556905026711:Unit:=()
def tw7436497513306449397:Unit:=()
def tw7864866158001258541:Unit:=()
def tw10327999752246349456:Unit:=()
def tw8918291467052007297:Unit:=()
def tw2095025964740222450:Unit:=()
def tw14422593030850720851:Unit:=()
def tw1097338998053232764:Unit:=()
def tw8657640914591181099:Unit:=()
def tw15811428554210608457:Unit:=()
def tw6470594135125348388:Unit:=()
def tw3339234503171970761:Unit:=()
def tw12488181979409205343:Unit:=()
def tw5675241712391478604:Unit:=()
def tw15486424042201863748:Unit:=()
def tw6544880842793619010:Unit:=()
def tw8769751822693787748:Unit:=()
def tw3158873523002650480:Unit:=()
def tw10456720144408774795:Unit:=()
def tw10090887792244402074:Unit:=()
def tw12050077769948298811:Unit:=()
def tw16921397954966791425:Unit:=()
def tw4464037325108067659:Unit:=()
def tw9912281487576139582:Unit:=()
def tw9494889174299185042:Unit:=()
def tw17031150123734745292:Unit:=()
def tw9368488755076616409:Unit:=()
def tw638287013051338221:Unit:=()
def tw10853707740732364488:Unit:=()
def tw6848039133793893458:Unit:=()
def tw13100672122969938495:Unit:=()
def tw11684793732963515164:Unit:=()
def tw13863087813671740060:Unit:=()
def tw332034979357406412:Unit:=()
def tw14988270192632691187:Unit:=()
def tw7937859260662532864:Unit:=()
def tw11494581117327990501:Unit:=()
def tw8259973828086412640:Unit:=()
def tw13439865368072518569:Unit:=()
def tw6656135413369168083:Unit:=()
def tw16935161037653157758:Unit:=()
def tw16103253591001596438:Unit:=()
def tw4600786898638303637:Unit:=()
def tw4636123474296012676:Unit:=()
end PySem.W.Fast
open PySem PySem.W PyProof.Rows
set_option maxRecDepth 100000 in
set_option maxHeartbeats 0 in
theorem PySem.Challenge.cw_bandwright_k37_factors_of_a_table_holds : PySem.Challenge.rw_bandwright_k37_factors_of_a_table.Holds := by
 w_on;o_law;k_head;(case hw=>w_witness2)
 k_fill
 refine My.walk (l:=PySem.Challenge.rw_bandwright_k37_factors_of_a_table) rfl rfl (fun w h Y=>PySem.W.kIn_of Y) ?F
 case F=>
  intro w mg fa h KX G yF
  have T:∃t,My.Txt (L2.JV KX) mg t:=by
   dsimp only [L2.JV]
   refine' My.aaJ KX G ?HJ ?HK ?HL ?HM ?HN (bg KX G ?abT) (L2.bj (st:=My.BJ) ?abU ?abV ?abW) (bg KX G ?abX) (L2.bj (st:=My.BK) ?abY ?abZ ?ab0) (bg KX G ?ab1) (L2.bj (st:=My.BL) ?ab2 ?ab3 ?ab4) (bg KX G ?ab5) (L2.bj (st:=My.FY) ?ab6 ?ab7 ?ab8) (bg KX G ?ab9) (L2.bj (st:=My.BM) ?ab_ ?acd ?ace) (bg KX G ?acf) (L2.bj (st:=My.BN) ?acg ?ach ?aci) (bg KX G ?acj) (L2.bj (st:=My.BO) ?ack ?acm ?acn) (bg KX G ?aco) (L2.bj (st:=My.BP) ?acp ?acq ?acr) (bg KX G ?acs) (L2.bj (st:=My.BQ) ?acu ?acv ?acw) (bg KX G ?acy) (L2.bj (st:=My.BR) ?acz ?acA ?acB) (bg KX G ?acC) (L2.bj (st:=My.BS) ?acD ?acE ?acF) (bg KX G ?acG) (L2.bj (st:=My.BU) ?acH ?acI ?acJ) (bg KX G ?acK) (L2.bj (st:=My.BV) ?acL ?acM ?acN) (bg KX G ?acO) (L2.bj (st:=My.BW) ?acP ?acQ ?acR) (bg KX G ?acS) (L2.bj (st:=My.BX) ?acT ?acU ?acV) (bg KX G ?acW) (L2.bj (st:=My.BY) ?acX ?acY ?acZ) (bg KX G ?ac0) (L2.bj (st:=My.BZ) ?ac1 ?ac2 ?ac3) (bg KX G ?ac4) (L2.bj (st:=My.B0) ?ac5 ?ac6 ?ac7) (bg KX G ?ac8) (L2.bj (st:=My.B1) ?ac9 ?ac_ ?ada) (bg KX G ?adb) (L2.bj (st:=My.B2) ?ade ?adf ?adg) (bg KX G ?adh) (L2.bj (st:=My.B3) ?adi ?adk ?adl) (bg KX G ?adm) (L2.bj (st:=My.B4) ?adn ?ado ?adp) (bg KX G ?adq) (L2.bj (st:=My.B5) ?ads ?adt ?adu) (bg KX G ?adv) (L2.bj (st:=My.B6) ?adw ?adx ?ady) (bg KX G ?adz) (L2.bj (st:=My.B7) ?adA ?adB ?adC) (bg KX G ?adD) (L2.bj (st:=My.B8) ?adE ?adF ?adG) (bg KX G ?adH) (L2.bj (st:=My.B9) ?adI ?adJ ?adK) (bg KX G ?adL) (L2.bj (st:=My.B_) ?adM ?adN ?adO) (bg KX G ?adP) (L2.bj (st:=My.Ca) ?adQ ?adR ?adS) (bg KX G ?adT) (L2.bj (st:=My.Cb) ?adU ?adV ?adW) (bg KX G ?adX) (L2.bj (st:=My.Cc) ?adY ?adZ ?ad0) (bg KX G ?ad1) (L2.bj (st:=My.Cd) ?ad2 ?ad3 ?ad4) (bg KX G ?ad5) (L2.bj (st:=My.Ce) ?ad6 ?ad7 ?ad8) (bg KX G ?ad9) (L2.bj (st:=My.Cf) ?ad_ ?aea ?aeb) (bg KX G ?aec) (L2.bj (st:=My.Ci) ?aed ?aee ?aef) (bg KX G ?aeg) (L2.bj (st:=My.Cj) ?aeh ?aei ?aej) (bg KX G ?aek) (L2.bj (st:=My.Ck) ?ael ?aem ?aen) (bg KX G ?aeo) (L2.bj (st:=My.Cm) ?aep ?aeq ?aer) (bg KX G ?aes) (L2.bj (st:=My.Cn) ?aet ?aeu ?aev) (bg KX G ?aew) (L2.bj (st:=My.Co) ?aex ?aey ?aez) (bg KX G ?aeA) (L2.bj (st:=My.Cp) ?aeB ?aeC ?aeD) (bg KX G ?aeE) (L2.bj (st:=My.Cq) ?aeF ?aeG ?aeH) (bg KX G ?aeI) (L2.bj (st:=My.Cr) ?aeJ ?aeK ?aeL) (bg KX G ?aeM) (L2.bj (st:=My.Cs) ?aeN ?aeO ?aeP) (bg KX G ?aeQ) (L2.bj (st:=My.Ct) ?aeR ?aeS ?aeT) (bg KX G ?aeU) (L2.bj (st:=My.Cu) ?aeV ?aeW ?aeX) (bg KX G ?aeY) (L2.bj (st:=My.Cv) ?aeZ ?ae0 ?ae1) (bg KX G ?ae2) (L2.bj (st:=My.Cw) ?ae3 ?ae4 ?ae5) (bg KX G ?ae6) (L2.bj (st:=My.Cy) ?ae7 ?ae8 ?ae9) (bg KX G ?ae_) (L2.bj (st:=My.Cz) ?afa ?afb ?afc) (bg KX G ?afd) (L2.bj (st:=My.CA) ?afe ?afg ?afh) (bg KX G ?afi) (L2.bj (st:=My.CB) ?afj ?afk ?afl) (bg KX G ?afm) (L2.bj (st:=My.CD) ?afn ?afo ?afp) (bg KX G ?afq) (L2.bj (st:=My.CF) ?afr ?afs ?aft) (bg KX G ?afu) (L2.bj (st:=My.CG) ?afv ?afw ?afx) (bg KX G ?afy) (L2.bj (st:=My.CH) ?afz ?afA ?afB) (bg KX G ?afC) (L2.bj (st:=My.CI) ?afD ?afE ?afF) (bg KX G ?afG) (L2.bj (st:=My.CJ) ?afH ?afI ?afJ) (bg KX G ?afK) (L2.bj (st:=My.CK) ?afL ?afM ?afN) (bg KX G ?afO) (L2.bj (st:=My.CL) ?afP ?afQ ?afR) (bg KX G ?afS) (L2.bj (st:=My.CM) ?afT ?afU ?afV) ⟨?afW,?afX,?afY,?afZ⟩ (L2.bj (st:=My.CN) ?af0 ?af1 ?af2) ?HP ?HQ ?xQ ?xR ?tT ?xS ⟨?af3,?af4,?af5⟩ (L2.bj (st:=My.FZ) ?af6 ?af7 ?af8) ⟨?af9,?af_,?aga⟩ (L2.bj (st:=My.CO) ?agb ?agc ?agd) ⟨?age,?agf,?agg⟩ (L2.bj (st:=My.CP) ?agh ?agi ?agj) ⟨?agk,?agl,?agm⟩ (L2.bj (st:=My.CQ) ?agn ?ago ?agp) ?HR ?HS ?HU ?HV ?HW ?HX ?HY ?HZ ?H_ ?Ia ?Ib ?Ic ?Ie ?Ig ?Ih ?Ii ?Ij ?Ik ?Il ?Im ?Io ?Ip ?Iq ?Ir ?Iu ?Iv ?Iw ?Iz ?IA
   (case HJ|HK|HL|HM|HN|abT|abU|abV|abW|abX|abY|abZ|ab0|ab1|ab2|ab3|ab4|ab5|ab6|ab7|ab8|ab9|ab_|acd|ace|acf|acg|ach|aci|acj|ack|acm|acn|aco|acp|acq|acr|acs|acu|acv|acw|acy|acz|acA|acB|acC|acD|acE|acF|acG|acH|acI|acJ|acK|acL|acM|acN|acO|acP|acQ|acR|acS|acT|acU|acV|acW|acX|acY|acZ|ac0|ac1|ac2|ac3|ac4|ac5|ac6|ac7|ac8|ac9|ac_|ada|adb|ade|adf|adg|adh|adi|adk|adl|adm|adn|ado|adp|adq|ads|adt|adu|adv|adw|adx|ady|adz|adA|adB|adC|adD|adE|adF|adG|adH|adI|adJ|adK|adL|adM|adN|adO|adP|adQ|adR|adS|adT|adU|adV|adW|adX|adY|adZ|ad0|ad1|ad2|ad3|ad4|ad5|ad6|ad7|ad8|ad9|ad_|aea|aeb|aec|aed|aee|aef|aeg|aeh|aei|aej|aek|ael|aem|aen|aeo|aep|aeq|aer|aes|aet|aeu|aev|aew|aex|aey|aez|aeA|aeB|aeC|aeD|aeE|aeF|aeG|aeH|aeI|aeJ|aeK|aeL|aeM|aeN|aeO|aeP|aeQ|aeR|aeS|aeT|aeU|aeV|aeW|aeX|aeY|aeZ|ae0|ae1|ae2|ae3|ae4|ae5|ae6|ae7|ae8|ae9|ae_|afa|afb|afc|afd|afe|afg|afh|afi|afj|afk|afl|afm|afn|afo|afp|afq|afr|afs|aft|afu|afv|afw|afx|afy|afz|afA|afB|afC|afD|afE|afF|afG|afH|afI|afJ|afK|afL|afM|afN|afO|afP|afQ|afR|afS|afT|afU|afV|afW|afX|afY|afZ|af0|af1|af2|HP|HQ|xQ|xR|tT|xS|af3|af4|af5|af6|af7|af8|af9|af_|aga|agb|agc|agd|age|agf|agg|agh|agi|agj|agk|agl|agm|agn|ago|agp|HR|HS|HU|HV|HW|HX|HY|HZ|H_|Ia|Ib|Ic|Ie|Ig|Ih|Ii|Ij|Ik|Il|Im|Io|Ip|Iq|Ir|Iu=>k_is)
   (case Iv|Iw|Iz|IA=>k_exc)
  obtain ⟨t,T⟩:=T
  have e0:=yF.symm.trans T.Ny
  cases e0
  exact My.aaI T
#print axioms PySem.Challenge.cw_bandwright_k37_factors_of_a_table_holds
