import PyProof.Rows.All
import Wide.All
import OpenK.AllK
import Wide.FinOn
import Lean
import PyProof.EqAt
import PyProof.EqKinds
import PyProof.TupleCall
import PySem.Challenge.RW_bandwright_k68_whole_twofold_undone
set_option Elab.async false
set_option linter.all false
set_option maxRecDepth 100000
abbrev fq:=@decide_eq_false
abbrev pC:=@beq_eq_false_iff_ne
abbrev ak:=@if_pos
abbrev ao:=@if_neg
abbrev bV:=@PySem.Heap.lt_size
abbrev dy:=@Nat.lt_of_lt_of_le
abbrev gz:=@Nat.lt_irrefl
abbrev ft:=@Nat.ne_of_lt
abbrev Bg:=@PySem.W.hideAll_get
abbrev qM:=@List.mem_filter
abbrev fe:=@List.mem_range
abbrev aq:=@Nat.le_trans
abbrev yA:=@Nat.le_of_lt
abbrev Bh:=@List.filterMap_cons
abbrev gB:=@List.mem_cons_self
abbrev gg:=@List.mem_cons_of_mem
abbrev eY:=@List.mem_cons
abbrev kh:=@List.mem_append
abbrev aP:=@List.getElem?_eq_some_iff
abbrev jv:=@List.getElem?_set_self
abbrev jw:=@List.getElem?_set_ne
abbrev cI:=@PySem.wpAny_mono
abbrev nQ:=@PySem.wpAny_truthy_bool
abbrev hJ:=@congrArg
abbrev Bi:=@PySem.wpAny_execs_nil
abbrev cR:=@PySem.wpAny_bind
abbrev yB:=@PySem.wpAny_standAt
abbrev fz:=@PySem.wpAny_pure
abbrev uR:=@PySem.wpAny_newObj_type
abbrev dA:=@PySem.Heap.get?_push_of_some
abbrev qN:=@PySem.wpAny_passesOwn
abbrev dB:=@Bool.false_ne_true
abbrev iB:=@Int.mul_one
abbrev Bj:=@PySem.wpAny_pyIter_list
abbrev gR:=@PySem.Heap.get?_push_size
abbrev aH:=@Nat.le_refl
abbrev Bk:=@PyProof.Rows.callWith_type1
abbrev eI:=@List.mem_append_right
abbrev eJ:=@Nat.zero_le
abbrev yC:=@Int.fdiv_eq_ediv_of_nonneg
abbrev uS:=@Bool.eq_iff_iff
abbrev d7:=@List.size_toArray
abbrev mD:=@beq_iff_eq
abbrev cS:=@List.length_cons
abbrev Bl:=@PySem.W.looks_findIn
abbrev fU:=@List.map_cons
abbrev bL:=@List.length_map
abbrev yE:=@PySem.Heap.size_push
abbrev ki:=@Nat.le_of_eq
abbrev uT:=@Nat.lt_succ_self
abbrev jx:=@PySem.W.kia_one
abbrev Bm:=@PySem.wpAny_Call_Name_kw
abbrev kj:=@Nat.le_succ
abbrev Bn:=@List.nodup_cons
abbrev yF:=@List.of_mem_zip
abbrev Fh:=@Option.isSome_iff_exists
abbrev qO:=@List.length_take
abbrev kl:=@PySem.mem_of_lookup
abbrev fN:=@List.getElem?_append_right
abbrev fD:=@List.getElem?_append_left
abbrev cF:=@List.getElem?_map
abbrev Fi:=@List.getElem?_take_of_lt
abbrev pD:=@List.mem_of_getElem?
abbrev iS:=@List.length_append
abbrev df:=@Int.toNat_natCast
abbrev nS:=@List.length_drop
abbrev gS:=@List.length_set
abbrev uU:=@List.all_cons
abbrev uV:=@Bool.and_eq_true
abbrev nU:=@List.replicate_succ
abbrev uW:=@List.flatten_cons
abbrev gT:=@Nat.succ_mul
abbrev gC:=@List.nil_append
abbrev iT:=@Nat.mul_comm
abbrev gU:=@List.map_nil
abbrev dj:=@decide_eq_true
abbrev bN:=@PySem.W.mg_of
abbrev dq:=@Nat.lt_of_le_of_lt
abbrev Fj:=@PySem.F.typeOf_object_class
abbrev yG:=@PySem.wpAny_loadPart_at
abbrev nV:=@Nat.not_lt_zero
abbrev Fl:=@List.range_succ_eq_map
abbrev k9:=@List.all_eq_true
abbrev Bo:=@Bool.or_eq_true
abbrev Bp:=@decide_eq_true_eq
abbrev Bq:=@List.forall_mem_nil
abbrev pE:=@List.forall_mem_cons
abbrev yH:=@PySem.wpAny_comprehension_free
abbrev Br:=@PySem.wpAny_newFunctionEnv
abbrev Fm:=@PySem.codeAny_compLoop_tests
abbrev km:=@PySem.lookup_relabel_local
abbrev yI:=@PySem.wpAny_tests_nil
abbrev yJ:=@PySem.wpAny_tests_one
abbrev yK:=@PySem.codeAny_compStart_list
abbrev Fn:=@PyProof.noPylong_of_log2
abbrev cu:=@List.getD_eq_getElem?_getD
abbrev i8:=@List.mem_singleton
abbrev eK:=@List.length_range
abbrev aQ:=@List.getElem_mem
abbrev qP:=@Nat.gcd_pos_of_pos_right
abbrev iU:=@Int.natAbs_pos
abbrev yL:=@Int.natAbs_natCast
abbrev eO:=@Nat.pow_le_pow_right
abbrev d4:=@Int.emod_nonneg
abbrev yM:=@Int.ediv_nonneg
abbrev d8:=@Int.emod_lt_of_pos
abbrev yN:=@List.range_succ
abbrev Bs:=@List.filter_append
abbrev Bt:=@List.map_append
abbrev Bu:=@List.filter_cons
abbrev yO:=@List.length_filter_le
abbrev gD:=@of_decide_eq_true
abbrev qQ:=@Int.mul_le_mul_of_nonneg_left
abbrev bU:=@Int.mul_zero
abbrev nX:=@Int.gcd_dvd_left
abbrev mE:=@Int.gcd_dvd_right
abbrev bz:=@Int.natAbs_mul
abbrev i9:=@Int.dvd_trans
abbrev iC:=@Int.mul_ediv_cancel_left
abbrev d5:=@Int.mul_comm
abbrev d6:=@Int.mul_pos
abbrev h_:=@Int.mul_assoc
abbrev yP:=@Int.mul_left_comm
abbrev pF:=@Int.dvd_mul_left
abbrev nY:=@Int.natAbs_ediv_le_natAbs
abbrev qR:=@Int.natAbs_neg
abbrev pG:=@Int.dvd_refl
abbrev uX:=@Int.le_of_dvd
abbrev gW:=@Nat.mul_le_mul_left
abbrev Fo:=@Int.emod_add_mul_ediv
abbrev yQ:=@Int.mul_emod
abbrev qS:=@Int.emod_eq_of_lt
abbrev Bv:=@Int.fdiv_eq_ediv_of_dvd
abbrev jy:=@Int.mul_neg
abbrev pH:=@Int.gcd_one_right
abbrev pI:=@Int.mul_ne_zero
abbrev mF:=@Nat.sub_self
abbrev qT:=@List.not_mem_nil
abbrev nZ:=@Nat.le_add_right
abbrev Bw:=@List.take_length
abbrev yR:=@Nat.lt_succ_of_lt
abbrev Bx:=@List.lookup_cons
abbrev pJ:=@PySem.Around.in1_units
abbrev By:=@PySem.SeqAt.EqAt.of_refs
abbrev k_:=@List.getElem?_zip_eq_some
abbrev yS:=@List.getElem?_eq_none
abbrev d9:=@Nat.mul_le_mul_right
abbrev Fp:=@Classical.choose_spec
abbrev kn:=@Int.zero_dvd
abbrev Bz:=@Int.mul_eq_zero
abbrev BA:=@List.length_eq_zero_iff
abbrev yT:=@Int.add_zero
abbrev mG:=@Int.one_mul
abbrev n5:=@Int.zero_add
abbrev gX:=@Int.zero_mul
abbrev BB:=@List.mem_flatten
abbrev jz:=@List.getElem_map
abbrev yU:=@List.getElem_range
abbrev pK:=@Int.natCast_mul
abbrev lg:=@Int.eq_of_mul_eq_mul_left
abbrev Fq:=@Int.natAbs_dvd_natAbs
abbrev jA:=@Nat.mul_assoc
abbrev aZ:=@Nat.mul_le_mul
abbrev qU:=@Nat.mul_left_comm
abbrev fO:=@Nat.le_mul_of_pos_left
abbrev gE:=@Classical.byContradiction
abbrev uY:=@Nat.zero_add
abbrev BC:=@List.mem_reverse
abbrev ia:=@Nat.le_mul_of_pos_right
abbrev uZ:=@List.ext_getElem
abbrev jB:=@List.length_zip
abbrev Fs:=@List.pairwise_iff_getElem
abbrev gh:=@List.mem_iff_getElem
abbrev BD:=@List.getElem?_drop
abbrev BE:=@List.map_congr_left
abbrev n6:=@Nat.pow_succ
abbrev n8:=@Nat.mul_pos
abbrev BF:=@List.length_zipWith
abbrev Ft:=@List.getElem?_zipWith
abbrev eZ:=@List.mem_map
abbrev yV:=@List.mem_replicate
abbrev Fu:=@List.pairwise_lt_range
abbrev BG:=@Classical.not_imp
abbrev pL:=@Nat.pow_pos
abbrev yW:=@List.getElem_of_mem
abbrev n9:=@Nat.div_add_mod
abbrev fP:=@PySem.PassesOwn.never
abbrev dI:=@PySem.boot_len
abbrev qV:=@PySem.F.excBase_ValueError
abbrev ib:=@List.length_nil
abbrev gY:=@List.cons_append
abbrev bj:=@List.set_cons_zero
abbrev bq:=@List.set_cons_succ
abbrev qW:=@PySem.F.plainAttrs_list
abbrev yX:=@PySem.F.slot_list_append
abbrev yY:=@PySem.F.type_list_append
abbrev yZ:=@List.getElem?_eq_getElem
abbrev jC:=@PySem.W.mg_none_of
abbrev aG:=List (List (Int×Int))
abbrev aD:=List (Int×Int)
abbrev aC:=Nat→Nat→Int
abbrev dU:=PySem.Str→Option PySem.Value
abbrev cO:=PySem.Value→PySem.Shared→Prop
abbrev aJ:=PySem.W.Frag
abbrev bM:=List (PySem.Addr×PySem.Obj)
namespace L2
open PySem PySem.Spec PyProof.Rows
abbrev Key:=Sum Int Str
def Kb:Key→Value→Bool
 | .inl k,v=>Value.isInt k v
 | .inr x,v=>Value.isStrOf x v
def RD(w:World):Key→Int
 | .inl k=>hashInt k
 | .inr x=>hashStr w x
theorem n_:∀{k:Key} {v:Value},Kb k v=true→(∃i t,k=Sum.inl i∧v=Value.int i t)∨(∃x t,k=Sum.inr x∧v=Value.str x t)
 | .inl i,v,h=>by obtain ⟨t,e⟩:=Value.isInt_shape (k:=i) (v:=v) h;exact .inl ⟨i,t,rfl,e⟩
 | .inr x,v,h=>by obtain ⟨t,e⟩:=Value.isStrOf_shape (x:=x) (v:=v) h;exact .inr ⟨x,t,rfl,e⟩
theorem RE(a b:Int):decide ((Sum.inl a:Key)=Sum.inl b)=(a == b):=by
 by_cases e:a=b;·subst e;simp
 ·have h:¬(Sum.inl a:Key)=Sum.inl b:=fun q=>e (Sum.inl.inj q)
  rw [fq h];exact (pC.mpr e).symm
theorem RF(a b:Str):decide ((Sum.inr a:Key)=Sum.inr b)=decide (a=b):=by
 by_cases e:a=b;·subst e;simp
 ·have h:¬(Sum.inr a:Key)=Sum.inr b:=fun q=>e (Sum.inr.inj q)
  rw [fq h,fq e]
theorem RG(a:Int)(b:Str):decide ((Sum.inl a:Key)=Sum.inr b)=false:=fq (fun q=>nomatch q)
theorem RH(a:Str)(b:Int):decide ((Sum.inr a:Key)=Sum.inl b)=false:=fq (fun q=>nomatch q)
def Fv(prog:Program)(w:World):PySem.KeyKind prog w Key where
 is:=Kb
 hash:=RD w
 inj:=fun v a b ha hb=>by
  rcases n_ ha with ⟨i,t,rfl,rfl⟩ | ⟨x,t,rfl,rfl⟩
  ·rcases n_ hb with ⟨j,u,rfl,e⟩ | ⟨y,u,rfl,e⟩
   ·injection e with e1 _;rw [e1]
   ·exact nomatch e
  ·rcases n_ hb with ⟨j,u,rfl,e⟩ | ⟨y,u,rfl,e⟩
   ·exact nomatch e
   ·injection e with e1 _;rw [e1]
 byValue:=fun k v h=>by
  rcases n_ h with ⟨i,t,rfl,rfl⟩ | ⟨x,t,rfl,rfl⟩ <;> rfl
 pyHash:=fun hv h=>by
  rcases n_ hv with ⟨i,t,rfl,rfl⟩ | ⟨x,t,rfl,rfl⟩
  ·exact wpAny_pyHash_int h
  ·exact wpAny_pyHash_str h
 eqBool:=fun hu hv h=>by
  rcases n_ hu with ⟨i,t,rfl,rfl⟩ | ⟨x,t,rfl,rfl⟩
  ·rcases n_ hv with ⟨j,u,rfl,rfl⟩ | ⟨y,u,rfl,rfl⟩
   ·rw [RE] at h;exact wpAny_eqBool_int h
   ·rw [RG] at h;exact SeqAt.EqAt.int_str i t y u _ _ _ _ h
  ·rcases n_ hv with ⟨j,u,rfl,rfl⟩ | ⟨y,u,rfl,rfl⟩
   ·rw [RH] at h;exact SeqAt.EqAt.str_int x t j u _ _ _ _ h
   ·rw [RF] at h;exact wpAny_eqBool_str h
 «strs»:=fun k x t v h=>by
  rcases n_ h with ⟨i,u,rfl,e⟩ | ⟨y,u,rfl,e⟩
  ·exact nomatch e
  ·injection e with e1 _
   subst e1
   cases v <;> rfl
inductive V where
 | aY | bl (b:Bool) | int (i:Int) | str (x:Str) | i_ (b:Array UInt8) | qX (b:UInt64) | ref (a:Addr) | ty (n:String)
 deriving DecidableEq
def RelV:V→Value→Prop
 | .aY,u=>u=Value.none
 | .bl b,u=>u=Value.bool b
 | .int i,u=>∃t,u=Value.int i t
 | .str x,u=>∃t,u=Value.str x t
 | .i_ b,u=>∃t,u=Value.bytes b t
 | .qX b,u=>∃t,u=Value.float b t
 | .ref a,u=>u=Value.ref a
 | .ty n,u=>u=Value.type n
abbrev Vals:List V→List Value→Prop:=Paired RelV
variable {xs:List V} {us:List Value}
theorem Vals.length(r:Vals xs us):xs.length=us.length:=Paired.length r
theorem Vals.get:∀{xs:List V} {us:List Value} {i:Nat} {x:V},Vals xs us→xs[i]?=some x→∃u,us[i]?=some u∧RelV x u
 | _,_,_,_,.nil,e=>by simp at e
 | _,_,0,_,.cons r _,e=>by simp at e;subst e;exact ⟨_,rfl,r⟩
 | _,_,i+1,x,.cons _ t,e=>by
  obtain ⟨u,h1,h2⟩:=Vals.get (i:=i) (x:=x) t (by simpa using e)
  exact ⟨u,by simpa using h1,h2⟩
theorem Vals.set{x:V}{u:Value}(r:RelV x u):∀{xs:List V} {us:List Value} (i:Nat),Vals xs us→Vals (xs.set i x) (us.set i u)
 | _,_,_,.nil=>.nil
 | _,_,0,.cons _ t=>.cons r t
 | _,_,i+1,.cons q t=>.cons q (Vals.set r i t)
theorem Vals.append:∀{xs ys:List V} {us ws:List Value},Vals xs us→Vals ys ws→Vals (xs++ys) (us++ws)
 | _,_,_,_,.nil,s=>s
 | _,_,_,_,.cons r t,s=>.cons r (Vals.append t s)
theorem Vals.take:∀{xs:List V} {us:List Value} (n:Nat),Vals xs us→Vals (xs.take n) (us.take n)
 | _,_,0,_=>.nil
 | _,_,_+1,.nil=>.nil
 | _,_,n+1,.cons r t=>.cons r (Vals.take n t)
theorem Vals.drop:∀{xs:List V} {us:List Value} (n:Nat),Vals xs us→Vals (xs.drop n) (us.drop n)
 | _,_,0,r=>r
 | _,_,_+1,.nil=>.nil
 | _,_,n+1,.cons _ t=>Vals.drop n t
theorem Vals.none_of:∀{xs:List V} {us:List Value} {i:Nat},Vals xs us→xs[i]?=none→us[i]?=none:=fun{xs us i} r e=>by have h1:=r.length;have h2:xs.length≤i:=List.getElem?_eq_none_iff.mp e;exact List.getElem?_eq_none_iff.mpr (by lia)
def mH:Option V→Option Value→Prop
 | some v,some u=>RelV v u
 | none,none=>True
 | _,_=>False
def KV{κ:Type}:List (κ×V)→List (κ×Value)→Prop:=Paired fun(p:κ×V) (q:κ×Value)=>p.1=q.1∧RelV p.2 q.2
def kV:Key→V
 | .inl i=>.int i
 | .inr x=>.str x
inductive HO where
 | lst (xs:List V)
 | tup (xs:List V)
 | dK (c_:List (Key×V)) | dT (c_:List (List Key×V))
 | set (S:Int→Bool) (n:Nat)
 | ins (C dx:Addr) (fs:List (Str×V))
 | own (x:Addr)
 | xd (fs:List (Str×V))
 | met (f x:Addr)
 | lh (lo hi:Int)
 | iD (o:Obj) (u:HO)
 | oa (ps:Array Value)
 | ext (φ:Heap→Prop)
abbrev Hp:=Addr→Option HO
def upd(H:Hp)(a:Addr)(o:HO):Hp:=fun b=>if b=a then some o else H b
variable {H:Hp} {a:Addr} {o:HO}
theorem aA:upd H a o a=some o:=by unfold upd;rw [ak rfl]
theorem bI{b:Addr}(h:b≠a):upd H a o b=H b:=by unfold upd;rw [ao h]
theorem RI{u:HO}:upd (upd H a o) a u=upd H a u:=by funext b;unfold upd;split <;> rfl
theorem gi{b:Addr}(h:H a=some o)(h':H b=none):a≠b:=by intro e;subst e;rw [h] at h';cases h'
section
variable (P:Program) (w:World)
def fQ(H:Hp)(h:Heap)(a:Addr):HO→Prop
 | .lst xs=>xs.length≤sizeLine∧∃(av:List Value) (n:Nat),Vals xs av∧h.get? a=some {cls:=.type "list",data:=.seq av.toArray n}
 | .tup xs=>xs.length≤sizeLine∧∃av:List Value,Vals xs av∧IsTup h a av.toArray
 | .dK c_=>c_.length≤sizeLine∧(a == sysModules)=false∧∃vs,KV c_ vs∧h.DictOf (Fv P w) a vs
 | .dT c_=>c_.length≤sizeLine∧(a == sysModules)=false∧∃xs:List (List Key×Addr×Value),
   Paired (fun(p:List Key×V) (q:List Key×Addr×Value)=>p.1=q.1∧H q.2.1=some (.tup (p.1.map kV))∧RelV p.2 q.2.2) c_ xs ∧
   ∃o es ep,h.get? a=some o∧o.ExactDict∧o.data=.dict es ep∧es.toList=xs.map (entryOfKey (tupleKind (Fv P w)))∧(xs.map (·.1)).Nodup
 | .set S n=>h.SetOf (intKind P w) a S n
 | .ins C dx fs=>H dx=some (.own a)∧fs.length≤1000∧dx≠a∧h.get? a=some (PySem.W.instObj C dx) ∧
   ∃mA,h.Ns1 dx mA∧(∀f,mH (fs.lookup f) (mA f))∧PySem.Within mA (fs.map (·.1))
 | .own _=>∃o,h.get? a=some o
 | .xd fs=>∃mA,h.Ns1 a mA∧∀f,mH (fs.lookup f) (mA f)
 | .lh lo hi=>∃t u v,h.get? a=some {cls:=.type "range",data:=.fields #[.int lo t,.int hi u,.int 1 v]}
 | .iD o u=>h.get? a=some o∧fQ H h a u
 | .oa ps=>h.get? a=some {cls:=.none,data:=.fields ps}
 | .met f x=>h.get? a=some (PySem.W.methodObj (.ref f) (.ref x))
 | .ext φ=>φ h∧(∃o,h.get? a=some o)∧∀h1 h2:Heap,φ h1→(∀o,h1.get? a=some o→h2.get? a=some o)→φ h2
def dC(H:Hp)(h:Heap):Prop:=∀a o,H a=some o→fQ P w H h a o
end
section
variable {P:Program} {w:World} {H H':Hp} {h h':Heap} {a:Addr} {o:HO}
theorem fQ.lt(x:fQ P w H h a o):a<h.objs.size:=by
 cases o with
 | lst xs=>obtain ⟨_,_,_,_,e⟩:=x;exact bV e
 | tup xs=>obtain ⟨_,_,_,p⟩:=x;exact p.lt
 | dK c_=>obtain ⟨_,_,_,_,o,_,_,e,_⟩:=x;exact bV e
 | dT c_=>obtain ⟨_,_,_,_,o,_,_,e,_⟩:=x;exact bV e
 | set S n=>obtain ⟨o,_,_,_,e,_⟩:=x;exact bV e
 | ins C dx fs=>obtain ⟨_,_,_,e,_⟩:=x;exact bV e
 | own y=>obtain ⟨_,e⟩:=x;exact bV e
 | xd fs=>obtain ⟨_,⟨_,_,_,e,_⟩,_⟩:=x;exact bV e
 | lh lo hi=>obtain ⟨_,_,_,e⟩:=x;exact bV e
 | iD ob u=>obtain ⟨e,_⟩:=x;exact bV e
 | oa ps=>exact bV (show h.get? a=some _ from x)
 | met f y=>exact bV (show h.get? a=some _ from x)
 | ext φ=>obtain ⟨_,⟨_,e⟩,_⟩:=x;exact bV e
theorem Paired.Ki{α β:Type}{F G:α→β→Prop}:∀{l₁:List α} {l₂:List β},Paired F l₁ l₂→(∀a b,F a b→G a b)→Paired G l₁ l₂
 | _,_,.nil,_=>.nil
 | _,_,.cons r t,f=>.cons (f _ _ r) (Paired.Ki t f)
theorem fQ.jD(x:fQ P w H h a o)(k:∀b u,(b=a∨H b=some (.own a))→h.get? b=some u→h'.get? b=some u)
  (ho:∀b,H b=some (.own a)→H' b=some (.own a)) (ht:∀b xs,H b=some (.tup xs)→H' b=some (.tup xs)):fQ P w H' h' a o:=by
 induction o with
 | lst xs=>obtain ⟨z,av,n,r,e⟩:=x;exact ⟨z,av,n,r,k _ _ (.inl rfl) e⟩
 | tup xs=>obtain ⟨z,av,r,ob,e,c⟩:=x;exact ⟨z,av,r,ob,k _ _ (.inl rfl) e,c⟩
 | dK c_=>obtain ⟨z,y,vs,r,ob,es,ep,e,c⟩:=x;exact ⟨z,y,vs,r,ob,es,ep,k _ _ (.inl rfl) e,c⟩
 | dT c_=>obtain ⟨z,y,xs,r,ob,es,ep,e,c⟩:=x;exact ⟨z,y,xs,Paired.Ki r fun p q z=>⟨z.1,ht _ _ z.2.1,z.2.2⟩,ob,es,ep,k _ _ (.inl rfl) e,c⟩
 | set S n=>obtain ⟨ob,es,ep,t,e,c⟩:=x;exact ⟨ob,es,ep,t,k _ _ (.inl rfl) e,c⟩
 | ins C dx fs=>obtain ⟨d,z,ne,e,mA,⟨od,es,ep,e2,c⟩,r⟩:=x;exact ⟨ho _ d,z,ne,k _ _ (.inl rfl) e,mA,⟨od,es,ep,k _ _ (.inr d) e2,c⟩,r⟩
 | own y=>obtain ⟨ob,e⟩:=x;exact ⟨ob,k _ _ (.inl rfl) e⟩
 | xd fs=>obtain ⟨mA,⟨od,es,ep,e,c⟩,r⟩:=x;exact ⟨mA,⟨od,es,ep,k _ _ (.inl rfl) e,c⟩,r⟩
 | lh lo hi=>obtain ⟨t,u,v,e⟩:=x;exact ⟨t,u,v,k _ _ (.inl rfl) e⟩
 | iD ob u ih=>obtain ⟨e,q⟩:=x;exact ⟨k _ _ (.inl rfl) e,ih q⟩
 | oa ps=>have e:h.get? a=some {cls:=.none,data:=.fields ps}:=x;show h'.get? a=some {cls:=.none,data:=.fields ps};exact k a _ (.inl rfl) e
 | met f y=>have e:h.get? a=some (PySem.W.methodObj (.ref f) (.ref y)):=x;show h'.get? a=some (PySem.W.methodObj (.ref f) (.ref y));exact k a _ (.inl rfl) e
 | ext φ=>obtain ⟨p,⟨o,e⟩,st⟩:=x;exact ⟨st _ _ p fun o q=>k _ _ (.inl rfl) q,⟨o,k _ _ (.inl rfl) e⟩,st⟩
theorem dC.lt(x:dC P w H h)(e:H a=some o):a<h.objs.size:=(x a o e).lt
theorem dC.fresh(x:dC P w H h)(e:h.objs.size≤a):H a=none:=by
 cases q:H a with
 | none=>rfl
 | some u=>exact absurd (dy (x.lt q) e) (gz _)
theorem dC.kept(x:dC P w H h)(k:∀b u,h.get? b=some u→h'.get? b=some u):dC P w H h':=fun a o e=>(x a o e).jD (fun b u _ q=>k b u q) (fun _ q=>q) fun _ _ q=>q
theorem dC.laid(x:dC P w H h)(k:∀b u,h.get? b=some u→h'.get? b=some u)(hp:h.objs.size≤a)(new:fQ P w (upd H a o) h' a o):dC P w (upd H a o) h':=fun b u e=>by
 have hn:=x.fresh hp;by_cases hb:b=a;·subst hb;rw [aA] at e;cases e;exact new
 ·rw [bI hb] at e
  exact (x b u e).jD (fun c v _ q=>k c v q) (fun c q=>by rw [bI (gi q hn)];exact q) fun c xs q=>by rw [bI (gi q hn)];exact q
end
def Rd(H:Hp)(a:Addr)(u:HO):Prop:=H a=some u∨∃o,H a=some (.iD o u)
variable {P:Program} {w:World} {h:Heap}
theorem Rd.ok{u:HO}(r:Rd H a u)(x:dC P w H h):fQ P w H h a u:=by
 rcases r with r | ⟨o,r⟩;·exact x a u r
 ·obtain ⟨_,q⟩:=x a _ r
  exact q
def BH:Option HO→Prop
 | some (.lst _)=>True
 | some (.dK _)=>True
 | some (.dT _)=>True
 | some (.set _ _)=>True
 | some (.ins _ _ _)=>True
 | some (.ext _)=>True
 | _=>False
section
variable {P:Program} {w:World} {H:Hp} {h h':Heap} {x e:Addr} {o':HO}
theorem dC.write(ok:dC P w H h)(mu:BH (H x))(he:e=x∨H e=some (.own x))(k:∀b u,b≠e→h.get? b=some u→h'.get? b=some u)(u3:∃u,h'.get? e=some u)
  (new:fQ P w (upd H x o') h' x o'):dC P w (upd H x o') h':=fun b u q=>by
 have Kj:∀c y,H c=some (.own y)→c≠x:=fun c y r z=>by subst z;rw [r] at mu;exact mu
 have RJ:∀c xs,H c=some (.tup xs)→c≠x:=fun c xs r z=>by subst z;rw [r] at mu;exact mu
 by_cases hb:b=x;·subst hb;rw [aA] at q;cases q;exact new
 ·rw [bI hb] at q
  by_cases qY:b=e
  ·have q':H b=some (.own x):=by
    rcases he with z | z;·exact absurd (qY.trans z) hb
    ·rw [qY];exact z
   rw [q] at q';cases q';obtain ⟨v,hv⟩:=u3;exact ⟨v,by rw [qY];exact hv⟩
  ·refine (ok b u q).jD (fun c v hc r=>k c v ?_ r) (fun c r=>by rw [bI (Kj c b r)];exact r) fun c xs r=>by rw [bI (RJ c xs r)];exact r
   rcases hc with rfl | hc;·exact qY
   ·rintro rfl
    rcases he with z | z;·exact Kj c b hc z
    ·rw [hc] at z;cases z;exact hb rfl
end
structure Un (fs ex:List Addr) (H H':Hp) (h h':Heap):Prop where
 keep:∀b o,h.get? b=some o→H b=none→b∉fs→b∉ex→h'.get? b=some o
 slot:∀b o,h.get? b=some o→H b=none→b∈fs→b∉ex→∃sl,h'.get? b=some {o with slots:=sl}
 free:∀b o,h.get? b=some o→H b=none→b∉ex→H' b=none
 there:∀b o,h.get? b=some o→b∉ex→∃o',h'.get? b=some o'
 ic:∀b xs,H b=some (.tup xs)→H' b=some (.tup xs)
 gZ:∀b o u,H b=some (.iD o u)→H' b=some (.iD o u)
 ie:∀b ps,H b=some (.oa ps)→∃more,H' b=some (.oa (ps++more))
section
variable {fs RK ex ko:List Addr} {H H1 H2:Hp} {h h1 h2 h':Heap} {a x e:Addr} {o:HO}
theorem Un.any(u:Un fs ex H H1 h h1){b:Addr}{ob:Obj}(q:h.get? b=some ob)(n:H b=none)(hx:b∉ex):∃sl,h1.get? b=some {ob with slots:=sl}:=by
 by_cases hb:b∈fs;·exact u.slot b ob q n hb hx
 ·exact ⟨ob.slots,u.keep b ob q n hb hx⟩
theorem Un.kept(k:∀b u,h.get? b=some u→h'.get? b=some u):Un fs ex H H h h':=
 ⟨fun b ob q _ _ _=>k b ob q,fun b ob q _ _ _=>⟨ob.slots,k b ob q⟩,fun _ _ _ n _=>n,fun b ob q _=>⟨ob,k b ob q⟩,fun _ _ q=>q,fun _ _ _ q=>q,fun _ ps q=>⟨#[],by rw [q];simp⟩⟩
theorem Un.refl:Un fs ex H H h h:=Un.kept fun _ _ q=>q
theorem Un.laid(k:∀b u,h.get? b=some u→h'.get? b=some u)(hp:h.objs.size≤a)(hn:H a=none):Un fs ex H (upd H a o) h h' where
 keep:=fun b u q _ _ _=>k b u q
 slot:=fun b u q _ _ _=>⟨u.slots,k b u q⟩
 free:=fun b u q n _=>by rw [bI (ft (dy (bV q) hp))];exact n
 there:=fun b u q _=>⟨u,k b u q⟩
 ic:=fun b xs q=>by rw [bI (gi q hn)];exact q
 gZ:=fun b u xs q=>by rw [bI (gi q hn)];exact q
 ie:=fun b ps q=>⟨#[],by rw [bI (gi q hn),q];simp⟩
theorem Un.write(mu:BH (H x))(he:e=x∨H e=some (.own x))(k:∀b u,b≠e→h.get? b=some u→h'.get? b=some u)(u3:∃u,h'.get? e=some u):Un fs ex H (upd H x o) h h':=by
 have hx:∀b,H b=none→b≠x:=fun b n z=>by subst z;rw [n] at mu;exact mu
 have hb:∀b,H b=none→b≠e:=fun b n z=>by
  subst z;rcases he with r | r;·exact hx b n r
  ·rw [n] at r;cases r
 have hm:∀b u,H b=some u→¬BH (some u)→b≠x:=fun b u q nm z=>by subst z;rw [q] at mu;exact nm mu
 refine ⟨fun b u q n _ _=>k b u (hb b n) q,fun b u q n _ _=>⟨u.slots,k b u (hb b n) q⟩,fun b u q n _=>by rw [bI (hx b n)];exact n,fun b u q _=>?_,
  fun b xs q=>by rw [bI (hm b _ q fun z=>z)];exact q,fun b u xs q=>by rw [bI (hm b _ q fun z=>z)];exact q,fun b ps q=>⟨#[],by rw [bI (hm b _ q fun z=>z),q];simp⟩⟩
 by_cases qY:b=e;·subst qY;exact u3
 ·exact ⟨u,k b u qY q⟩
end
def BI(h:Heap)(H:Hp):List Addr:=(List.range h.objs.size).filter fun a=>(H a).isSome
def og(h:Heap)(H:Hp):Heap:=PySem.W.hideAll h (BI h H)
theorem RL(h:Heap)(H:Hp):(og h H).objs.size=h.objs.size:=PySem.W.hideAll_size _ _
theorem RM{b:Addr}{o:Obj}(e:h.get? b=some o)(n:H b=none):(og h H).get? b=some o:=
 Bg _ e fun hm=>by have q:(H b).isSome=true:=(qM.mp hm).2;rw [n] at q;simp at q
theorem RN{b:Addr}{o:Obj}(e:(og h H).get? b=some o):h.get? b=some o∧H b=none:=by
 have e':h.get? b=some o:=PySem.W.of_hideAll (BI h H) e;refine ⟨e',?_⟩;cases q:H b with
 | none=>rfl
 | some x=>
  have hm:b∈BI h H:=qM.mpr ⟨fe.mpr (bV e'),by simp [q]⟩
  have z:(og h H).get? b=none:=PySem.W.hideAll_none (BI h H) hm;rw [z] at e;cases e
structure Mod (K:aJ) (mg:dU) (base:Heap):Prop where
 dJ:K.In base
 glob:base.Ns mainGlobals mg
 blt:∃mb,base.Ns builtinsNs mb∧∀x:Str,x ≠ "__name__"→mb x=bootBuiltins x
 nolimit:base.NoLimit
structure Cx where
 prog:Program
 w:World
 K:PySem.W.Frag
 mg:Str→Option Value
 base:Heap
 A:Around
 N:List Str
 s₀:Shared
 H₀:Hp
 env:Env
 outer:List Env
 stack:List Env
 ex:List Addr
 fn:Str→Bool
 calm:Bool
 pn:List (Addr×Obj)
 xe:Value→Shared→Prop
def dh(l:List Env):List Addr:=l.filterMap (·.frame)
abbrev Cx.fs (X:Cx):List Addr:=dh X.outer
def oh(sc:Scope)(x:Str):Prop:=sc.names.lookup x=some .local∨sc.names.lookup x=some .cell∨sc.names.lookup x=some .free
def Loc(sc:Scope)(x:Str):Prop:=sc.names.lookup x=some .local∨sc.names.lookup x=some .cell
def Look(env:Env)(h:Heap)(m:dU)(x:Str)(u:Value):Prop:=
 (env.kindOf x=some .local∧m x=some u)∨((env.kindOf x=some .cell∨env.kindOf x=some .free)∧∃c,env.cells.lookup x=some c∧h.IsCell c (some u))
structure Cx.Ok (X:Cx):Prop where
 mod:Mod X.K X.mg X.base
 kind:X.env.scope.kind=.function
 glob:X.env.globals=mainGlobals
 blt:X.env.builtins=builtinsNs
 above:X.s₀.heap.objs.size≤X.env.locals
 inj:∀x y c,X.env.cells.lookup x=some c→X.env.cells.lookup y=some c→x=y
 has:∀x,(X.env.kindOf x=some .cell∨X.env.kindOf x=some .free)→∃c,X.env.cells.lookup x=some c
 qZ:∀x c,X.fn x=true→X.env.cells.lookup x=some c→X.s₀.heap.objs.size≤c
 hd:X.calm=true→X.A.handled=none
 frames:X.A.frames=some X.stack
 jE:X.stack=X.outer∨(X.stack=X.env::X.outer∧X.env.frame=some X.env.locals)
 Kk:∀b∈X.ex,b≠X.env.locals∧∀x c,X.env.cells.lookup x=some c→c≠b
 bs:∀b o,X.base.get? b=some o→X.s₀.heap.get? b=some o∧X.H₀ b=none
 ig:X.base.objs.size≤X.s₀.heap.objs.size
 oi:∀b o,X.base.get? b=some o→b∉X.ex
 oj:∀b∈X.ex,b∉X.fs
 kv:X.s₀.heap.FunFrames X.base X.outer
 om:∀b∈X.fs,X.H₀ b=none
structure Inv (X:Cx) (pins:bM) (σ:List (Option V)) (H:Hp) (s:Shared):Prop where
 ok:X.Ok
 os:s.os=X.s₀.os
 bare:AllBare s.gens
 base:Un X.fs X.ex X.H₀ H X.s₀.heap s.heap
 loc:∃m,s.heap.Ns X.env.locals m∧∀(i:Nat) (x:Str) (v:V),X.N[i]?=some x→σ[i]?=some (some v)→oh X.env.scope x→∃u,RelV v u∧Look X.env s.heap m x u
 cell:∀x c,X.env.cells.lookup x=some c→∃v,s.heap.IsCell c v
 free:H X.env.locals=none
 ja:∀x c,X.env.cells.lookup x=some c→H c=none
 pin:∀p∈X.pn++pins,s.heap.get? p.1=some p.2∧H p.1=none∧p.1≠X.env.locals∧p.1∉X.fs∧∀v,p.2.data≠.cell v
 aN:dC X.prog X.w H s.heap
 len:σ.length=X.N.length
section
variable {X:Cx} {pins:bM} {σ:List (Option V)} {H H':Hp} {s:Shared} {h':Heap}
theorem Cx.Ok.RO(ok:X.Ok){b:Addr}{o:Obj}(e:X.base.get? b=some o):b∉X.fs:=fun hb=>by have:=(ok.kv.mem hb).1;rw [e] at this;cases this
theorem Inv.bs(I:Inv X pins σ H s):∀b o,X.base.get? b=some o→s.heap.get? b=some o∧H b=none:=fun b o e=>⟨I.base.keep b o (I.ok.bs b o e).1 (I.ok.bs b o e).2 (I.ok.RO e) (I.ok.oi b o e),I.base.free b o (I.ok.bs b o e).1 (I.ok.bs b o e).2 (I.ok.oi b o e)⟩
theorem Inv.bk(I:Inv X pins σ H s):∀b o,X.base.get? b=some o→s.heap.get? b=some o:=fun b o e=>(I.bs b o e).1
theorem Inv.mod(I:Inv X pins σ H s):Mod X.K X.mg X.base:=I.ok.mod
theorem Inv.eP(I:Inv X pins σ H s):X.K.In s.heap:=I.ok.mod.dJ.keeps I.bk
theorem Inv.lt(I:Inv X pins σ H s):X.env.locals<s.heap.objs.size:=let ⟨_,hn,_⟩:=I.loc;hn.lt
theorem Inv.sz(I:Inv X pins σ H s):X.s₀.heap.objs.size≤s.heap.objs.size:=aq I.ok.above (yA I.lt)
theorem Inv.RP(I:Inv X pins σ H s)(h:s.heap.objs.size≤a):a∉X.fs:=fun hb=>by obtain ⟨_,o,ho,_⟩:=I.ok.kv.mem hb;exact absurd (dy (bV ho) (aq I.sz h)) (gz _)
theorem Inv.q5(I:Inv X pins σ H s):∀x c,X.env.cells.lookup x=some c→c≠X.env.locals:=fun x c e z=>by obtain ⟨v,o,ho,hd⟩:=I.cell x c e;obtain ⟨m,⟨o',es,ep,oo,Fw,_⟩,_⟩:=I.loc;rw [z,oo] at ho;cases ho;rw [Fw] at hd;cases hd
theorem Inv.kv(I:Inv X pins σ H s):s.heap.FunFrames X.base X.outer:=by
 have all:∀(l:List Env),(∀b∈dh l,b∈X.fs)→X.s₀.heap.FunFrames X.base l→s.heap.FunFrames X.base l:=by
  intro l
  induction l with
  | nil=>intro _ _;trivial
  | cons env r ih=>
   intro hs hl;obtain ⟨hk,⟨L,o,hf,hn,ho,hd⟩,hr⟩:=hl;have hL:L∈X.fs:=hs L (by unfold dh;rw [Bh,hf];exact gB)
   obtain ⟨sl,e⟩:=I.base.slot L o ho (I.ok.om L hL) hL fun z=>I.ok.oj L z hL;exact ⟨hk,⟨L,_,hf,hn,e,hd⟩,ih (fun b hb=>hs b (by unfold dh;rw [Bh,hf];exact gg _ hb)) hr⟩
 exact all X.outer (fun _ hb=>hb) I.ok.kv
theorem Inv.stack(I:Inv X pins σ H s):s.heap.FunFrames X.base X.stack:=by
 rcases I.ok.jE with e | ⟨e,hf⟩;·rw [e];exact I.kv
 ·rw [e]
  obtain ⟨m,hn,_⟩:=I.loc;refine .cons (by rw [I.ok.kind];decide) hf hn ?_ I.kv
  exact Heap.get?_none_of_le (aq I.ok.ig I.ok.above)
theorem Inv.q8(I:Inv X pins σ H s):∀b∈dh X.stack,b∈X.env.locals::X.fs:=fun b hb=>by
 rcases I.ok.jE with e | ⟨e,hf⟩;·rw [e] at hb;exact gg _ hb
 ·rw [e] at hb
  unfold dh at hb;rw [Bh,hf] at hb;exact hb
theorem Inv.q_(I:Inv X pins σ H s):∀b∈dh X.stack,H b=none:=fun b hb=>by
 rcases eY.mp (I.q8 b hb) with e | hb;·rw [e];exact I.free
 ·obtain ⟨_,o,ho,_⟩:=I.ok.kv.mem hb
  exact I.base.free b o ho (I.ok.om b hb) fun z=>I.ok.oj b z hb
variable {g':Array GenState} {t':Nat} {d':Drawn} {ch:List Addr}
theorem Inv.step(I:Inv X pins σ H s)
  (mI:∀b∈ch,(b∈X.ex∨X.s₀.heap.objs.size≤b)∧b≠X.env.locals∧(∀x c,X.env.cells.lookup x=some c→c≠b)∧∀p∈X.pn++pins,p.1≠b)
  (keep:∀b o,b≠X.env.locals→b∉X.fs→b∉ch→s.heap.get? b=some o→H b=none→h'.get? b=some o)
  (slot:∀b o,b≠X.env.locals→b∈X.fs→b∉ch→s.heap.get? b=some o→H b=none→∃sl,h'.get? b=some {o with slots:=sl}) (free:∀b o,b∉ch→s.heap.get? b=some o→H b=none→H' b=none)
  (there:∀b o,b∉ch→s.heap.get? b=some o→∃o',h'.get? b=some o')
  (ic:∀b xs,H b=some (.tup xs)→H' b=some (.tup xs)) (gZ:∀b o u,H b=some (.iD o u)→H' b=some (.iD o u)) (ie:∀b ps,H b=some (.oa ps)→∃more,H' b=some (.oa (ps++more)))
  (ns:∀m,s.heap.Ns X.env.locals m→h'.Ns X.env.locals m) (aN:dC X.prog X.w H' h') (hg:AllBare g') :
  Inv X pins σ H' {s with heap:=h',gens:=g',drawn:=d',toks:=t'}:=by
 have u4:∀b o,X.s₀.heap.get? b=some o→b≠X.env.locals:=fun b o e=>ft (dy (bV e) I.ok.above);have BJ:∀b o,X.s₀.heap.get? b=some o→b∉X.ex→b∉ch:=fun b o e hx hb=>by
  rcases (mI b hb).1 with z | z;·exact hx z
  ·exact absurd (dy (bV e) z) (gz _)
 have cellK:∀x c,X.env.cells.lookup x=some c→∀v,s.heap.IsCell c v→h'.IsCell c v:=fun x c e v ⟨o,ho,hd⟩=>by
  have y3:c∉ch:=fun z=>(mI c z).2.2.1 x c e rfl;by_cases hc:c∈X.fs
  ·obtain ⟨sl,q⟩:=slot c o (I.q5 x c e) hc y3 ho (I.ja x c e)
   exact ⟨_,q,hd⟩
  ·exact ⟨o,keep c o (I.q5 x c e) hc y3 ho (I.ja x c e),hd⟩
 refine ⟨I.ok,I.os,hg,⟨fun b o e n hb hx=>?_,fun b o e n hb hx=>?_,fun b o e n hx=>?_,fun b o e hx=>?_,fun b xs e=>ic b xs (I.base.ic b xs e),fun b o xs e=>gZ b o xs (I.base.gZ b o xs e),fun b ps e=>?_⟩,?_,fun x c e=>?_,?_,fun x c e=>?_,fun p hp=>?_,aN,I.len⟩;·exact keep b o (u4 b o e) hb (BJ b o e hx) (I.base.keep b o e n hb hx) (I.base.free b o e n hx)
 ·obtain ⟨sl,e1⟩:=I.base.slot b o e n hb hx
  obtain ⟨RQ,e2⟩:=slot b _ (u4 b o e) hb (BJ b o e hx) e1 (I.base.free b o e n hx);exact ⟨RQ,e2⟩
 ·obtain ⟨o',e1⟩:=I.base.there b o e hx
  exact free b o' (BJ b o e hx) e1 (I.base.free b o e n hx)
 ·obtain ⟨o',e1⟩:=I.base.there b o e hx
  exact there b o' (BJ b o e hx) e1
 ·obtain ⟨m1,e1⟩:=I.base.ie b ps e
  obtain ⟨m2,e2⟩:=ie b _ e1;exact ⟨m1++m2,by rw [e2,Array.append_assoc]⟩
 ·obtain ⟨m,hn,hl⟩:=I.loc
  refine ⟨m,ns m hn,fun i x v e1 e2 e3=>?_⟩;obtain ⟨u,r,l⟩:=hl i x v e1 e2 e3;refine ⟨u,r,?_⟩;rcases l with l | ⟨k,c,e,z⟩;·exact .inl l
  ·exact .inr ⟨k,c,e,cellK x c e _ z⟩
 ·obtain ⟨v,z⟩:=I.cell x c e
  exact ⟨v,cellK x c e v z⟩
 ·obtain ⟨m,⟨o,_,_,ho,_⟩,_⟩:=I.loc
  exact free _ o (fun z=>(mI _ z).2.1 rfl) ho I.free
 ·obtain ⟨v,o,ho,hd⟩:=I.cell x c e
  exact free c o (fun z=>(mI c z).2.2.1 x c e rfl) ho (I.ja x c e)
 ·obtain ⟨e,n,ne,nf,d⟩:=I.pin p hp
  have y3:p.1∉ch:=fun z=>(mI p.1 z).2.2.2 p hp rfl;exact ⟨keep p.1 p.2 ne nf y3 e n,free p.1 p.2 y3 e n,ne,nf,d⟩
theorem Inv.un(I:Inv X pins σ H s)(u:Un X.fs [] H H' s.heap h')(aN:dC X.prog X.w H' h'):Inv X pins σ H' {s with heap:=h',toks:=t'}:=by
 obtain ⟨m,⟨o,es,ep,ho,r⟩,_⟩:=id I.loc;obtain ⟨sl,hL⟩:=u.any ho I.free (by simp)
 exact I.step (g':=s.gens) (d':=s.drawn) (ch:=[]) (fun _ z=>nomatch z) (fun b o _ hb _ e n=>u.keep b o e n hb (by simp)) (fun b o _ hb _ e n=>u.slot b o e n hb (by simp)) (fun b o _ e n=>u.free b o e n (by simp)) (fun b o _ e=>u.there b o e (by simp)) u.ic u.gZ u.ie (fun m' hm=>by obtain ⟨o',Fx,Fy,oo,r'⟩:=hm;rw [ho] at oo;cases oo;exact ⟨_,Fx,Fy,hL,r'⟩) aN I.bare
theorem Inv.call(I:Inv X pins σ H s)(u:Un (dh X.stack) ch H H' s.heap h')(aN:dC X.prog X.w H' h')(hg:AllBare g')
  (mI:∀b∈ch,(b∈X.ex∨X.s₀.heap.objs.size≤b)∧b≠X.env.locals∧(∀x c,X.env.cells.lookup x=some c→c≠b)∧∀p∈X.pn++pins,p.1≠b) :
  Inv X pins σ H' {s with heap:=h',gens:=g',drawn:=d',toks:=t'}:=by
 obtain ⟨m,⟨o,es,ep,ho,r⟩,_⟩:=id I.loc;obtain ⟨sl,hL⟩:=u.any ho I.free fun z=>(mI _ z).2.1 rfl;exact I.step (ch:=ch) mI (fun b o hL hb hc e n=>u.keep b o e n (fun z=>(eY.mp (I.q8 b z)).elim hL hb) hc) (fun b o _ _ hc e n=>u.any e n hc) (fun b o hc e n=>u.free b o e n hc) (fun b o hc e=>u.there b o e hc) u.ic u.gZ u.ie (fun m' hm=>by obtain ⟨o',Fx,Fy,oo,r'⟩:=hm;rw [ho] at oo;cases oo;exact ⟨_,Fx,Fy,hL,r'⟩) aN hg
theorem Inv.turned{it:Addr}(I:Inv X pins σ H s)(k:∀b o,b≠it→s.heap.get? b=some o→h'.get? b=some o)(hn:H it=none)(hL:it≠X.env.locals)
  (h1:it∈X.ex∨X.s₀.heap.objs.size≤it) (h2:∀x c,X.env.cells.lookup x=some c→c≠it) (h3:∀p∈X.pn++pins,p.1≠it):Inv X pins σ H {s with heap:=h',toks:=t'}:=by
 have Kt:∀b u,H b=some u→b≠it:=fun b u e z=>by rw [z,hn] at e;cases e
 refine I.step (g':=s.gens) (d':=s.drawn) (ch:=[it]) (fun b hb=>?_) (fun b o _ _ hc e _=>k b o (fun z=>hc (by simp [z])) e) (fun b o _ _ hc e _=>⟨o.slots,k b o (fun z=>hc (by simp [z])) e⟩) (fun _ _ _ _ n=>n)
  (fun b o hc e=>⟨o,k b o (fun z=>hc (by simp [z])) e⟩) (fun _ _ e=>e) (fun _ _ _ e=>e) (fun b ps e=>⟨#[],by rw [e];simp⟩) (fun m hm=>?_) (fun b u e=>?_) I.bare
 ·have e:b=it:=by simpa using hb
  subst e;exact ⟨h1,hL,h2,h3⟩
 ·obtain ⟨o,es,ep,ho,r⟩:=hm
  exact ⟨o,es,ep,k _ o (Ne.symm hL) ho,r⟩
 ·refine (I.aN b u e).jD (fun c v hc q=>k c v ?_ q) (fun _ q=>q) fun _ _ q=>q
  rcases hc with z | z;·rw [z];exact Kt b u e
  ·exact Kt c _ z
theorem Inv.tok(I:Inv X pins σ H s)(t:Nat):Inv X pins σ H {s with toks:=t}:=I.un (h':=s.heap) (t':=t) Un.refl I.aN
theorem Inv.kept(I:Inv X pins σ H s)(k:∀b u,s.heap.get? b=some u→h'.get? b=some u):Inv X pins σ H {s with heap:=h',toks:=t'}:=I.un (Un.kept k) (I.aN.kept k)
theorem Inv.laid(I:Inv X pins σ H s)(k:∀b u,s.heap.get? b=some u→h'.get? b=some u)(hp:s.heap.objs.size≤a)(new:fQ X.prog X.w (upd H a o) h' a o) :
  Inv X pins σ (upd H a o) {s with heap:=h',toks:=t'}:=I.un (Un.laid k hp (I.aN.fresh hp)) (I.aN.laid k hp new)
theorem Inv.write{x e:Addr}(I:Inv X pins σ H s)(mu:BH (H x))(he:e=x∨H e=some (.own x))(k:∀b u,b≠e→s.heap.get? b=some u→h'.get? b=some u)(u3:∃u,h'.get? e=some u)
  (new:fQ X.prog X.w (upd H x o) h' x o):Inv X pins σ (upd H x o) {s with heap:=h',toks:=t'}:=I.un (Un.write mu he k u3) (I.aN.write mu he k u3 new)
theorem Inv.KO{KP:bM}(I:Inv X pins σ H s)(h:∀p∈KP,s.heap.get? p.1=some p.2∧H p.1=none∧p.1≠X.env.locals∧p.1∉X.fs∧∀v,p.2.data≠.cell v):Inv X KP σ H s:=
 ⟨I.ok,I.os,I.bare,I.base,I.loc,I.cell,I.free,I.ja,fun p hp=>(kh.mp hp).elim (fun z=>I.pin p (List.mem_append_left _ z)) (h p),I.aN,I.len⟩
variable {i:Nat} {x:Str}
theorem KQ{N:List Str}(hN:N.Nodup){j:Nat}(a:N[i]?=some x)(b:N[j]?=some x):i=j:=by obtain ⟨h1,e1⟩:=aP.mp a;obtain ⟨h2,e2⟩:=aP.mp b;exact (List.getElem_inj hN).mp (e1.trans e2.symm)
variable {M:Model} {A:Around} {E:cO} {v:V} {u:Value} {Q:Unit→Shared→Prop}
theorem Fz(I:Inv X pins σ H s)(hN:X.N.Nodup)(hi:X.N[i]?=some x)(hx:Loc X.env.scope x)(r:RelV v u)
  (h:∀s',Inv X pins (σ.set i (some v)) H s'→(∃a,Heap.SameBut a s.heap s'.heap∧(a=X.env.locals∨X.env.cells.lookup x=some a))→Q () s') (hf:X.fn x=true∨X.env.scope.names.lookup x=some .local:=by first | exact .inl rfl | exact .inr rfl | assumption):wpAny M A (storeName X.env x u) Q E s:=by
 obtain ⟨m,hn,hl⟩:=id I.loc;have RR:(X.env.scope.kind == .class || (X.env.scope.kind == .module && X.env.locals != X.env.globals))=false:=by rw [I.ok.kind];rfl
 have KR:i<σ.length:=by rw [I.len];exact (aP.mp hi).1
 have q5:=I.q5;have tracked:∀{a:Addr} {h':Heap},(∃o,s.heap.get? a=some o∧H a=none)→Heap.SameBut a s.heap h'→dC X.prog X.w H h':=fun{a h'} ha hs b ob e=>by
  obtain ⟨_,_,KS⟩:=ha;refine (I.aN b ob e).jD (fun c w' hc q=>(hs.2 c ?_).trans q) (fun _ q=>q) fun _ _ q=>q;rintro rfl;rcases hc with rfl | hc;·rw [KS] at e;cases e
  ·rw [KS] at hc;cases hc
 rcases hx with hk | hk
 ·refine wpAny_storeName_local hk hn (fun h' iV hs=>?_) RR
  obtain ⟨oL,_,_,RS,_⟩:=id hn;refine h _ ⟨I.ok,I.os,I.bare,⟨fun b o e n hb hx=>?_,fun b o e n hb hx=>?_,I.base.free,fun b o e hx=>?_,I.base.ic,I.base.gZ,I.base.ie⟩,⟨_,iV,fun j y v' e1 e2 e3=>?_⟩,fun y c e=>?_,I.free,I.ja,fun p hp=>?_,tracked ⟨oL,RS,I.free⟩ hs,by simpa using I.len⟩ ⟨_,hs,.inl rfl⟩
  ·exact (hs.2 b (ft (dy (bV e) I.ok.above))).trans (I.base.keep b o e n hb hx)
  ·obtain ⟨sl,e1⟩:=I.base.slot b o e n hb hx
   exact ⟨sl,(hs.2 b (ft (dy (bV e) I.ok.above))).trans e1⟩
  ·obtain ⟨o',e1⟩:=I.base.there b o e hx
   exact ⟨o',(hs.2 b (ft (dy (bV e) I.ok.above))).trans e1⟩
  ·by_cases hj:j=i
   ·subst hj
    rw [hi] at e1;cases e1;rw [jv KR] at e2;cases e2;exact ⟨u,r,.inl ⟨hk,by simp⟩⟩
   ·rw [jw (Ne.symm hj)] at e2
    obtain ⟨u',r',q⟩:=hl j y v' e1 e2 e3;refine ⟨u',r',?_⟩;rcases q with ⟨k,e⟩ | ⟨k,c,e,z⟩
    ·refine .inl ⟨k,?_⟩
     have:y≠x:=fun e=>hj (KQ hN e1 (e▸hi));simp [this,e]
    ·exact .inr ⟨k,c,e,z.sameBut hs (q5 y c e)⟩
  ·obtain ⟨w',z⟩:=I.cell y c e
   exact ⟨w',z.sameBut hs (q5 y c e)⟩
  ·obtain ⟨e,n,ne,nf,d⟩:=I.pin p hp
   exact ⟨(hs.2 p.1 ne).trans e,n,ne,nf,d⟩
 ·have FA:X.fn x=true:=by
   rcases hf with z | z;·exact z
   ·rw [z] at hk;cases hk
  obtain ⟨c,hc⟩:=I.ok.has x (.inl hk);obtain ⟨w',z⟩:=I.cell x c hc;refine wpAny_storeName_cell I.ok.kind hk hc z (fun h' eQ hs=>?_);obtain ⟨oc,KU,RT⟩:=id z;refine h {s with heap:=h'} ⟨I.ok,I.os,I.bare,⟨fun b o e n hb hx=>?_,fun b o e n hb hx=>?_,I.base.free,fun b o e hx=>?_,I.base.ic,I.base.gZ,I.base.ie⟩,⟨m,hn.sameBut hs (Ne.symm (q5 x c hc)),fun j y v' e1 e2 e3=>?_⟩,fun y c' e=>?_,I.free,I.ja,fun p hp=>?_,tracked ⟨oc,KU,I.ja x c hc⟩ hs,by simpa using I.len⟩ ⟨c,hs,.inr hc⟩
  ·exact (hs.2 b (ft (dy (bV e) (I.ok.qZ x c FA hc)))).trans (I.base.keep b o e n hb hx)
  ·obtain ⟨sl,e1⟩:=I.base.slot b o e n hb hx
   exact ⟨sl,(hs.2 b (ft (dy (bV e) (I.ok.qZ x c FA hc)))).trans e1⟩
  ·obtain ⟨o',e1⟩:=I.base.there b o e hx
   exact ⟨o',(hs.2 b (ft (dy (bV e) (I.ok.qZ x c FA hc)))).trans e1⟩
  ·by_cases hj:j=i
   ·subst hj
    rw [hi] at e1;cases e1;rw [jv KR] at e2;cases e2;exact ⟨u,r,.inr ⟨.inl hk,c,hc,eQ⟩⟩
   ·rw [jw (Ne.symm hj)] at e2
    obtain ⟨u',r',q⟩:=hl j y v' e1 e2 e3;refine ⟨u',r',?_⟩;rcases q with q | ⟨k,c',e,z'⟩;·exact .inl q
    ·refine .inr ⟨k,c',e,z'.sameBut hs ?_⟩
     rintro rfl;exact hj (KQ hN e1 (I.ok.inj _ _ _ e hc▸hi))
  ·by_cases KW:c'=c
   ·subst KW;exact ⟨_,eQ⟩
   ·obtain ⟨w2,z2⟩:=I.cell y c' e
    exact ⟨w2,z2.sameBut hs KW⟩
  ·obtain ⟨e,n,ne,nf,d⟩:=I.pin p hp
   refine ⟨(hs.2 p.1 ?_).trans e,n,ne,nf,d⟩;intro q;rw [q,KU] at e;have q':oc=p.2:=Option.some.inj e;exact d w' (by rw [←q'];exact RT)
theorem y4(I:Inv X pins σ H s)(hN:X.N.Nodup)(hi:X.N[i]?=some x)(hx:Loc X.env.scope x)(r:RelV v u)
  (h:∀s',Inv X pins (σ.set i (some v)) H s'→Q () s') (hf:X.fn x=true∨X.env.scope.names.lookup x=some .local:=by first | exact .inl rfl | exact .inr rfl | assumption):wpAny M A (storeName X.env x u) Q E s:=
 Fz I hN hi hx r (fun s' I' _=>h s' I') hf
theorem Inv.oq{s':Shared}(I:Inv X pins σ H s)(ho:s'.os=s.os)(u:Un (dh X.stack) ch H H' s.heap s'.heap)(aN:dC X.prog X.w H' s'.heap)(hg:AllBare s'.gens)
  (mI:∀b∈ch,(b∈X.ex∨X.s₀.heap.objs.size≤b)∧b≠X.env.locals∧(∀x c,X.env.cells.lookup x=some c→c≠b)∧∀p∈X.pn++pins,p.1≠b):Inv X pins σ H' s':=by
 obtain ⟨h',g',d',t',o'⟩:=s';have e:o'=s.os:=ho;subst e;exact I.call (g':=g') (t':=t') (d':=d') u aN hg mI
end
abbrev XK:=Value→Option Addr→Hp→Prop
abbrev St:=List (Option V)
abbrev VK:=V→Hp→Prop
abbrev TE:=St→Hp→VK→Prop
abbrev TT:=St→Hp→(Bool→Hp→Prop)→Prop
abbrev TA:=St→Hp→(List V→Hp→Prop)→Prop
structure Ends where
 nx:St→Hp→Prop
 rt:VK
 bk:St→Hp→Prop:=fun _ _=>False
 ct:St→Hp→Prop:=fun _ _=>False
abbrev TS:=Ends→St→Hp→Prop
def EP(X:Cx)(pins:bM)(σ:St)(Q:VK)(u:Value)(s':Shared):Prop:=∃v H',Inv X pins σ H' s'∧RelV v u∧Q v H'
def TP(X:Cx)(pins:bM)(σ:St)(Q:Bool→Hp→Prop)(b:Bool)(s':Shared):Prop:=∃H',Inv X pins σ H' s'∧Q b H'
def AP(X:Cx)(pins:bM)(σ:St)(Q:List V→Hp→Prop)(us:List Value)(s':Shared):Prop:=∃vs H',Inv X pins σ H' s'∧Vals vs us∧Q vs H'
def SP(X:Cx)(pins:bM)(D:Ends)(f:Flow)(s':Shared):Prop:=
 match f with
 | .next=>∃σ' H',Inv X pins σ' H' s'∧D.nx σ' H'
 | .brk=>∃σ' H',Inv X pins σ' H' s'∧D.bk σ' H'
 | .cont=>∃σ' H',Inv X pins σ' H' s'∧D.ct σ' H'
 | .ret u=>∃v σ' H',Inv X pins σ' H' s'∧RelV v u∧D.rt v H'
def PE(X:Cx)(e:Expr)(t:TE):Prop:=
 ∀(pins:bM) (s:Shared) (σ:St) (H:Hp) (Q:VK),Inv X pins σ H s→t σ H Q→wpAny (model X.prog X.w) X.A (eval e X.env) (EP X pins σ Q) X.xe s
def PT(X:Cx)(e:Expr)(t:TT):Prop:=
 ∀(pins:bM) (s:Shared) (σ:St) (H:Hp) (Q:Bool→Hp→Prop),Inv X pins σ H s→t σ H Q→wpAny (model X.prog X.w) X.A (isTrue e X.env (eval e X.env)) (TP X pins σ Q) X.xe s
def PW(X:Cx)(e:Expr)(t:TT):Prop:=
 ∀(whole:Sem Value) (pins:bM) (s:Shared) (σ:St) (H:Hp) (Q:Bool→Hp→Prop),Inv X pins σ H s→t σ H Q→wpAny (model X.prog X.w) X.A (isTrue e X.env whole) (TP X pins σ Q) X.xe s
variable {X:Cx}
theorem PW.pt{e:Expr}{t:TT}(h:PW X e t):PT X e t:=h _
def PA(X:Cx)(es:List Expr)(t:TA):Prop:=
 ∀(pos:Pos) (pins:bM) (s:Shared) (σ:St) (H:Hp) (Q:List V→Hp→Prop),Inv X pins σ H s→t σ H Q→wpAny (model X.prog X.w) X.A (spliced (backTo pos (starEach es X.env))) (AP X pins σ Q) X.xe s
def PS(X:Cx)(st:Stmt)(t:TS):Prop:=
 ∀(pins:bM) (s:Shared) (σ:St) (H:Hp) (D:Ends),Inv X pins σ H s→t D σ H→wpAny (model X.prog X.w) X.A (exec st X.env) (SP X pins D) X.xe s
def gk(X:Cx)(st:List Stmt)(t:TS):Prop:=
 ∀(pins:bM) (s:Shared) (σ:St) (H:Hp) (D:Ends),Inv X pins σ H s→t D σ H→wpAny (model X.prog X.w) X.A (execs st X.env) (SP X pins D) X.xe s
variable {M:Model} {A:Around} {E:cO} {s:Shared}
theorem aV{α:Type}{t:Sem α}{Q Q':α→Shared→Prop}(h:wpAny M A t Q E s)(hQ:∀a s,Q a s→Q' a s):wpAny M A t Q' E s:=cI h hQ fun _ _ x=>x
section
variable {X:Cx}
variable {pins:bM} {σ:St}
theorem bin{a b:Expr}{ta tb:TE}(ha:PE X a ta)(hb:PE X b tb){R:V→V→Hp→Prop}(I:Inv X pins σ H s)(h:ta σ H fun x H1=>tb σ H1 fun y H2=>R x y H2)
  {α:Type} {Q:α→Shared→Prop} {f:Value→Value→Sem α}
  (hf:∀v u s2 x y H2,Inv X pins σ H2 s2→RelV x v→RelV y u→R x y H2→wpAny (model X.prog X.w) X.A (f v u) Q X.xe s2) :
  wpAny (model X.prog X.w) X.A (eval a X.env) (fun v s₁=>wpAny (model X.prog X.w) X.A (eval b X.env) (fun u s₂=>wpAny (model X.prog X.w) X.A (f v u) Q X.xe s₂) X.xe s₁) X.xe s:=by
 refine aV (ha pins s σ H _ I h) fun v s1 ⟨x,H1,I1,r1,q1⟩=>?_;refine aV (hb pins s1 σ H1 _ I1 q1) fun u s2 ⟨y,H2,I2,r2,q2⟩=>?_;exact hf v u s2 x y H2 I2 r1 r2 q2
def pM(i:Nat):TE:=fun σ H Q=>∃v,σ[i]?=some (some v)∧Q v H
def tC(v:V):TE:=fun _ H Q=>Q v H
variable {x:Str} {pos:Pos}
theorem RU{i:Nat}(hN:X.N[i]?=some x)(hv:oh X.env.scope x)(hd:(x == ("__debug__":Str))=false:=by decide)(gF:(x == ("__classdict__":Str))=false:=by decide):PE X (.Name x pos) (pM i):=by
 intro pins s σ H Q I h;obtain ⟨v,e,h⟩:=h;obtain ⟨m,hn,hl⟩:=I.loc;obtain ⟨u,r,l⟩:=hl i x v hN e hv;have fin:EP X pins σ Q u s:=⟨v,H,I,r,h⟩;rcases l with ⟨hk,hm⟩ | ⟨hk,c,hc,BK⟩;·exact wpAny_Name (wpAny_loadName_local I.ok.kind hk hn hm fin) hd
 ·rcases hk with hk | hk
  ·exact wpAny_Name (wpAny_loadName_cell I.ok.kind hk hc BK fin) hd
  ·exact wpAny_Name (wpAny_loadName_free I.ok.kind hk hc BK fin gF) hd
theorem aj{i j pos}:PE X (.Constant (.int i) j pos) (tC (.int i)):=fun _ _ _ H _ I h=>wpAny_Constant_int ⟨.int i,H,I.tok _,⟨_,rfl⟩,h⟩
theorem kx{b j pos}:PE X (.Constant (.bool b) j pos) (tC (.bl b)):=fun _ _ _ H _ I h=>Constant_bool ⟨.bl b,H,I,rfl,h⟩
theorem ky{j pos}:PE X (.Constant .none j pos) (tC .aY):=fun _ _ _ H _ I h=>Constant_none ⟨.aY,H,I,rfl,h⟩
theorem fV{x j pos}:PE X (.Constant (.str x) j pos) (tC (.str x)):=fun _ _ _ H _ I h=>Calls.Constant_str ⟨.str x,H,I.tok _,⟨_,rfl⟩,h⟩
def Gl(X:Cx)(x:Str):Prop:=X.env.kindOf x=some .globalImplicit
variable {u:Value} {Q:cO}
theorem BL(I:Inv X pins σ H s)(hg:Gl X x)(hm:X.mg x=some u)(h:Q u s)
  (hd:(x == ("__debug__":Str))=false:=by decide):wpAny (model X.prog X.w) X.A (eval (.Name x pos) X.env) Q E s:=
 Calls.Name_function_global I.ok.kind hg (Calls.loadGlobal_global (by rw [I.ok.glob];exact I.mod.glob.keeps I.bk) hm h) hd
theorem u5(I:Inv X pins σ H s)(hg:Gl X x)(hm:X.mg x=none)(hv:bootBuiltins x=some u)(h:Q u s)
  (hn:x ≠ "__name__":=by decide) (hd:(x == ("__debug__":Str))=false:=by decide):wpAny (model X.prog X.w) X.A (eval (.Name x pos) X.env) Q E s:=by
 obtain ⟨mb,h1,h2⟩:=I.mod.blt;exact Calls.Name_function_global I.ok.kind hg (Calls.loadGlobal_builtin (by rw [I.ok.glob];exact I.mod.glob.keeps I.bk) hm (by rw [I.ok.blt];exact h1.keeps I.bk) ((h2 x hn).trans hv) h) hd
variable {v:V}
theorem BM(hg:Gl X x)(hm:X.mg x=some u)(r:RelV v u)(hd:(x == ("__debug__":Str))=false:=by decide):PE X (.Name x pos) (tC v):=
 fun _ _ _ H _ I h=>BL I hg hm ⟨v,H,I,r,h⟩ hd
theorem ot(hg:Gl X x)(hm:X.mg x=none)(hv:bootBuiltins x=some u)(r:RelV v u)(hn:x ≠ "__name__":=by decide)(hd:(x == ("__debug__":Str))=false:=by decide):PE X (.Name x pos) (tC v):=
 fun _ _ _ H _ I h=>u5 I hg hm hv ⟨v,H,I,r,h⟩ hn hd
variable {a b:Expr} {ta tb:TE} {pos:Pos}
def PC(X:Cx)(op:CmpOp)(a b:Expr)(t:TE):Prop:=
 ∀(pins:bM) (s:Shared) (σ:St) (H:Hp) (Q:VK),Inv X pins σ H s→t σ H Q→
  wpAny (model X.prog X.w) X.A (eval a X.env) (fun v s₁=>wpAny (model X.prog X.w) X.A (eval b X.env) (fun u s₂=>wpAny (model X.prog X.w) X.A (compareOp op v u) (EP X pins σ Q) X.xe s₂) X.xe s₁) X.xe s
def tB(t:TE):TT:=fun σ H Q=>t σ H fun x H1=>∃c,x=.bl c∧Q c H1
variable {t:TE}
theorem aff{op:CmpOp}(h:PC X op a b t)(h1:behindInMarks op b=false:=by first | exact ahr _ (by decide) (by decide) | rfl):PT X (.Compare a [op] [b] pos) (tB t):=by intro pins s σ H Q I hw;refine wpAny_isTrue_Compare1 (aV (h pins s σ H _ I hw) fun v s1 h1=>aV h1 fun u s2 h2=>aV h2 fun c s3 ⟨x,H1,I1,r1,q1⟩=>?_) h1;obtain ⟨d,rfl,q⟩:=q1;cases r1;exact nQ ⟨H1,I1,q⟩
theorem iW{e:Expr}(h:PE X e t)(he:∀whole,isTrue e X.env whole=(do let v ←whole;standAt e.pos;holding [v] (truthy v)):=by intro _;rfl):PT X e (tB t):=by
 intro pins s σ H Q I hw
 refine isTrue_plain (aV (h pins s σ H _ I hw) fun v s1 ⟨x,H1,I1,r1,q1⟩=>?_) (he _)
 obtain ⟨d,rfl,q⟩:=q1
 cases r1
 exact nQ ⟨H1,I1,q⟩
variable {tA BN:TT} {rest:List Expr}
def RV(t u:TT):TT:=fun σ H Q=>t σ H fun c H1=>if c=true then u σ H1 Q else Q false H1
def KY(t u:TT):TT:=fun σ H Q=>t σ H fun c H1=>if c=true then Q true H1 else u σ H1 Q
def RW(t:TT):TT:=fun σ H Q=>t σ H fun c H1=>Q (!c) H1
theorem pw_and1(ha:PT X a tA):PW X (.BoolOp .And [a] pos) tA:=by
 intro wh pins s σ H Q I h;refine isTrue_and (aV (ha pins s σ H Q I h) fun c s1 e=>?_);cases c with
 | true=>exact isTrue_and_nil e
 | false=>exact e
theorem pw_or1(ha:PT X a tA):PW X (.BoolOp .Or [a] pos) tA:=by
 intro wh pins s σ H Q I h;refine isTrue_or (aV (ha pins s σ H Q I h) fun c s1 e=>?_);cases c with
 | false=>exact isTrue_or_nil e
 | true=>exact e
theorem pw_and(ha:PT X a tA)(hb:PW X (.BoolOp .And (b::rest) pos) BN):PW X (.BoolOp .And (a::b::rest) pos) (RV tA BN):=by
 intro wh pins s σ H Q I h;refine isTrue_and (aV (ha pins s σ H _ I h) fun c s1 ⟨H1,I1,q1⟩=>?_);cases c with
 | true=>exact hb wh pins s1 σ H1 Q I1 q1
 | false=>exact ⟨H1,I1,q1⟩
theorem pw_or(ha:PT X a tA)(hb:PW X (.BoolOp .Or (b::rest) pos) BN):PW X (.BoolOp .Or (a::b::rest) pos) (KY tA BN):=by
 intro wh pins s σ H Q I h;refine isTrue_or (aV (ha pins s σ H _ I h) fun c s1 ⟨H1,I1,q1⟩=>?_);cases c with
 | true=>exact ⟨H1,I1,q1⟩
 | false=>exact hb wh pins s1 σ H1 Q I1 q1
theorem kz(ha:PT X a tA):PT X (.UnaryOp .Not a pos) (RW tA):=by intro pins s σ H Q I h;exact isTrue_not (ha pins s σ H (fun c H1=>Q (!c) H1) I h)
def RX(ta tb:TE):TE:=fun σ H Q=>ta σ H fun x H1=>∃c,x=.bl c∧if c=true then tb σ H1 Q else Q (.bl false) H1
def RY(ta:TE):TE:=fun σ H Q=>ta σ H fun x H1=>∃c,x=.bl c∧Q (.bl (!c)) H1
theorem y6{op}(h:PE X a t):PE X (.BoolOp op [a] pos) t:=fun pins s σ H Q I hw=>BoolOp_one (h pins s σ H Q I hw)
theorem rf(ha:PE X a ta)(hb:PE X (.BoolOp .And (b::rest) pos) tb):PE X (.BoolOp .And (a::b::rest) pos) (RX ta tb):=by
 intro pins s σ H Q I h;refine BoolOp_and (aV (ha pins s σ H _ I h) fun v s1 ⟨x,H1,I1,r1,q1⟩=>?_);obtain ⟨c,rfl,q1⟩:=q1;cases r1;refine nQ ?_;cases c with
 | true=>exact hb pins s1 σ H1 Q I1 q1
 | false=>exact ⟨.bl false,H1,I1,rfl,q1⟩
theorem KZ(ha:PE X a ta):PE X (.UnaryOp .Not a pos) (RY ta):=by intro pins s σ H Q I h;refine UnaryOp_ (aV (ha pins s σ H _ I h) fun v s1 ⟨x,H1,I1,r1,q1⟩=>?_);obtain ⟨c,rfl,q1⟩:=q1;cases r1;exact not_of (nQ ⟨.bl (!c),H1,I1,rfl,q1⟩)
def FC(t:TT)(ta tb:TE):TE:=fun σ H Q=>t σ H fun c H1=>if c=true then ta σ H1 Q else tb σ H1 Q
theorem u6{c:Expr}(hc:PT X c tA)(ha:PE X a ta)(hb:PE X b tb):PE X (.IfExp c a b pos) (FC tA ta tb):=by
 intro pins s σ H Q I h;refine wpAny_IfExp (aV (hc pins s σ H _ I h) fun d s1 ⟨H1,I1,q1⟩=>?_);cases d with
 | true=>exact ha pins s1 σ H1 Q I1 q1
 | false=>exact hb pins s1 σ H1 Q I1 q1
end
def bP(K:aJ)(H:Hp)(a:Addr)(xs:List V):Prop:=
 Rd H a (.lst xs) ∨
  ∃(o:Obj) (av:Array Value) (n:Nat),K.lookup a=some o∧o.cls=.type "list"∧o.dict=none∧o.data=.seq av n∧av.size≤sizeLine∧Vals xs av.toList
def fX(K:aJ)(H:Hp)(a:Addr)(xs:List V):Prop:=
 Rd H a (.tup xs) ∨
  ∃(o:Obj) (av:Array Value) (n:Nat),K.lookup a=some o∧o.cls=.type "tuple"∧o.data=.seq av n∧av.size≤sizeLine∧Vals xs av.toList
def RZ:Value→Option V
 | .none=>some .aY
 | .bool b=>some (.bl b)
 | .int i _=>some (.int i)
 | .str x _=>some (.str x)
 | .bytes b _=>some (.i_ b)
 | .float b _=>some (.qX b)
 | .ref a=>some (.ref a)
 | .type n=>some (.ty n)
 | _=>none
variable {x:V} {u:Value}
theorem RelV.abs(r:RelV x u):RZ u=some x:=by
 cases x with
 | aY=>cases r;rfl
 | bl _=>cases r;rfl
 | int _=>obtain ⟨t,rfl⟩:=r;rfl
 | str _=>obtain ⟨t,rfl⟩:=r;rfl
 | i_ _=>obtain ⟨t,rfl⟩:=r;rfl
 | qX _=>obtain ⟨t,rfl⟩:=r;rfl
 | ref _=>cases r;rfl
 | ty _=>cases r;rfl
theorem RelV.inj{y:V}(r:RelV x u)(q:RelV y u):x=y:=Option.some.inj (r.abs.symm.trans q.abs)
theorem Vals.inj:∀{xs ys:List V} {us:List Value},Vals xs us→Vals ys us→xs=ys
 | _,_,_,.nil,.nil=>rfl
 | _,_,_,.cons r t,.cons r' t'=>by rw [r.inj r',Vals.inj t t']
section
variable {X:Cx} {pins:bM} {σ:St} {H:Hp} {s:Shared} {a:Addr} {xs ys:List V}
variable {K:aJ}
theorem bP.of(h:H a=some (.lst xs)):bP K H a xs:=.inl (.inl h)
theorem fX.of(h:H a=some (.tup xs)):fX K H a xs:=.inl (.inl h)
theorem Inv.list(I:Inv X pins σ H s)(h:bP X.K H a xs):∃av:List Value,Vals xs av∧PlainL s.heap a av.toArray∧xs.length≤sizeLine:=by
 rcases h with h | ⟨o,av,n,hk,hc,hd,hs,hz,r⟩
 ·obtain ⟨z,av,n,r,e⟩:=h.ok I.aN
  exact ⟨av,r,⟨_,n,e,rfl,rfl,rfl⟩,z⟩
 ·refine ⟨av.toList,r,⟨o,n,I.eP a o hk,hc,hd,by simpa using hs⟩,?_⟩
  have e:=r.length;simp only [Array.length_toList] at e;lia
theorem Inv.tuple(I:Inv X pins σ H s)(h:fX X.K H a xs):∃av:List Value,Vals xs av∧IsTup s.heap a av.toArray∧xs.length≤sizeLine:=by
 rcases h with h | ⟨o,av,n,hk,hc,hs,hz,r⟩
 ·obtain ⟨z,av,r,p⟩:=h.ok I.aN
  exact ⟨av,r,p,z⟩
 ·refine ⟨av.toList,r,⟨o,I.eP a o hk,hc,n,by simpa using hs⟩,?_⟩
  have e:=r.length;simp only [Array.length_toList] at e;lia
theorem Inv.FD(I:Inv X pins σ H s)(h:bP X.K H a xs)(h':bP X.K H a ys):xs=ys:=by
 obtain ⟨av,r,⟨o,n,e,_,_,d⟩,_⟩:=I.list h;obtain ⟨its',r',⟨o',n',e',_,_,d'⟩,_⟩:=I.list h';rw [e] at e';cases e';rw [d] at d';injection d' with d1 _;have:av=its':=by simpa using hJ Array.toList d1
 subst this;exact r.inj r'
end
abbrev Cx.mJ (X:Cx) (E:cO):Cx:={X with xe:=E}
abbrev Cx.rg (X:Cx):Cx:=X.mJ fun _ _=>False
theorem Cx.Ok.mJ(ok:X.Ok)(E:cO):(X.mJ E).Ok:=
 ⟨ok.mod,ok.kind,ok.glob,ok.blt,ok.above,ok.inj,ok.has,ok.qZ,ok.hd,ok.frames,ok.jE,ok.Kk,ok.bs,ok.ig,ok.oi,ok.oj,ok.kv,ok.om⟩
theorem Cx.Ok.pN(ok:(X.mJ E).Ok):X.Ok:=
 ⟨ok.mod,ok.kind,ok.glob,ok.blt,ok.above,ok.inj,ok.has,ok.qZ,ok.hd,ok.frames,ok.jE,ok.Kk,ok.bs,ok.ig,ok.oi,ok.oj,ok.kv,ok.om⟩
section
variable {X:Cx} {pins:bM} {σ:St} {H:Hp} {s:Shared} {E:cO}
theorem Inv.mJ(I:Inv X pins σ H s)(E:cO):Inv (X.mJ E) pins σ H s:=⟨I.ok.mJ E,I.os,I.bare,I.base,I.loc,I.cell,I.free,I.ja,I.pin,I.aN,I.len⟩
theorem Inv.pN(I:Inv (X.mJ E) pins σ H s):Inv X pins σ H s:=⟨I.ok.pN,I.os,I.bare,I.base,I.loc,I.cell,I.free,I.ja,I.pin,I.aN,I.len⟩
theorem SP.pN{D:Ends}{f:Flow}{s':Shared}(h:SP (X.mJ E) pins D f s'):SP X pins D f s':=by
 cases f with
 | next=>obtain ⟨σ',H',I,q⟩:=h;exact ⟨σ',H',I.pN,q⟩
 | brk=>obtain ⟨σ',H',I,q⟩:=h;exact ⟨σ',H',I.pN,q⟩
 | cont=>obtain ⟨σ',H',I,q⟩:=h;exact ⟨σ',H',I.pN,q⟩
 | ret u=>obtain ⟨v,σ',H',I,r,q⟩:=h;exact ⟨v,σ',H',I.pN,r,q⟩
theorem gk.rg{st:List Stmt}{t:TS}(h:gk X.rg st t):gk X st t:=fun pins s σ H D I hw=>cI (h pins s σ H D (I.mJ _) hw) (fun _ _ q=>q.pN) fun _ _ z=>False.elim z
end
section
variable {X:Cx} {st:Stmt} {rest:List Stmt} {t u:TS} {e:Expr} {te:TE} {pos:Pos}
def gq:TS:=fun D σ H=>D.nx σ H
def FE(t u:TS):TS:=fun D σ H=>t {D with nx:=u D} σ H
theorem bW:gk X [] gq:=fun _ _ σ H _ I h=>Bi ⟨σ,H,I,h⟩
theorem au(h1:PS X st t)(h2:gk X rest u):gk X (st::rest) (FE t u):=by
 intro pins s σ H D I h;refine wpAny_execs_cons (aV (h1 pins s σ H {D with nx:=u D} I h) fun f s1 q=>?_);cases f with
 | next=>obtain ⟨σ',H',I',q⟩:=q;exact h2 pins s1 σ' H' D I' q
 | ret v=>exact q
 | brk=>exact q
 | cont=>exact q
theorem az(h1:PS X st t):gk X [st] t:=by
 intro pins s σ H D I h;refine wpAny_execs_cons (aV (h1 pins s σ H D I h) fun f s1 q=>?_);cases f with
 | next=>exact Bi q
 | ret v=>exact q
 | brk=>exact q
 | cont=>exact q
theorem Inv.quiet{pins:bM}{σ:St}(I:Inv X pins σ H s):interactive X.env=false:=by simp [interactive,I.ok.kind]
def K0(te:TE):TS:=fun D σ H=>te σ H fun _ H1=>D.nx σ H1
theorem mK(he:PE X e te)(hs:swapsWith e none pos.line X.env=pure false:=by rfl):PS X (.Expr e pos) (K0 te):=by intro pins s σ H D I h;exact wpAny_Expr_any (aV (he pins s σ H _ I h) fun v s1 ⟨x,H1,I1,r1,q1⟩=>⟨σ,H1,I1,q1⟩) I.quiet hs
def K3(te:TE):TS:=fun D σ H=>te σ H D.rt
theorem aR(he:PE X e te):PS X (.Return (some e) pos) (K3 te):=by intro pins s σ H D I h;exact wpAny_Return_some (aV (he pins s σ H _ I h) fun v s1 ⟨x,H1,I1,r1,q1⟩=>⟨x,σ,H1,I1,r1,q1⟩)
def u7(c:TT)(t u:TS):TS:=fun D σ H=>c σ H fun b H1=>if b=true then t D σ H1 else u D σ H1
theorem bQ{c:Expr}{a b:List Stmt}{tc:TT}(hc:PT X c tc)(ha:gk X a t)(hb:gk X b u):PS X (.If c a b pos) (u7 tc t u):=by
 intro pins s σ H D I h;refine wpAny_If (aV (hc pins s σ H _ I h) fun d s1 ⟨H1,I1,q1⟩=>?_);cases d with
 | true=>exact ha pins s1 σ H1 D I1 q1
 | false=>exact hb pins s1 σ H1 D I1 q1
def R5:TS:=fun _ _ _=>False
theorem R6{R7:List Stmt}:gk X R7 R5:=fun _ _ _ _ _ _ h=>h.elim
end
abbrev TG:=V→St→Hp→(St→Hp→Prop)→Prop
abbrev rh:=List V→St→Hp→(St→Hp→Prop)→Prop
def PG(X:Cx)(target:Expr)(t:TG):Prop:=
 ∀(pins:bM) (s:Shared) (σ:St) (H:Hp) (v:V) (u:Value) (Q:St→Hp→Prop),Inv X pins σ H s→RelV v u→t v σ H Q→
  wpAny (model X.prog X.w) X.A (assign target X.env u) (fun _ s'=>∃σ' H',Inv X pins σ' H' s'∧Q σ' H') X.xe s
def BO(X:Cx)(ts:List Expr)(t:rh):Prop:=
 ∀(pins:bM) (s:Shared) (σ:St) (H:Hp) (vs:List V) (us:List Value) (Q:St→Hp→Prop),Inv X pins σ H s→Vals vs us→t vs σ H Q→
  wpAny (model X.prog X.w) X.A (assignInOrder ((assignEach ts X.env).map (·.2)) us) (fun _ s'=>∃σ' H',Inv X pins σ' H' s'∧Q σ' H') X.xe s
abbrev FF:=V→V→V→Hp→(Hp→Prop)→Prop
def K4(X:Cx)(t:FF):Prop:=
 ∀(pins:bM) (s:Shared) (σ:St) (H:Hp) (o i v:V) (ov iv u:Value) (Q:Hp→Prop),Inv X pins σ H s→RelV o ov→RelV i iv→RelV v u→t o i v H Q→
  wpAny (model X.prog X.w) X.A (setItem ov iv u) (fun _ s'=>∃H',Inv X pins σ H' s'∧Q H') X.xe s
abbrev BP:=V→V→Hp→VK→Prop
def K5(X:Cx)(op:Operator)(t:BP):Prop:=
 ∀(pins:bM) (s:Shared) (σ:St) (H:Hp) (x y:V) (v u:Value) (Q:VK),Inv X pins σ H s→RelV x v→RelV y u→t x y H Q→
  wpAny (model X.prog X.w) X.A (inplaceOp op v u) (EP X pins σ Q) X.xe s
section
variable {X:Cx} {pos:Pos}
def aT(i:Nat):TG:=fun v σ H Q=>Q (σ.set i (some v)) H
variable {i:Nat}
theorem d_{x:Str}(hN:X.N.Nodup)(hi:X.N[i]?=some x)(hx:Loc X.env.scope x)(hf:X.fn x=true∨X.env.scope.names.lookup x=some .local:=by first | exact .inl rfl | exact .inr rfl | assumption):PG X (.Name x pos) (aT i):=by intro pins s σ H v u Q I r h;exact wpAny_assign_Name (y4 I hN hi hx r (fun s' I'=>⟨_,H,I',h⟩) hf)
def FG:rh:=fun vs σ H Q=>vs=[]∧Q σ H
def y7(t:TG)(u:rh):rh:=fun vs σ H Q=>∃v r,vs=v::r∧t v σ H fun σ' H'=>u r σ' H' Q
theorem y8:BO X [] FG:=by intro pins s σ H vs us Q I r h;obtain ⟨e,h⟩:=h;subst e;cases r;exact assignInOrder_nil ⟨σ,H,I,h⟩
variable {es:List Expr}
theorem mM{e:Expr}{t:TG}{u:rh}(h1:PG X e t)(h2:BO X es u)
  (hs:(assignEach (e::es) X.env).map (·.2)=assign e X.env::(assignEach es X.env).map (·.2):=by rfl):BO X (e::es) (y7 t u):=by
 intro pins s σ H vs us Q I r h;obtain ⟨v,vr,e1,h⟩:=h;subst e1;cases r with
 | cons r rr=>rw [hs];refine assignInOrder_cons (aV (h1 pins s σ H _ _ _ I r h) fun _ s1 ⟨σ1,H1,I1,q1⟩=>?_);exact h2 pins s1 σ1 H1 _ _ Q I1 rr q1
def FH(K:aJ)(n:Nat)(t:rh):TG:=fun v σ H Q=>∃a xs,v=.ref a∧fX K H a xs∧xs.length=n∧t xs σ H Q
theorem y_{k:Nat}{t:rh}{n:Nat}(hc:X.calm=true)(h:BO X es t)
  (hn:(assignEach es X.env).length=n:=by rfl) (FI:(assignEach es X.env).findIdx? (·.1)=none:=by rfl):PG X (.Tuple es k pos) (FH X.K n t):=by
 intro pins s σ H v u Q I r hw;obtain ⟨a,xs,e1,hq,hl,hw⟩:=hw;subst e1;cases r;obtain ⟨av,rv,ht,hz⟩:=I.tuple hq;refine assign_Tuple_tuple (I.ok.hd hc) ht (by simp [hn,←hl,rv.length]) FI fun h' hx=>?_
 have I1:Inv X pins σ H {s with heap:=h'}:=I.kept (t':=s.toks) fun b o e=>hx b o (ft (bV e)) e;exact h pins _ σ H xs _ Q I1 (by simpa using rv) hw
def R8(to ti:TE)(t:FF):TG:=fun v σ H Q=>to σ H fun o H1=>ti σ H1 fun i H2=>t o i v H2 fun H3=>Q σ H3
theorem kC{o i:Expr}{to ti:TE}{t:FF}(ho:PE X o to)(hi:PE X i ti)(hs:K4 X t)
  (ha:∀v,assign (.Subscript o i pos) X.env v=(do
   let ov ←holding [v] (eval o X.env)
   let iv ←holding [v,ov] (eval i X.env)
   standAt pos
   holding [v,ov,iv] (setItem ov iv v)
   release [v,ov,iv] []):=by intro _;rfl):PG X (.Subscript o i pos) (R8 to ti t):=by
 intro pins s σ H v u Q I r h
 rw [ha]
 refine cR (wpAny_holding (aV (ho pins s σ H _ I h) fun ov s1 ⟨x,H1,I1,r1,q1⟩=>?_))
 refine cR (wpAny_holding (aV (hi pins s1 σ H1 _ I1 q1) fun iv s2 ⟨y,H2,I2,r2,q2⟩=>?_))
 refine cR (yB (cR (wpAny_holding (aV (hs pins s2 σ H2 x y v ov iv u _ I2 r1 r2 r q2) fun _ s3 ⟨H3,I3,q3⟩=>?_))))
 exact wpAny_release ⟨σ,H3,I3,q3⟩
def ou(te:TE)(g:TG):TS:=fun D σ H=>te σ H fun x H1=>g x σ H1 D.nx
theorem kD{tg e:Expr}{te:TE}{g:TG}(he:PE X e te)(hg:PG X tg g)(hs:swapsWithSole [tg] e pos.line X.env=pure false:=by rfl)(hw:swappedStores [tg] e X.env=pure none:=by rfl)
  (h1:(assignEach [tg] X.env).map (·.2)=[assign tg X.env]:=by rfl):PS X (.Assign [tg] e pos) (ou te g):=by
 intro pins s σ H D I h;refine wpAny_Assign_stores (aV (he pins s σ H _ I h) fun v s1 ⟨x,H1,I1,r1,q1⟩=>?_) hs hw;rw [h1];exact aV (hg pins s1 σ H1 x v _ I1 r1 q1) fun _ s2 q=>q
variable {te:TE} {pos':Pos}
theorem R9{x:Str}{e:Expr}(hN:X.N.Nodup)(hi:X.N[i]?=some x)(hx:Loc X.env.scope x)(he:PE X e te)(hs:swapsWith e (some (.Name x pos')) pos.line X.env=pure false:=by rfl)(hf:X.fn x=true∨X.env.scope.names.lookup x=some .local:=by first | exact .inl rfl | exact .inr rfl | assumption) :
  PS X (.Assign [.Name x pos'] e pos) (ou te (aT i)):=by
 intro pins s σ H D I h;refine wpAny_Assign_Name (aV (he pins s σ H _ I h) fun v s1 ⟨y,H1,I1,r1,q1⟩=>?_) hs;exact y4 I1 hN hi hx r1 (fun s2 I2=>⟨_,H1,I2,q1⟩) hf
def R_(i j:Nat)(ta:TA):TS:=fun D σ H=>ta σ H fun vs H1=>∃v w,vs=[v,w]∧D.nx ((σ.set i (some v)).set j (some w)) H1
theorem Sa{j:Nat}{x y:Str}{a b:Expr}{ta:TA}{px py pt:Pos}{kt k2 FJ}(hc:X.calm=true)(hN:X.N.Nodup)(hi:X.N[i]?=some x)(hj:X.N[j]?=some y)(FK:i≠j)
  (hx:X.env.scope.names.lookup x=some .local) (hy:X.env.scope.names.lookup y=some .local) (ha:PA X [a,b] ta)
  (hw:swappedStores [.Tuple [.Name x px,.Name y py] kt pt] (.Tuple [a,b] k2 FJ) X.env=pure (some [x,y]))
  (hs:swapsWithSole [.Tuple [.Name x px,.Name y py] kt pt] (.Tuple [a,b] k2 FJ) pos.line X.env=pure false:=by rfl) :
  PS X (.Assign [.Tuple [.Name x px,.Name y py] kt pt] (.Tuple [a,b] k2 FJ) pos) (R_ i j ta):=by
 intro pins s σ H D I h
 rw [exec_Assign_arm]
 refine cR (yB ?_)
 rw [hs]
 refine cR (fz ?_)
 rw [ao (by decide)]
 refine cR (Tuple_ (aV (ha _ pins s σ H _ I h) fun us s1 ⟨vs,H1,I1,r1,q1⟩=>?_))
 obtain ⟨v,w,e1,q1⟩:=q1
 subst e1
 obtain ⟨u1,u2,rfl,rv,za⟩:∃u1 u2,us=[u1,u2]∧RelV v u1∧RelV w u2:=by
  cases r1 with
  | cons p q=>
   cases q with
   | cons p' q'=>
    cases q'
    exact ⟨_,_,rfl,p,p'⟩
 refine uR ?_ (by show 2≤sizeLine;decide)
 have I2:Inv X pins σ H1 {s1 with heap:=s1.heap.push {cls:=.type "tuple",data:=.seq [u1,u2].toArray}}:=I1.kept (t':=s1.toks) fun b o e=>dA _ e
 rw [hw]
 refine cR (fz ?_)
 show wpAny (model X.prog X.w) X.A (do rule "assign.swapped-stores";let items ←unpackItems (.ref s1.heap.objs.size) 2 none;assignInOrder [fun v=>bindName X.env y v,fun v=>bindName X.env x v] items.reverse;pure Flow.next) _ _ _
 refine cR (wpAny_rule (cR (unpackItems_tuple (items:=#[u1,u2]) (I.ok.hd hc) (IsTup.new s1.heap _) fun h' zb=>?_)))
 have I3:=I2.kept (h':=h') (t':=s1.toks) fun b o e=>zb b o (ft (bV e)) e
 show wpAny _ _ (assignInOrder [fun v=>bindName X.env y v,fun v=>bindName X.env x v] [u2,u1] >>= fun _=>pure Flow.next) _ _ _
 refine cR (assignInOrder_cons (wpAny_bindName (y4 I3 hN hj (.inl hy) za (fun s2 I4=>?_) (.inr hy))))
 refine assignInOrder_cons (wpAny_bindName (y4 I4 hN hi (.inl hx) rv (fun s3 I5=>assignInOrder_nil (fz ?_)) (.inr hx)))
 rw [List.set_comm _ _ (Ne.symm FK)] at I5
 exact ⟨_,H1,I5,q1⟩
def Sb(i:Nat)(te:TE)(ti:BP):TS:=fun D σ H=>∃x,σ[i]?=some (some x)∧te σ H fun y H1=>ti x y H1 fun z H2=>D.nx (σ.set i (some z)) H2
theorem Sd{x:Str}{e:Expr}{op:Operator}{ti:BP}(hN:X.N.Nodup)(hi:X.N[i]?=some x)(hx:Loc X.env.scope x)(he:PE X e te)(ho:K5 X op ti)(hf:X.fn x=true∨X.env.scope.names.lookup x=some .local:=by first | exact .inl rfl | exact .inr rfl | assumption) :
  PS X (.AugAssign (.Name x pos') op e pos) (Sb i te ti):=by
 intro pins s σ H D I h;obtain ⟨v,e1,h⟩:=h;obtain ⟨m,hn,hl⟩:=I.loc;have Se:oh X.env.scope x:=by rcases hx with k | k;exact .inl k;exact .inr (.inl k)
 obtain ⟨u,r,l⟩:=hl i x v hi e1 Se;refine wpAny_AugAssign_Name ?_;have go:wpAny (model X.prog X.w) X.A (eval e X.env) (fun w s₂=>wpAny (model X.prog X.w) X.A (inplaceOp op u w) (fun r s₃=>wpAny (model X.prog X.w) X.A (storeName X.env x r) (fun _=>SP X pins D .next) X.xe s₃) X.xe s₂) X.xe s:=by refine aV (he pins s σ H _ I h) fun w s1 ⟨y,H1,I1,r1,q1⟩=>?_;refine aV (ho pins s1 σ H1 v y u w _ I1 r r1 q1) fun z s2 ⟨zv,H2,I2,r2,q2⟩=>?_;exact y4 I2 hN hi hx r2 (fun s3 I3=>⟨_,H2,I3,q2⟩) hf
 rcases l with ⟨hk,hm⟩ | ⟨hk,c,hc,BK⟩;·exact wpAny_loadName_local I.ok.kind hk hn hm go
 ·rcases hk with hk | hk
  ·exact wpAny_loadName_cell I.ok.kind hk hc BK go
  ·rcases hx with k | k
   ·have:X.env.scope.names.lookup x=some .free:=hk
    rw [k] at this;cases this
   ·have:X.env.scope.names.lookup x=some .free:=hk
    rw [k] at this;cases this
def Sf(f:Int→Int→Int):BP:=fun x y H Q=>∃i j,x=.int i∧y=.int j∧Q (.int (f i j)) H
theorem Sg:K5 X .Add (Sf fun i j=>i+j):=by intro pins s σ H x y v u Q I r1 r2 h;obtain ⟨i,j,e1,e2,q⟩:=h;subst e1;subst e2;obtain ⟨t,rfl⟩:=r1;obtain ⟨t',rfl⟩:=r2;exact iadd_int ⟨.int _,H,I.tok _,⟨_,rfl⟩,q⟩
end
section
variable {X:Cx} {pos:Pos}
def Sh(c:TT)(tb:TS):TS:=fun D σ H=>∃W:Nat→St→Hp→Prop,(∃m,W m σ H)∧∀m σ H,W m σ H→
 c σ H fun b H1=>if b=true then ∃N:St→Hp→Prop,(∀σ' H',N σ' H'→∃m',m'<m∧W m' σ' H')∧tb {D with nx:=N,ct:=N,bk:=D.nx} σ H1 else D.nx σ H1
theorem zc{c:Expr}{body:List Stmt}{tc:TT}{tb:TS}(hp:PassesOwn (model X.prog X.w) X.A X.env X.xe)(hc:PT X c tc)(hb:gk X body tb):PS X (.While c body [] pos) (Sh tc tb):=by
 intro pins s σ H D I h;obtain ⟨W,⟨m0,w0⟩,turn⟩:=h;refine wpAny_While (codeAny_whileLoop (fun n s'=>∃σ' H',Inv X pins σ' H' s'∧W n σ' H') ?_ m0 ⟨σ,H,I,w0⟩);rintro n s1 ⟨σ1,H1,I1,w1⟩;refine qN hp (aV (hc pins s1 σ1 H1 _ I1 (turn n σ1 H1 w1)) fun b s2 ⟨H2,I2,q2⟩=>?_);cases b with
 | true=>
  obtain ⟨N,hN,q2⟩:=q2;rw [ak rfl];refine qN hp (aV (hb pins s2 σ1 H2 _ I2 q2) fun f s3 q3=>?_);cases f with
  | next=>obtain ⟨σ3,H3,I3,n3⟩:=q3;obtain ⟨m',hm,w3⟩:=hN σ3 H3 n3;exact ⟨m',hm,σ3,H3,I3,w3⟩
  | cont=>obtain ⟨σ3,H3,I3,n3⟩:=q3;obtain ⟨m',hm,w3⟩:=hN σ3 H3 n3;exact ⟨m',hm,σ3,H3,I3,w3⟩
  | brk=>exact q3
  | ret v=>exact q3
 | false=>rw [ao dB];exact Bi ⟨σ1,H2,I2,q2⟩
end
structure It where
 go:Nat→Hp→Prop
 fR:Nat→Hp→V→Hp→Prop
 stop:Nat→Hp→Prop
def lj(X:Cx)(pins:bM)(H:Hp)(b:Addr):Prop:=
 H b=none∧b≠X.env.locals∧b∉X.fs∧(b∈X.ex∨X.s₀.heap.objs.size≤b)∧(∀x c,X.env.cells.lookup x=some c→c≠b)∧∀p∈X.pn++pins,p.1≠b
variable {σ:St}
theorem Inv.FL{pins:bM}{H':Hp}{b:Addr}(I:Inv X pins σ H s)(hb:s.heap.objs.size≤b)(hn:H' b=none):lj X pins H' b:=by
 refine ⟨hn,Nat.ne_of_gt (dy I.lt hb),I.RP hb,.inr (aq I.sz hb),fun x c e z=>?_,fun p hp z=>?_⟩
 ·obtain ⟨v,q⟩:=I.cell x c e
  exact absurd (dy q.lt (by rw [z];exact hb)) (gz _)
 ·exact absurd (dy (bV (I.pin p hp).1) (by rw [z];exact hb)) (gz _)
structure Turn (P:Program) (w:World) (K:aJ) (tg:Expr) (J:It) (fp:List Addr) (it:Addr) (tn:Nat→Heap→Prop):Prop where
 mem:it∈fp
 obj:∀i h,tn i h→∀b∈fp,∃o,h.get? b=some o∧∀v,o.data≠.cell v
 keep:∀i h h',tn i h→(∀b∈fp,∀o,h.get? b=some o→h'.get? b=some o)→tn i h'
 item:∀(X:Cx),X.prog=P→X.w=w→X.K=K→X.calm=true→∀(i:Nat) (pins:bM) (s:Shared) (σ:St) (H:Hp) (E:cO),Inv X pins σ H s→(∀b∈fp,lj X pins H b)→tn i s.heap→J.go i H→
  wpAny (model P w) X.A (pyNext (.ref it)) (fun r s1=>∃u,r=some u ∧
   wpAny (model P w) X.A (letOwnedTupleGo tg (.ref it) u) (fun _ s2=>∃x H',Inv X pins σ H' s2∧RelV x u∧J.fR i H x H'∧tn (i+1) s2.heap∧∀b∈fp,H' b=none) E s1) E s
 done:∀(X:Cx),X.prog=P→X.w=w→X.K=K→X.calm=true→∀(i:Nat) (pins:bM) (s:Shared) (σ:St) (H:Hp) (E:cO),Inv X pins σ H s→(∀b∈fp,lj X pins H b)→tn i s.heap→J.stop i H→
  wpAny (model P w) X.A (pyNext (.ref it)) (fun r s1=>r=none∧Inv X pins σ H s1) E s
 self:∀(A:Around) (i:Nat) (s:Shared) (Q:cO) (E:cO),tn i s.heap→Q (.ref it) s→wpAny (model P w) A (pyIter (.ref it)) Q E s
abbrev TI:=St→Hp→(It→Hp→Prop)→Prop
def K6(X:Cx)(pins:bM)(σ:St)(tg:Expr)(R:It→Hp→Prop)(rj:Value)(s2:Shared):Prop:=
 ∃(it:Addr) (fp:List Addr) (tn:Nat→Heap→Prop) (J:It) (H':Hp),rj=.ref it∧Inv X pins σ H' s2∧Turn X.prog X.w X.K tg J fp it tn∧tn 0 s2.heap∧(∀b∈fp,lj X pins H' b)∧R J H'
def PI(X:Cx)(tg iter:Expr)(wi:TI):Prop:=
 ∀(pins:bM) (s:Shared) (σ:St) (H:Hp) (R:It→Hp→Prop),Inv X pins σ H s→wi σ H R→
  wpAny (model X.prog X.w) X.A (eval iter X.env) (fun v s1=>wpAny (model X.prog X.w) X.A (pyIter v) (K6 X pins σ tg R) X.xe s1) X.xe s
variable {tg:Expr}
theorem K7{it:Addr}{o:Obj}{n:String}{vs:Array Value}{Q:Unit→Shared→Prop}(ho:s.heap.get? it=some o)(hc:o.cls=.type n)(hd:o.data=.fields vs)
    (hn:["enumerate","zip","dict_itemiterator","dict_reverseitemiterator","odict_iterator","itertools.zip_longest","itertools.pairwise"].contains n=false) (hQ:Q () s):wpAny M A (letOwnedTupleGo tg (.ref it) u) Q E s:=by
  unfold letOwnedTupleGo
  cases tg <;> first
    | exact fz hQ
    | (cases u <;> first
        | exact fz hQ
        | (refine cR (wpAny_load ho ?_)
           rw [hc,hd];show wpAny M A (if (["enumerate","zip","dict_itemiterator","dict_reverseitemiterator","odict_iterator","itertools.zip_longest","itertools.pairwise"].contains n && vs[0]? == some (rawInt _))=true then _ else _) Q E s
           rw [ao (by intro h;rw [hn,Bool.false_and] at h;cases h)]
           exact fz hQ))
def u9(K:aJ)(a:Addr):It:=
 ⟨fun i H=>∃xs x,bP K H a xs∧xs[i]?=some x,fun i H x H'=>H'=H∧∀xs,bP K H a xs→xs[i]?=some x,fun i H=>∃xs,bP K H a xs∧xs.length≤i⟩
def pO(lo:Int)(n:Nat):It:=⟨fun i _=>i<n,fun i H x H'=>H'=H∧x=.int (lo+i),fun i _=>n≤i⟩
variable {K:aJ}
theorem Si(a it:Addr):Turn P w K tg (u9 K a) [it] it (fun i h=>h.IsListIter it a i) where
 mem:=by simp
 obj:=fun i h st b hb=>by
  have e:b=it:=by simpa using hb
  subst e;obtain ⟨o,e,c,d⟩:=st;exact ⟨o,e,fun v z=>by rw [d] at z;cases z⟩
 keep:=fun i h h' st k=>st.at fun o e=>k it (by simp) o e
 item:=by
  intro X hP hw hK hc i pins s σ H E I hf st hg;subst hP hw hK;obtain ⟨xs,x,hq,hx⟩:=hg;obtain ⟨av,rv,p,hz⟩:=I.list hq;obtain ⟨u,hu,ru⟩:=rv.get hx;obtain ⟨f0,f1,f2,f3,f4,f5⟩:=hf it (by simp)
  refine wpAny_pyNext_list_item st p.isList (x:=u) (by simpa using hu) fun h' zd sb=>?_
  have I1:Inv X pins σ H {s with heap:=h'}:=I.turned (t':=s.toks) (fun b o hb e=>(sb.2 b hb).trans e) f0 f1 f3 f4 f5;obtain ⟨o,e,c,d⟩:=id zd;exact ⟨u,rfl,K7 (s:={s with heap:=h'}) e c d (by decide) ⟨x,H,I1,ru,⟨rfl,fun ys hy=>by rw [I.FD hy hq];exact hx⟩,zd,fun b hb=>(hf b hb).1⟩⟩
 done:=by
  intro X hP hw hK hc i pins s σ H E I hf st hg;subst hP hw hK;obtain ⟨xs,hq,hx⟩:=hg;obtain ⟨av,rv,p,hz⟩:=I.list hq;obtain ⟨f0,f1,f2,f3,f4,f5⟩:=hf it (by simp)
  have hl:=rv.length;exact wpAny_pyNext_list_end (I.ok.hd hc) st p.isList (by simp;lia) fun h' eb=>⟨rfl,I.turned (t':=s.toks) (fun b o hb e=>eb b o hb e) f0 f1 f3 f4 f5⟩
 self:=fun _ _ _ _ _ st h=>wpAny_pyIter_listiter st h
theorem Sj(it:Addr)(lo:Int)(n:Nat):Turn P w K tg (pO lo n) [it] it (fun i h=>IsRangeIter h it (lo+(i:Nat)*1) ((n:Int)-(i:Nat)) 1) where
 mem:=by simp
 obj:=fun i h st b hb=>by
  have e:b=it:=by simpa using hb
  subst e;exact ⟨_,st,fun v z=>by have z':Data.fields _=Data.cell v:=z;cases z'⟩
 keep:=fun i h h' st k=>k it (by simp) _ st
 item:=by
  intro X hP hw hK hc i pins s σ H E I hf st hg;subst hP hw hK;obtain ⟨f0,f1,f2,f3,f4,f5⟩:=hf it (by simp)
  have W:=Walks.range (prog:=X.prog) (w:=X.w) (I.ok.hd hc) it lo 1 n;refine W.item i s _ _ hg st fun v h' tk hv zd kk=>?_;obtain ⟨t,rfl⟩:=hv;have I1:Inv X pins σ H {s with heap:=h',toks:=tk}:=I.turned (fun b o hb e=>kk b o (by simpa using hb) e) f0 f1 f3 f4 f5
  refine ⟨_,rfl,K7 (s:={s with heap:=h',toks:=tk}) (n:="range_iterator") zd rfl rfl (by decide) ⟨.int (lo+i),H,I1,⟨t,?_⟩,⟨rfl,rfl⟩,zd,fun b hb=>(hf b hb).1⟩⟩
  rw [iB]
 done:=by
  intro X hP hw hK hc i pins s σ H E I hf st hg;subst hP hw hK;obtain ⟨f0,f1,f2,f3,f4,f5⟩:=hf it (by simp)
  exact wpAny_pyNext_range_end (I.ok.hd hc) st (by have:n≤i:=hg;lia) fun h' eb=>⟨rfl,I.turned (t':=s.toks) (fun b o hb e=>eb b o hb e) f0 f1 f3 f4 f5⟩
 self:=fun _ _ _ _ _ st h=>wpAny_pyIter_rangeiter st h
section
variable {X:Cx} {tg:Expr}
def BQ(K:aJ)(tl:TE):TI:=fun σ H R=>tl σ H fun x H1=>∃a,x=.ref a∧(∃xs,bP K H1 a xs)∧R (u9 K a) H1
theorem e7{l:Expr}{tl:TE}(hl:PE X l tl):PI X tg l (BQ X.K tl):=by
 intro pins s σ H R I h;refine aV (hl pins s σ H _ I h) fun v s1 ⟨x,H1,I1,r1,q1⟩=>?_;obtain ⟨a,e,⟨xs,hq⟩,q⟩:=q1;subst e;cases r1;obtain ⟨av,rv,p,hz⟩:=I1.list hq;refine Bj p.isList ?_;refine ⟨s1.heap.objs.size,[s1.heap.objs.size],_,_,H1,rfl,I1.kept (t':=s1.toks) fun b o e=>dA _ e,Si a _,⟨_,gR _ rfl,rfl,rfl⟩,fun b hb=>?_,q⟩;have e:b=s1.heap.objs.size:=by simpa using hb
 subst e;exact I1.FL (aH _) (I1.aN.fresh (aH _))
variable {pins:bM}
theorem K8{R:It→Hp→Prop}{lo hi:Int}{t u v:Tok}{tk:Nat}(I:Inv X pins σ H s)(h1:-(2 ^ 62)≤lo)(h2:lo<2 ^ 62)(h3:-(2 ^ 62)≤hi)(h4:hi<2 ^ 62)
  (q:R (pO lo (hi-lo).toNat) H):wpAny (model X.prog X.w) X.A (pyIter (.ref s.heap.objs.size)) (K6 X pins σ tg R) E {s with heap:=s.heap.push {cls:=.type "range",data:=.fields #[.int lo t,.int hi u,.int 1 v]},toks:=tk}:=by
 refine wpAny_pyIter_range (IsRange.new ..) (small_one h1 h2 h3 h4) ?_;have I1:Inv X pins σ H {s with heap:=s.heap.push {cls:=.type "range",data:=.fields #[.int lo t,.int hi u,.int 1 v]},toks:=tk}:=I.kept fun b o e=>dA _ e
 refine ⟨(s.heap.push {cls:=.type "range",data:=.fields #[.int lo t,.int hi u,.int 1 v]}).objs.size,[(s.heap.push {cls:=.type "range",data:=.fields #[.int lo t,.int hi u,.int 1 v]}).objs.size],_,_,H,rfl,
  I1.kept (t':=tk) fun b o e=>dA _ e,Sj _ lo (hi-lo).toNat,?_,fun b hb=>?_,q⟩
 ·have e1:lo+((0:Nat):Int)*1=lo:=by simp
  have e2:(((hi-lo).toNat:Nat):Int)-((0:Nat):Int)=Builtin.Range.rangeSize lo hi 1:=by rw [rangeSize_one];split <;> lia
  show IsRangeIter _ _ (lo+((0:Nat):Int)*1) ((((hi-lo).toNat:Nat):Int)-((0:Nat):Int)) 1;rw [e1,e2];exact gR _ rfl
 ·have e:b=(s.heap.push {cls:=.type "range",data:=.fields #[.int lo t,.int hi u,.int 1 v]}).objs.size:=by simpa using hb
  subst e;exact I1.FL (aH _) (I1.aN.fresh (aH _))
def Sk(ta:TA):TI:=fun σ H R=>ta σ H fun vs H1=>∃j:Int,vs=[.int j]∧-(2 ^ 62)≤j∧j<2 ^ 62∧R (pO 0 j.toNat) H1
def Sl(ta:TA):TI:=fun σ H R=>ta σ H fun vs H1=>∃i j:Int,vs=[.int i,.int j]∧(-(2 ^ 62)≤i∧i<2 ^ 62∧-(2 ^ 62)≤j∧j<2 ^ 62)∧R (pO i (j-i).toNat) H1
variable {ta:TA} {p pos:Pos}
theorem jF{a:Expr}(hg:Gl X "range")(hm:X.mg "range"=none)(ha:PA X [a] ta)(hs:starEach [a] X.env=[(false,eval a X.env)]:=by rfl):PI X tg (.Call (.Name "range" p) [a] [] pos) (Sk ta):=by
 intro pins s σ H R I h;refine Call_ (u5 I hg hm boot_range (Bk (aV (ha pos pins s σ H _ I h) fun us s1 ⟨vs,H1,I1,r1,q1⟩=>?_) hs rfl));obtain ⟨j,e,q1,q2,q⟩:=q1;subst e;cases r1 with
 | cons r rr=>cases rr;obtain ⟨t,rfl⟩:=r;exact call_range_1 (K8 I1 (by lia) (by lia) q1 q2 (by simpa using q))
theorem BR{a b:Expr}(hg:Gl X "range")(hm:X.mg "range"=none)(ha:PA X [a,b] ta)(hs:starEach [a,b] X.env=[(false,eval a X.env),(false,eval b X.env)]:=by rfl)(mO:starEach [b] X.env=[(false,eval b X.env)]:=by rfl) :
  PI X tg (.Call (.Name "range" p) [a,b] [] pos) (Sl ta):=by
 intro pins s σ H R I h;refine Call_ (u5 I hg hm boot_range (Bk (aV (ha pos pins s σ H _ I h) fun us s1 ⟨vs,H1,I1,r1,q1⟩=>?_) (by rw [hs,mO]) (by rw [mO];rfl)))
 obtain ⟨i,j,e,⟨q1,q2,q3,q4⟩,q⟩:=q1;subst e;cases r1 with
 | cons r rr=>
  cases rr with
  | cons r' rr=>cases rr;obtain ⟨t,rfl⟩:=r;obtain ⟨t',rfl⟩:=r';exact call_range_2 (K8 I1 q1 q2 q3 q4 q)
def Sm(wi:TI)(g:TG)(tb:TS):TS:=fun D σ H=>wi σ H fun J H1=>∃W:Nat→Nat→St→Hp→Prop,(∃m,W 0 m σ H1)∧∀i m σ H,W i m σ H→
 (J.stop i H∧D.nx σ H)∨(J.go i H∧∃N:St→Hp→Prop,(∀σ' H',N σ' H'→∃m',m'<m∧W (i+1) m' σ' H')∧∀x H',J.fR i H x H'→g x σ H' fun σ2 H2=>tb {D with nx:=N,ct:=N,bk:=D.nx} σ2 H2)
def jb(fp:List Addr)(h:Heap):List (Addr×Obj):=fp.filterMap fun b=>(h.get? b).map fun o=>(b,o)
variable {fp:List Addr}
theorem kF{b:Addr}{o:Obj}(hb:b∈fp)(e:h.get? b=some o):(b,o)∈jb fp h:=List.mem_filterMap.mpr ⟨b,hb,by rw [e];rfl⟩
theorem Sn{p:Addr×Obj}(hp:p∈jb fp h):p.1∈fp∧h.get? p.1=some p.2:=by
 obtain ⟨b,hb,e⟩:=List.mem_filterMap.mp hp;cases q:h.get? b with
 | none=>rw [q] at e;cases e
 | some o=>rw [q] at e;have e':(b,o)=p:=Option.some.inj e;subst e';exact ⟨hb,q⟩
theorem Inv.pinned(I:Inv X pins σ H s)(hf:∀b∈fp,lj X pins H b)(ho:∀b∈fp,∃o,s.heap.get? b=some o∧∀v,o.data≠.cell v):Inv X (pins++jb fp s.heap) σ H s:=
 I.KO fun p hp=>(kh.mp hp).elim (fun z=>I.pin p (eI _ z)) fun z=>by obtain ⟨hb,e⟩:=Sn z;obtain ⟨f0,f1,f2,_⟩:=hf p.1 hb;obtain ⟨o,e',d⟩:=ho p.1 hb;rw [e] at e';cases e';exact ⟨e,f0,f1,f2,d⟩
theorem Inv.pP{pl:bM}(I:Inv X (pins++pl) σ H s):Inv X pins σ H s:=I.KO fun p hp=>I.pin p (eI _ (List.mem_append_left _ hp))
theorem ik{iter:Expr}{body:List Stmt}{wi:TI}{g:TG}{tb:TS}(hp:PassesOwn (model X.prog X.w) X.A X.env X.xe)(hc:X.calm=true)(hi:PI X tg iter wi)(hg:PG X tg g)(hb:gk X body tb)
  (hs:∀x,foldedSetIterable iter X.env x=pure x:=by intro _;rfl):PS X (.For tg iter body [] pos) (Sm wi g tb):=by
 intro pins s σ H D I h;refine wpAny_For (aV (hi pins s σ H _ I h) fun v s1 h1=>aV h1 fun rj s2 h2=>?_) hs;obtain ⟨it,fp,tn,J,H2,e,I2,T,fY,f2,W,⟨m0,w0⟩,turn⟩:=h2;subst e;have fE:∀{H':Hp},(∀b∈fp,H' b=none)→∀b∈fp,lj X pins H' b:=fun hn b hb=>⟨hn b hb,(f2 b hb).2⟩;refine codeAny_forLoop_any (fun n s'=>∃i σ' H',Inv X pins σ' H' s'∧tn i s'.heap∧(∀b∈fp,H' b=none)∧W i n σ' H') ?_ m0 ⟨0,σ,H2,I2,fY,fun b hb=>(f2 b hb).1,w0⟩;rintro n s3 ⟨i,σ3,H3,I3,K9,pQ,w3⟩;rcases turn i n σ3 H3 w3 with ⟨stop,qn⟩ | ⟨go,N,hN,step⟩
 ·refine qN hp (aV (T.done X rfl rfl rfl hc i pins s3 σ3 H3 X.xe I3 (fE pQ) K9 stop) fun r s4 ⟨hr,I4⟩=>?_)
  subst hr;exact Bi ⟨σ3,H3,I4,qn⟩
 ·refine qN hp (aV (T.item X rfl rfl rfl hc i pins s3 σ3 H3 X.xe I3 (fE pQ) K9 go) fun r s4 ⟨u,hr,h4⟩=>?_)
  subst hr;refine qN hp (aV h4 fun _ s5 ⟨x,H5,I5,r5,y5,fF,lD⟩=>?_);have lE:=I5.pinned (fE lD) (T.obj _ _ fF);refine qN hp (aV (hg _ s5 σ3 H5 x u _ lE r5 (step x H5 y5)) fun _ s6 ⟨σ6,H6,I6,q6⟩=>?_);refine qN hp (aV (hb _ s6 σ6 H6 _ I6 q6) fun f s7 q7=>?_);have again:∀{σ7:St} {H7:Hp},Inv X (pins++jb fp s5.heap) σ7 H7 s7→N σ7 H7→∃m,m<n∧∃i σ' H',Inv X pins σ' H' s7∧tn i s7.heap∧(∀b∈fp,H' b=none)∧W i m σ' H':=fun{σ7 H7} I7 n7=>by obtain ⟨m',hm,w7⟩:=hN σ7 H7 n7;refine ⟨m',hm,i+1,σ7,H7,I7.pP,T.keep _ _ _ fF fun b hb o e=>(I7.pin (b,o) (eI _ (eI _ (kF hb e)))).1,fun b hb=>?_,w7⟩;obtain ⟨o,e,d⟩:=T.obj _ _ fF b hb;exact (I7.pin (b,o) (eI _ (eI _ (kF hb e)))).2.1
  cases f with
  | next=>obtain ⟨σ7,H7,I7,n7⟩:=q7;exact again I7 n7
  | cont=>obtain ⟨σ7,H7,I7,n7⟩:=q7;exact again I7 n7
  | brk=>obtain ⟨σ7,H7,I7,q7⟩:=q7;exact ⟨σ7,H7,I7.pP,q7⟩
  | ret v=>obtain ⟨x7,σ7,H7,I7,r7,q7⟩:=q7;exact ⟨x7,σ7,H7,I7.pP,r7,q7⟩
end
variable {g:TG} {tb:TS} {D:Ends}
theorem rp(Pv:Nat→St→Hp→Prop)(h0:Pv 0 σ H)(hl:∀i σ H,i≤xs.length→Pv i σ H→bP K H a xs)
  (hs:∀i x σ H,xs[i]?=some x→Pv i σ H→g x σ H fun σ2 H2=>tb {D with nx:=Pv (i+1),ct:=Pv (i+1),bk:=D.nx} σ2 H2) (hd:∀σ H,Pv xs.length σ H→D.nx σ H) :
  ∃W:Nat→Nat→St→Hp→Prop,(∃m,W 0 m σ H)∧∀i m σ H,W i m σ H→
   ((u9 K a).stop i H∧D.nx σ H)∨((u9 K a).go i H∧∃N:St→Hp→Prop,(∀σ' H',N σ' H'→∃m',m'<m∧W (i+1) m' σ' H')∧∀x H',(u9 K a).fR i H x H'→g x σ H' fun σ2 H2=>tb {D with nx:=N,ct:=N,bk:=D.nx} σ2 H2):=by
 refine ⟨fun i m σ H=>m=xs.length-i∧i≤xs.length∧Pv i σ H,⟨xs.length,by simp,eJ _,h0⟩,?_⟩
 rintro i m σ H ⟨rfl,hi,p⟩;have q:=hl i σ H hi p;by_cases dr:i<xs.length
 ·refine .inr ⟨⟨xs,xs[i],q,by simp [dr]⟩,Pv (i+1),fun σ' H' p'=>⟨xs.length-(i+1),by lia,rfl,dr,p'⟩,fun x H' y=>?_⟩
  obtain ⟨e,y⟩:=y;subst e;exact hs i x σ _ (y xs q) p
 ·have e:i=xs.length:=by lia
  subst e;exact .inl ⟨⟨xs,q,aH _⟩,hd σ H p⟩
variable {n:Nat}
theorem rq{lo:Int}(Pv:Nat→St→Hp→Prop)(h0:Pv 0 σ H)
  (hs:∀i σ H,i<n→Pv i σ H→g (.int (lo+i)) σ H fun σ2 H2=>tb {D with nx:=Pv (i+1),ct:=Pv (i+1),bk:=D.nx} σ2 H2) (hd:∀σ H,Pv n σ H→D.nx σ H) :
  ∃W:Nat→Nat→St→Hp→Prop,(∃m,W 0 m σ H)∧∀i m σ H,W i m σ H→
   ((pO lo n).stop i H∧D.nx σ H)∨((pO lo n).go i H∧∃N:St→Hp→Prop,(∀σ' H',N σ' H'→∃m',m'<m∧W (i+1) m' σ' H')∧∀x H',(pO lo n).fR i H x H'→g x σ H' fun σ2 H2=>tb {D with nx:=N,ct:=N,bk:=D.nx} σ2 H2):=by
 refine ⟨fun i m σ H=>m=n-i∧i≤n∧Pv i σ H,⟨n,by simp,eJ _,h0⟩,?_⟩
 rintro i m σ H ⟨rfl,hi,p⟩;by_cases dr:i<n
 ·refine .inr ⟨dr,Pv (i+1),fun σ' H' p'=>⟨n-(i+1),by lia,rfl,dr,p'⟩,fun x H' y=>?_⟩
  obtain ⟨e,y⟩:=y;subst e y;exact hs i σ _ dr p
 ·have e:i=n:=by lia
  subst e;exact .inl ⟨aH _,hd σ H p⟩
abbrev R2:=V→V→Hp→VK→Prop
def cT(X:Cx)(f:Value→Value→Sem Value)(r:R2):Prop:=
 ∀(pins:bM) (s:Shared) (σ:St) (H:Hp) (x y:V) (v u:Value) (Q:VK),Inv X pins σ H s→RelV x v→RelV y u→r x y H Q→
  wpAny (model X.prog X.w) X.A (f v u) (EP X pins σ Q) X.xe s
def FN(X:Cx)(f:Value→Sem Value)(r:V→Hp→VK→Prop):Prop:=
 ∀(pins:bM) (s:Shared) (σ:St) (H:Hp) (x:V) (v:Value) (Q:VK),Inv X pins σ H s→RelV x v→r x H Q→
  wpAny (model X.prog X.w) X.A (f v) (EP X pins σ Q) X.xe s
def jc(X:Cx)(f:Value)(r:List V→Hp→VK→Prop):Prop:=
 ∀(pins:bM) (s:Shared) (σ:St) (H:Hp) (xs:List V) (us:List Value) (Q:VK),Inv X pins σ H s→Vals xs us→r xs H Q→
  wpAny (model X.prog X.w) X.A (call f us) (EP X pins σ Q) X.xe s
def So(X:Cx)(r:V→Hp→(Bool→Hp→Prop)→Prop):Prop:=
 ∀(pins:bM) (s:Shared) (σ:St) (H:Hp) (x:V) (v:Value) (Q:Bool→Hp→Prop),Inv X pins σ H s→RelV x v→r x H Q→
  wpAny (model X.prog X.w) X.A (truthy v) (TP X pins σ Q) X.xe s
def lF(r:R2)(ta tb:TE):TE:=fun σ H Q=>ta σ H fun x H1=>tb σ H1 fun y H2=>r x y H2 Q
def Sq(r:V→Hp→VK→Prop)(ta:TE):TE:=fun σ H Q=>ta σ H fun x H1=>r x H1 Q
def rI(C:Int→Int→Prop)(g:Int→Int→V):R2:=fun x y H Q=>∃i j,x=.int i∧y=.int j∧C i j∧Q (g i j) H
def pR(g:Int→Int→V):R2:=fun x y H Q=>∃i j,x=.int i∧y=.int j∧Q (g i j) H
def rU(g:Int→V):V→Hp→VK→Prop:=fun x H Q=>∃i,x=.int i∧Q (g i) H
section
variable {X:Cx} {a b c:Expr} {ta tb tc:TE} {pos:Pos}
variable {f:Value→Value→Sem Value}
theorem FO(ha:PE X a ta)(hb:PE X b tb){pins:bM}{R:V→V→Hp→Prop}(I:Inv X pins σ H s)
  (h:ta σ H fun x H1=>tb σ H1 fun y H2=>R x y H2) {Q:cO}
  (hf:∀v u s2 x y H2,Inv X pins σ H2 s2→RelV x v→RelV y u→R x y H2→wpAny (model X.prog X.w) X.A (f v u) Q X.xe s2) :
  wpAny (model X.prog X.w) X.A (eval a X.env) (fun v s₁=>wpAny (model X.prog X.w) X.A (eval b X.env) (fun u s₂=>wpAny (model X.prog X.w) X.A (f v u) Q X.xe s₂) X.xe s₁) X.xe s:=by
 refine aV (ha pins s σ H _ I h) fun v s1 ⟨x,H1,I1,r1,q1⟩=>?_;refine aV (hb pins s1 σ H1 _ I1 q1) fun u s2 ⟨y,H2,I2,r2,q2⟩=>?_;exact hf v u s2 x y H2 I2 r1 r2 q2
theorem aw{op:Operator}{r:R2}(ho:cT X (binaryOp op) r)(ha:PE X a ta)(hb:PE X b tb):PE X (.BinOp a op b pos) (lF r ta tb):=by intro pins s σ H Q I h;exact wpAny_BinOp (FO ha hb I h fun v u s2 x y H2 I2 rx ry q=>ho pins s2 σ H2 x y v u Q I2 rx ry q)
theorem FP{op:UnaryOp}{r:V→Hp→VK→Prop}(ho:FN X (unaryOp op) r)(ha:PE X a ta):PE X (.UnaryOp op a pos) (Sq r ta):=by intro pins s σ H Q I h;exact UnaryOp_ (aV (ha pins s σ H _ I h) fun v s1 ⟨x,H1,I1,r1,q1⟩=>ho pins s1 σ H1 x v Q I1 r1 q1)
theorem ox{C:Int→Int→Prop}{g:Int→Int→Int}
  (rule:∀(i j:Int) (t u:Tok) (s:Shared) (Q:cO) (E:cO),C i j→Q (.int (g i j) s.toks) {s with toks:=s.toks+1}→wpAny (model X.prog X.w) X.A (f (.int i t) (.int j u)) Q E s) :
  cT X f (rI C fun i j=>.int (g i j)):=by
 intro pins s σ H x y v u Q I rx ry h;obtain ⟨i,j,rfl,rfl,hc,q⟩:=h;obtain ⟨t,rfl⟩:=rx;obtain ⟨t',rfl⟩:=ry;exact rule i j t t' s _ _ hc ⟨.int (g i j),H,I.tok _,⟨_,rfl⟩,q⟩
theorem K_{g:Int→Int→Int}
  (rule:∀(i j:Int) (t u:Tok) (s:Shared) (Q:cO) (E:cO),Q (.int (g i j) s.toks) {s with toks:=s.toks+1}→wpAny (model X.prog X.w) X.A (f (.int i t) (.int j u)) Q E s) :
  cT X f (pR fun i j=>.int (g i j)):=by
 intro pins s σ H x y v u Q I rx ry h;obtain ⟨i,j,rfl,rfl,q⟩:=h;obtain ⟨t,rfl⟩:=rx;obtain ⟨t',rfl⟩:=ry;exact rule i j t t' s _ _ ⟨.int (g i j),H,I.tok _,⟨_,rfl⟩,q⟩
theorem BS{g:Int→Int→Bool}
  (rule:∀(i j:Int) (t u:Tok) (s:Shared) (Q:cO) (E:cO),Q (.bool (g i j)) s→wpAny (model X.prog X.w) X.A (f (.int i t) (.int j u)) Q E s) :
  cT X f (pR fun i j=>.bl (g i j)):=by
 intro pins s σ H x y v u Q I rx ry h;obtain ⟨i,j,rfl,rfl,q⟩:=h;obtain ⟨t,rfl⟩:=rx;obtain ⟨t',rfl⟩:=ry;exact rule i j t t' s _ _ ⟨.bl (g i j),H,I,rfl,q⟩
def Sr(i j:Int):Prop:=0<j∧j<1073741824
def Ss(i j:Int):Prop:=0≤j∧j≤1000000∧i.natAbs<2 ^ 64
def FQ(i j:Int):Prop:=(-(2 ^ 64)<i∧i<2 ^ 64)∨(-(2 ^ 64)<j∧j<2 ^ 64)
theorem FQ.ok{i j:Int}(h:FQ i j):IntMulOk i j:=by
 rcases h with ⟨h1,h2⟩ | ⟨h1,h2⟩;·exact .of_left (intBits_le_64 h1 h2)
 ·exact .of_right (intBits_le_64 h1 h2)
theorem gG:cT X (binaryOp .Add) (pR fun i j=>.int (i+j)):=K_ fun _ _ _ _ _ _ _ q=>add_int q
theorem jG:cT X (binaryOp .Sub) (pR fun i j=>.int (i-j)):=K_ fun _ _ _ _ _ _ _ q=>sub_int q
theorem fG:cT X (binaryOp .Mult) (rI FQ fun i j=>.int (i*j)):=ox fun _ _ _ _ _ _ _ hc q=>mul_int q hc.ok
theorem pS:cT X (binaryOp .FloorDiv) (rI Sr fun i j=>.int (i / j)):=ox fun i j _ _ _ _ _ hc q=>by have h1:(0:Int)<j:=hc.1;have h2:j<1073741824:=hc.2;exact floordiv_int (by lia) (by rw [yC i (by lia)];exact q) (.inl (PyProof.noPylong_small (by lia)))
theorem cV:cT X (binaryOp .Mod) (rI (fun _ j=>0<j) fun i j=>.int (i % j)):=ox fun i j _ _ _ _ _ hc q=>by have h1:(0:Int)<j:=hc;exact mod_int' (by lia) (by rw [Int.fmod_eq_emod_of_nonneg i (by lia)];exact q)
theorem Su:cT X (binaryOp .Pow) (rI Ss fun i j=>.int (i ^ j.toNat)):=ox fun _ _ _ _ _ _ _ hc q=>pow_int_small hc.1 hc.2.1 hc.2.2 q
theorem Sv{f:Value→Sem Value}{g:Int→Int}
  (rule:∀(i:Int) (t:Tok) (s:Shared) (Q:cO) (E:cO),Q (.int (g i) s.toks) {s with toks:=s.toks+1}→wpAny (model X.prog X.w) X.A (f (.int i t)) Q E s) :
  FN X f (rU fun i=>.int (g i)):=by
 intro pins s σ H x v Q I rx h;obtain ⟨i,rfl,q⟩:=h;obtain ⟨t,rfl⟩:=rx;exact rule i t s _ _ ⟨.int (g i),H,I.tok _,⟨_,rfl⟩,q⟩
theorem FR:FN X (unaryOp .USub) (rU fun i=>.int (-i)):=Sv fun _ _ _ _ _ q=>neg_int q
end
def La:V→V→Bool
 | .aY,.aY=>true | .aY,.int _=>true | .int _,.aY=>true | .aY,.bl _=>true | .bl _,.aY=>true | .aY,.str _=>true | .str _,.aY=>true
 | .int _,.int _=>true | .bl _,.bl _=>true | .str _,.str _=>true | .i_ _,.i_ _=>true
 | .int _,.str _=>true | .str _,.int _=>true | .bl _,.str _=>true | .str _,.bl _=>true
 | _,_=>false
def BU:R2:=fun x y H Q=>La x y=true∧Q (.bl (decide (x=y))) H
def Sw:R2:=fun x y H Q=>La x y=true∧Q (.bl (!decide (x=y))) H
theorem Lb{i j:Int}:decide (V.int i=V.int j)=(i == j):=by rw [uS];simp
theorem Lc{i j:Bool}:decide (V.bl i=V.bl j)=(i == j):=by rw [uS];simp
theorem Ld{i j:Str}:decide (V.str i=V.str j)=(i == j):=by rw [uS];simp
theorem Le{i j:Array UInt8}:decide (V.i_ i=V.i_ j)=(i.toList == j.toList):=by rw [uS];cases i;cases j;simp
section
variable {X:Cx} {a b c:Expr} {ta tb tc:TE} {pos:Pos}
theorem dD{pins:bM}{Q:VK}{k k':Bool}(I:Inv X pins σ H s)(q:Q (.bl k) H)(e:k=k'):EP X pins σ Q (.bool k') s:=by subst e;exact ⟨.bl k,H,I,rfl,q⟩
theorem il:cT X (compareOp .Eq) BU:=by
 intro pins s σ H x y v u Q I rx ry h;obtain ⟨hs,q⟩:=h;cases x with
 | aY=>
  cases rx;cases y with
  | aY=>cases ry;exact PySem.EqNone.eq_none_none (dD I q (by simp))
  | bl j=>cases ry;exact PySem.EqNone.eq_none_bool (dD I q (by simp))
  | int j=>obtain ⟨t',rfl⟩:=ry;exact PySem.EqNone.eq_none_int (dD I q (by simp))
  | str j=>obtain ⟨t',rfl⟩:=ry;exact PySem.EqNone.eq_none_str (dD I q (by simp))
  | _=>exact absurd (show false=true from hs) dB
 | bl i=>
  cases rx;cases y with
  | aY=>cases ry;exact PySem.EqNone.eq_bool_none (dD I q (by simp))
  | bl j=>cases ry;exact eq_bool (dD I q Lc)
  | str j=>obtain ⟨t',rfl⟩:=ry;exact PySem.EqMixed.eq_bool_str (dD I q (by simp))
  | _=>exact absurd (show false=true from hs) dB
 | int i=>
  obtain ⟨t,rfl⟩:=rx;cases y with
  | aY=>cases ry;exact PySem.EqNone.eq_int_none (dD I q (by simp))
  | int j=>obtain ⟨t',rfl⟩:=ry;exact eq_int (dD I q Lb)
  | str j=>obtain ⟨t',rfl⟩:=ry;exact PySem.EqMixed.eq_int_str (dD I q (by simp))
  | _=>exact absurd (show false=true from hs) dB
 | str i=>
  obtain ⟨t,rfl⟩:=rx;cases y with
  | aY=>cases ry;exact PySem.EqNone.eq_str_none (dD I q (by simp))
  | bl j=>cases ry;exact PySem.EqMixed.eq_str_bool (dD I q (by simp))
  | int j=>obtain ⟨t',rfl⟩:=ry;exact PySem.EqMixed.eq_str_int (dD I q (by simp))
  | str j=>obtain ⟨t',rfl⟩:=ry;exact eq_str (dD I q Ld)
  | _=>exact absurd (show false=true from hs) dB
 | i_ i=>
  obtain ⟨t,rfl⟩:=rx;cases y with
  | i_ j=>obtain ⟨t',rfl⟩:=ry;exact PySem.W.eq_bytes (dD I q Le)
  | _=>exact absurd (show false=true from hs) dB
 | _=>cases y <;> exact absurd (show false=true from hs) dB
theorem iE:cT X (compareOp .NotEq) Sw:=by
 intro pins s σ H x y v u Q I rx ry h;obtain ⟨hs,q⟩:=h;cases x with
 | aY=>
  cases rx;cases y with
  | aY=>cases ry;exact PySem.EqNone.ne_none_none (dD I q (by simp))
  | bl j=>cases ry;exact PySem.EqNone.ne_none_bool (dD I q (by simp))
  | int j=>obtain ⟨t',rfl⟩:=ry;exact PySem.EqNone.ne_none_int (dD I q (by simp))
  | str j=>obtain ⟨t',rfl⟩:=ry;exact PySem.EqNone.ne_none_str (dD I q (by simp))
  | _=>exact absurd (show false=true from hs) dB
 | bl i=>
  cases rx;cases y with
  | aY=>cases ry;exact PySem.EqNone.ne_bool_none (dD I q (by simp))
  | bl j=>cases ry;exact ne_bool (dD I q (hJ not Lc))
  | str j=>obtain ⟨t',rfl⟩:=ry;exact PySem.EqMixed.ne_bool_str (dD I q (by simp))
  | _=>exact absurd (show false=true from hs) dB
 | int i=>
  obtain ⟨t,rfl⟩:=rx;cases y with
  | aY=>cases ry;exact PySem.EqNone.ne_int_none (dD I q (by simp))
  | int j=>obtain ⟨t',rfl⟩:=ry;exact ne_int (dD I q (hJ not Lb))
  | str j=>obtain ⟨t',rfl⟩:=ry;exact PySem.EqMixed.ne_int_str (dD I q (by simp))
  | _=>exact absurd (show false=true from hs) dB
 | str i=>
  obtain ⟨t,rfl⟩:=rx;cases y with
  | aY=>cases ry;exact PySem.EqNone.ne_str_none (dD I q (by simp))
  | bl j=>cases ry;exact PySem.EqMixed.ne_str_bool (dD I q (by simp))
  | int j=>obtain ⟨t',rfl⟩:=ry;exact PySem.EqMixed.ne_str_int (dD I q (by simp))
  | str j=>obtain ⟨t',rfl⟩:=ry;exact ne_str (dD I q (hJ not Ld))
  | _=>exact absurd (show false=true from hs) dB
 | i_ i=>
  obtain ⟨t,rfl⟩:=rx;cases y with
  | i_ j=>obtain ⟨t',rfl⟩:=ry;exact PySem.W.ne_bytes (dD I q (hJ not Le))
  | _=>exact absurd (show false=true from hs) dB
 | _=>cases y <;> exact absurd (show false=true from hs) dB
theorem iF:cT X (compareOp .Lt) (pR fun i j=>.bl (decide (i<j))):=BS fun _ _ _ _ _ _ _ q=>lt_int q
theorem BV:cT X (compareOp .LtE) (pR fun i j=>.bl (decide (i≤j))):=BS fun _ _ _ _ _ _ _ q=>le_int q
theorem ze:cT X (compareOp .Gt) (pR fun i j=>.bl (decide (j<i))):=BS fun _ _ _ _ _ _ _ q=>gt_int q
theorem Sx:cT X (compareOp .GtE) (pR fun i j=>.bl (decide (j≤i))):=BS fun _ _ _ _ _ _ _ q=>ge_int q
theorem rz:cT X (compareOp .Is) (fun x y H Q=>y=.aY∧Q (.bl (decide (x=.aY))) H):=by
 intro pins s σ H x y v u Q I rx ry h;obtain ⟨rfl,q⟩:=h;cases ry;refine is_none_gen (dD I q ?_)
 cases x <;> first
  | (cases rx;rfl)
  | (obtain ⟨t,rfl⟩:=rx;rfl)
theorem Sy:cT X (compareOp .IsNot) (fun x y H Q=>y=.aY∧Q (.bl (!decide (x=.aY))) H):=by
 intro pins s σ H x y v u Q I rx ry h;obtain ⟨rfl,q⟩:=h;cases ry;refine isnot_none_gen (dD I q ?_)
 cases x <;> first
  | (cases rx;rfl)
  | (obtain ⟨t,rfl⟩:=rx;rfl)
variable {op:CmpOp}
theorem Lf(b:Expr)(h:op≠.In:=by decide)(h2:op≠.NotIn:=by decide):behindInMarks op b=false:=by
 have e1:(op == CmpOp.In)=false:=by cases op <;> first | rfl | exact absurd rfl h
 have e2:(op == CmpOp.NotIn)=false:=by cases op <;> first | rfl | exact absurd rfl h2
 cases b <;> simp [behindInMarks,e1,e2]
variable {r:R2}
theorem Sz(ho:cT X (compareOp op) r)(ha:PE X a ta)(hb:PE X b tb)(hm:behindInMarks op b=false):PE X (.Compare a [op] [b] pos) (lF r ta tb):=by intro pins s σ H Q I h;exact wpAny_Compare1 (FO ha hb I h fun v u s2 x y H2 I2 rx ry q=>ho pins s2 σ H2 x y v u Q I2 rx ry q) hm
theorem mP{b:Expr}(ho:cT X (compareOp op) r)(ha:PE X a ta)(hb:PE X b tb)(hm:behindInMarks op b=false:=by exact Lf _):PE X (.Compare a [op] [b] pos) (lF r ta tb):=Sz ho ha hb hm
def u_(t:TE):TT:=fun σ H Q=>t σ H fun x H'=>∃k,x=.bl k∧Q k H'
theorem BW(ho:cT X (compareOp op) r)(ha:PE X a ta)(hb:PE X b tb)(hm:behindInMarks op b=false):PT X (.Compare a [op] [b] pos) (u_ (lF r ta tb)):=by intro pins s σ H Q I h;refine wpAny_isTrue_Compare1 (aV (ha pins s σ H _ I h) fun v s1 ⟨x,H1,I1,r1,q1⟩=>aV (hb pins s1 σ H1 _ I1 q1) fun u s2 ⟨y,H2,I2,r2,q2⟩=>aV (ho pins s2 σ H2 x y v u _ I2 r1 r2 q2) fun c s3 ⟨z,H3,I3,r3,k,e,q3⟩=>?_) hm;subst e;cases r3;exact nQ ⟨H3,I3,q3⟩
theorem bJ{b:Expr}(ho:cT X (compareOp op) r)(ha:PE X a ta)(hb:PE X b tb)(hm:behindInMarks op b=false:=by exact Lf _):PT X (.Compare a [op] [b] pos) (u_ (lF r ta tb)):=BW ho ha hb hm
def SA(r r':R2)(ta tb tc:TE):TE:=fun σ H Q=>ta σ H fun x H1=>tb σ H1 fun y H2=>r x y H2 fun z H3=>∃k,z=.bl k ∧
 (if k=true then tc σ H3 fun w' H4=>r' y w' H4 Q else Q (.bl false) H3)
theorem Lg{FT:CmpOp}{r':R2}(ho:cT X (compareOp op) r)(oo:cT X (compareOp FT) r')(ha:PE X a ta)(hb:PE X b tb)(hc:PE X c tc)
  (hm:lastMarks [op,FT] [b,c]=false:=by with_unfolding_all rfl):PE X (.Compare a [op,FT] [b,c] pos) (SA r r' ta tb tc):=by
 intro pins s σ H Q I h;refine Compare_chain (aV (ha pins s σ H _ I h) fun v s1 ⟨x,H1,I1,r1,q1⟩=>chain_link (aV (hb pins s1 σ H1 _ I1 q1) fun u s2 ⟨y,H2,I2,r2,q2⟩=>aV (ho pins s2 σ H2 x y v u _ I2 r1 r2 q2) fun d s3 ⟨z,H3,I3,r3,k,e,q3⟩=>?_)) hm;subst e;cases r3;refine nQ ?_;cases k with
 | false=>exact ite_ff ⟨.bl false,H3,I3,rfl,q3⟩
 | true=>exact ite_tt (chain_last (aV (hc pins s3 σ H3 _ I3 q3) fun w' s4 ⟨z',H4,I4,r4,q4⟩=>oo pins s4 σ H4 y z' u w' Q I4 r2 r4 q4))
def FU(K:aJ)(x:V)(H:Hp)(k:Bool):Prop:=
 match x with
 | .aY=>k=false
 | .bl b=>k=b
 | .int i=>k=(i != 0)
 | .str y=>y.length≤sizeLine∧k=((y.length:Int) != 0)
 | .i_ y=>y.size≤sizeLine∧k=((y.size:Int) != 0)
 | .ref p=>(∃xs,bP K H p xs∧k = !xs.isEmpty)∨(∃xs,fX K H p xs∧k = !xs.isEmpty)∨∃c_,H p=some (.dK c_)∧k = !c_.isEmpty
 | _=>False
theorem SD{κ:Type}{c_:List (κ×V)}{vs:List (κ×Value)}(r:KV c_ vs):(!vs.isEmpty) = !c_.isEmpty:=by cases r <;> rfl
theorem Lh{av:List Value}(r:Vals xs av):(!av.toArray.isEmpty) = !xs.isEmpty:=by cases r <;> simp
theorem zg:(sizeLine:Nat)<2 ^ 63:=by rw [sizeLine_eq];decide
theorem SE:So X (fun x H Q=>∃k,FU X.K x H k∧Q k H):=by
 intro pins s σ H x v Q I rx h;obtain ⟨k,e,q⟩:=h;have hl:=zg;have hs:sizeLine=16777216:=sizeLine_eq;cases x with
 | aY=>cases rx;have e':k=false:=e;subst e';exact truthy_none ⟨H,I,q⟩
 | bl b=>cases rx;have e':k=b:=e;subst e';exact nQ ⟨H,I,q⟩
 | int i=>obtain ⟨t,rfl⟩:=rx;have e':k=(i != 0):=e;subst e';exact PySem.P.truthy_int ⟨H,I,q⟩
 | str y=>obtain ⟨t,rfl⟩:=rx;obtain ⟨hy,e'⟩:y.length≤sizeLine∧k=((y.length:Int) != 0):=e;subst e';exact PySem.P.truthy_str (by lia) ⟨H,I.tok _,q⟩
 | i_ y=>obtain ⟨t,rfl⟩:=rx;obtain ⟨hy,e'⟩:y.size≤sizeLine∧k=((y.size:Int) != 0):=e;subst e';exact PySem.W.truthy_bytes (by lia) ⟨H,I.tok _,q⟩
 | ref p=>
  cases rx;have e':(∃xs,bP X.K H p xs∧k = !xs.isEmpty)∨(∃xs,fX X.K H p xs∧k = !xs.isEmpty)∨∃c_,H p=some (.dK c_)∧k = !c_.isEmpty:=e;rcases e' with ⟨xs,hx,e'⟩ | ⟨xs,hx,e'⟩ | ⟨c_,hx,e'⟩
  ·subst e'
   obtain ⟨av,r,pl,hz⟩:=I.list hx;have hlen:=r.length;exact wpAny_truthy_list pl.isList (by simp only [d7];lia) ⟨H,I.tok _,by rw [Lh r];exact q⟩
  ·subst e'
   obtain ⟨av,r,pl,hz⟩:=I.tuple hx;have hlen:=r.length;exact truthy_tuple pl (by simp only [d7];lia) ⟨H,I.tok _,by rw [Lh r];exact q⟩
  ·subst e'
   obtain ⟨hz,hS,vs,r,m⟩:c_.length≤sizeLine∧(p == sysModules)=false∧∃vs,KV c_ vs∧s.heap.DictOf (Fv X.prog X.w) p vs:=I.aN p _ hx;have hlen:c_.length=vs.length:=Paired.length r;exact wpAny_truthy_dict hS m (by lia) ⟨H,I.tok _,by rw [SD r];exact q⟩
 | _=>exact (show False from e).elim
theorem mQ(ha:PE X a ta)(he:∀whole,isTrue a X.env whole=(do let v ←whole;standAt a.pos;holding [v] (truthy v))) :
  PT X a (fun σ H Q=>ta σ H fun x H'=>∃k,FU X.K x H' k∧Q k H'):=by
 intro pins s σ H Q I h
 exact isTrue_plain (aV (ha pins s σ H _ I h) fun v s1 ⟨x,H1,I1,r1,q1⟩=>SE pins s1 σ H1 x v Q I1 r1 q1) (he _)
theorem vals1(r:Vals [x] us):∃u,us=[u]∧RelV x u:=by
 cases r with
 | cons r1 r2=>cases r2;exact ⟨_,rfl,r1⟩
theorem vals2{y:V}(r:Vals [x,y] us):∃u w',us=[u,w']∧RelV x u∧RelV y w':=by
 cases r with
 | cons r1 r2=>
  cases r2 with
  | cons r3 r4=>cases r4;exact ⟨_,_,rfl,r1,r3⟩
theorem BX:jc X (.builtin "abs") (fun xs H Q=>∃i,xs=[.int i]∧Q (.int (if i<0 then -i else i)) H):=by intro pins s σ H xs us Q I r h;obtain ⟨i,rfl,q⟩:=h;obtain ⟨u,rfl,t,rfl⟩:=vals1 r;exact call_abs_int fun u tk=>⟨.int (if i<0 then -i else i),H,I.tok _,⟨_,rfl⟩,q⟩
theorem SF(hc:X.calm=true):jc X (.builtin "min") (fun xs H Q=>∃i j,xs=[.int i,.int j]∧Q (.int (if j<i then j else i)) H):=by
 intro pins s σ H xs us Q I r h;obtain ⟨i,j,rfl,q⟩:=h;obtain ⟨u,w',rfl,⟨t,rfl⟩,⟨t',rfl⟩⟩:=vals2 r;refine min_two_ints (I.ok.hd hc) fun h' tk k=>⟨_,H,I.kept k,?_,q⟩;by_cases hj:j<i;·rw [ak hj,ak hj];exact ⟨_,rfl⟩
 ·rw [ao hj,ao hj];exact ⟨_,rfl⟩
end
structure rA (h:Heap) (x dx C:Addr) (mA:dU):Prop where
 obj:h.get? x=some (PySem.W.instObj C dx)
 ns:h.Ns1 dx mA
 ne:dx≠x
variable {dx:Addr} {mA:dU}
theorem SG(n:h.Ns1 dx mA):∃od,h.get? dx=some od∧∀name,PySem.W.lookIn name od=some (mA name):=by
 obtain ⟨o,es,ep,ho,hd,hk,_,hm⟩:=n;refine ⟨o,ho,fun name=>?_⟩;have e:=hm name;unfold nsFind findBy at e;rw [←Array.find?_toList] at e;unfold PySem.W.lookIn;rw [hd];dsimp only
 split
 ·rename_i y q
  rw [q] at e;exact hJ some e
 ·rename_i q
  rw [q] at e;have a:es.toList.any (·.refKey)=false:=by rw [List.any_eq_false];intro y hy;obtain ⟨z,t,SH⟩:=hk y (Array.mem_toList_iff.mp hy);simp [DictEntry.refKey,SH]
  have a':¬es.toList.any (·.refKey)=true:=by rw [a];exact dB
  rw [ao a'];exact hJ some e
variable {C:Addr}
theorem rA.look{x:Addr}(I:rA h x dx C mA):∃od,PySem.W.InstAt h x (PySem.W.instObj C dx) C (some od)∧∀name,PySem.W.lookIn name od=some (mA name):=
 let ⟨od,ho,hl⟩:=SG I.ns
 ⟨od,⟨I.obj,rfl,rfl,ho⟩,hl⟩
section
variable {prog:Program} {w:World} {A:Around} {E:cO} {s:Shared} {K:aJ} {x dx C f:Addr} {mA:dU} {name:Str} {v:Value}
theorem get_map{expr:Bool}{Q:cO}(X:K.In s.heap)(I:rA s.heap x dx C mA)(hg:PySem.W.plainGet K C name=true)(hh:PySem.W.hasDictIn K C=true)
  (ha:PySem.W.findIn K (.ref C) name=some none) (hv:mA name=some v) (fH:PySem.W.handedIn v=true) (h:Q v {s with toks:=s.toks+1}) :
  wpAny (model prog w) A (getAttr (.ref x) name expr) Q E s:=by
 obtain ⟨od,J,hl⟩:=I.look;exact PySem.W.get_value X J (PySem.W.plainGet_of hg).1 (PySem.W.findObj_own hh ha rfl (by rw [hl,hv])) fH h
theorem SI{pl:Sem Bool}{Q:Value×List Value→Shared→Prop}(X:K.In s.heap)(I:rA s.heap x dx C mA)(hg:PySem.W.plainGet K C name=true)
  (hf:PySem.W.findIn K (.ref C) name=some (some (.ref f))) (ht:PySem.W.isFn K (.ref f)=true) (hv:mA name=none) (h:Q (.ref f,[.ref x]) s) :
  wpAny (model prog w) A (getMethod (.ref x) name pl) Q E s:=by
 obtain ⟨od,J,hl⟩:=I.look;exact PySem.W.method_fn X J (PySem.W.plainGet_of hg).1 (PySem.W.plainGet_of hg).2 hf (mD.mp ht) (by show (PySem.W.lookIn name od).map (·.isSome)=some false;rw [hl,hv];rfl) h
theorem SJ{ns:List Str}{Q:Unit→Shared→Prop}(X:K.In s.heap)(I:rA s.heap x dx C mA)
  (hs:PySem.W.findIn K (.ref C) "__setattr__"=some (some (.builtin "object.__setattr__"))) (hp:PySem.W.plainOver K C=true) (ht:PySem.W.takerIn K C name=some none) (hh:PySem.W.hasDictIn K C=true)
  (hw:PySem.Within mA ns) (Li:ns.length≤sizeLine)
  (h:∀h',rA h' x dx C (fun y=>if y=name then some v else mA y)→Heap.SameBut dx s.heap h'→Q () {s with heap:=h',toks:=s.toks+2}) :
  wpAny (model prog w) A (setAttr (.ref x) name v) Q E s:=by
 obtain ⟨od,J,hl⟩:=I.look;refine PySem.W.set_plain X J hs (PySem.W.osa_open (s:={s with toks:=s.toks+1}) (r:=none) X J hp ht fun b=>?_);obtain ⟨cd,hc,Fw⟩:=PySem.W.any_some hh;have hx:s.heap.get? x=some ⟨.ref C,some dx,.plain,#[]⟩:=I.obj;refine cR (fz (cR (cR (wpAny_loadPart hx (cR (PySem.W.Looks.here (s:={s with toks:=s.toks+1}) (PySem.W.looks_clsIn X hc) ?_))))));rw [Fw];refine fz (a:=some dx) (cR (fz (cR ?_)));refine wpAny_nsSet1 (s:={s with toks:=s.toks+1}) I.ns fun h' va mO=>?_;obtain ⟨oD,esD,epD,SK,SM,SN⟩:=va.count (PySem.Within.cons name v hw);refine cR (wpAny_lookBehind SK (by rw [SM];exact pastItsLine_dict (aq SN (by rw [cS];lia))) ?_)
 exact fz (h _ ⟨(mO.2 _ (Ne.symm I.ne)).trans I.obj,va,I.ne⟩ mO)
theorem SO{R:Result→Shared→Prop}{vs:List Value}{kw:List (Str×Value)}(X:K.In s.heap)(hm:PySem.W.makesIn K C=true)
  (hi:PySem.W.findIn K (.ref C) "__init__"=some (some (.ref f))) (hf:PySem.W.typeIn K (.ref f)=some (.type "function"))
  (h:codeAny (model prog w) (A.under (.builtin "type.__call__" ⟨.ref C::vs,kw⟩)) (.call (.ref f) ⟨.ref (s.heap.objs.size+1)::vs,kw⟩) (PySem.W.InitBack (s.heap.objs.size+1) R)
   {s with heap:=(s.heap.push PySem.W.emptyDict).push (PySem.W.instObj C s.heap.objs.size)}) :
  codeAny (model prog w) A (.call (.ref C) ⟨vs,kw⟩) R s:=by
 obtain ⟨hh,g,d,t,os⟩:=s;exact PySem.W.make_core (PySem.W.makes_of X hm) (Bl X hi) (fun self=>PySem.W.bind_fn X self hf) (.inl rfl) h
end
def iG(f:Str)(v:V):List (Str×V)→List (Str×V)
 | []=>[(f,v)]
 | (g,x)::r=>if g=f then (g,v)::r else (g,x)::iG f v r
theorem Lj(f g:Str)(v:V):∀fs:List (Str×V),(iG f v fs).lookup g=if g=f then some v else fs.lookup g
 | []=>by
  show List.lookup g [(f,v)]=_;by_cases h:g=f
  ·have hb:(g == f)=true:=mD.mpr h
   simp only [List.lookup,hb,ak h]
  ·have hb:(g == f)=false:=pC.mpr h
   simp only [List.lookup,hb,ao h]
 | (k,x)::r=>by
  have ih:=Lj f g v r;rw [show iG f v ((k,x)::r)=(if k=f then (k,v)::r else (k,x)::iG f v r) from rfl]
  by_cases hk:k=f
  ·rw [ak hk]
   by_cases h:g=k
   ·have hb:(g == k)=true:=mD.mpr h
    simp only [List.lookup,hb,ak (h.trans hk)]
   ·have hb:(g == k)=false:=pC.mpr h
    simp only [List.lookup,hb,ao (fun e:g=f=>h (e.trans hk.symm))]
  ·rw [ao hk]
   by_cases h:g=k
   ·have hb:(g == k)=true:=mD.mpr h
    simp only [List.lookup,hb,ao (fun e:g=f=>hk (h.symm.trans e))]
   ·have hb:(g == k)=false:=pC.mpr h
    simp only [List.lookup,hb];exact ih
theorem FV(f:Str)(v:V):∀fs:List (Str×V),f∈(iG f v fs).map (·.1)∧∀g,g∈fs.map (·.1)→g∈(iG f v fs).map (·.1)
 | []=>⟨by simp [iG],fun g h=>by simp at h⟩
 | (k,x)::r=>by
  obtain ⟨i1,i2⟩:=FV f v r;rw [show iG f v ((k,x)::r)=(if k=f then (k,v)::r else (k,x)::iG f v r) from rfl]
  by_cases hk:k=f
  ·rw [ak hk]
   subst hk;exact ⟨by simp,fun g h=>by simpa using h⟩
  ·rw [ao hk]
   refine ⟨?_,fun g h=>?_⟩
   ·rw [fU]
    exact gg _ i1
   ·rw [fU] at h ⊢
    rcases eY.mp h with e | e;·exact eY.mpr (.inl e)
    ·exact gg _ (i2 g e)
theorem Lk(f:Str)(v:V):∀fs:List (Str×V),(iG f v fs).length≤fs.length+1
 | []=>by simp [iG]
 | (k,x)::r=>by
  have ih:=Lk f v r;rw [show iG f v ((k,x)::r)=(if k=f then (k,v)::r else (k,x)::iG f v r) from rfl]
  by_cases hk:k=f;·rw [ak hk,cS,cS];lia
  ·rw [ao hk,cS,cS];lia
variable {v:V}
theorem mH.some_of{o:Option Value}(r:mH (some v) o):∃u,o=some u∧RelV v u:=by
 cases o with
 | none=>exact (show False from r).elim
 | some u=>exact ⟨u,rfl,r⟩
theorem mH.none_of{o:Option Value}(r:mH none o):o=none:=by
 cases o with
 | none=>rfl
 | some u=>exact (show False from r).elim
theorem SQ(r:RelV v u):PySem.W.handedIn u=true:=by
 cases v with
 | aY=>cases (show u=Value.none from r);rfl
 | bl b=>cases (show u=Value.bool b from r);rfl
 | int i=>obtain ⟨t,e⟩:=(show ∃t,u=Value.int i t from r);cases e;rfl
 | str x=>obtain ⟨t,e⟩:=(show ∃t,u=Value.str x t from r);cases e;rfl
 | i_ b=>obtain ⟨t,e⟩:=(show ∃t,u=Value.bytes b t from r);cases e;rfl
 | qX b=>obtain ⟨t,e⟩:=(show ∃t,u=Value.float b t from r);cases e;rfl
 | ref a=>cases (show u=Value.ref a from r);rfl
 | ty n=>cases (show u=Value.type n from r);rfl
section
variable {P:Program} {w:World} {H H':Hp} {h h':Heap} {a C dx:Addr} {fs RK:List (Str×V)}
theorem BY(aN:dC P w H h)(e:H a=some (.ins C dx fs)):∃mA,rA h a dx C mA∧(∀f,mH (fs.lookup f) (mA f))∧PySem.Within mA (fs.map (·.1))∧fs.length≤1000∧H dx=some (.own a):=by obtain ⟨d,z,ne,ob,mA,n,r,q⟩:=(show fQ P w H h a (.ins C dx fs) from aN a _ e);exact ⟨mA,⟨ob,n,ne⟩,r,q,z,d⟩
end
structure lG (K:aJ) (C:Addr):Prop where
 pg:PySem.W.plainGet K C Str.empty=true
 hd:PySem.W.hasDictIn K C=true
 po:PySem.W.plainOver K C=true
 sa:PySem.W.findIn K (.ref C) "__setattr__"=some (some (.builtin "object.__setattr__"))
theorem lG.get{K:aJ}{C:Addr}(c:lG K C)(f:Str):PySem.W.plainGet K C f=true:=c.pg
def rB(K:aJ)(C:Addr)(f:Str):Prop:=PySem.W.findIn K (.ref C) f=some none
theorem rB.SR{f:Str}(n:rB K C f):PySem.W.takerIn K C f=some none:=by unfold PySem.W.takerIn;rw [show PySem.W.findIn K (.ref C) f=some none from n];rfl
structure Meth (K:aJ) (C:Addr) (m:Str) (f:Addr):Prop where
 at_:PySem.W.findIn K (.ref C) m=some (some (.ref f))
 fn:PySem.W.isFn K (.ref f)=true
 kp:PySem.W.keepIn K (.ref f)=true
section
variable {X:Cx} {pins:bM} {σ:St} {H:Hp} {s:Shared} {a C dx:Addr} {fs:List (Str×V)} {f:Str} {v:V} {A:Around} {E:cO}
variable {Q:cO}
theorem SS{b:Bool}(I:Inv X pins σ H s)(e:H a=some (.ins C dx fs))(c:lG X.K C)(n:rB X.K C f)(l:fs.lookup f=some v)
  (h:∀u s',Inv X pins σ H s'→RelV v u→Q u s'):wpAny (model X.prog X.w) A (getAttr (.ref a) f b) Q E s:=by
 obtain ⟨mA,O,r,_,_,_⟩:=BY I.aN e;obtain ⟨u,hu,ru⟩:=mH.some_of (v:=v) (o:=mA f) (by rw [←l];exact r f)
 exact get_map I.eP O (c.get f) c.hd n hu (SQ ru) (h u _ (I.tok _) ru)
theorem Ll{m:Str}{g:Addr}{pl:Sem Bool}{Q:Value×List Value→Shared→Prop}(I:Inv X pins σ H s)(e:H a=some (.ins C dx fs))(c:lG X.K C)(k:Meth X.K C m g)(l:fs.lookup m=none)
  (h:Q (.ref g,[.ref a]) s):wpAny (model X.prog X.w) A (getMethod (.ref a) m pl) Q E s:=by
 obtain ⟨mA,O,r,_,_,_⟩:=BY I.aN e;have hn:mA m=none:=mH.none_of (by rw [←l];exact r m)
 exact SI I.eP O (c.get m) k.at_ k.fn hn h
theorem SU{y:V}{Q:Unit→Shared→Prop}(I:Inv X pins σ H s)(e:H a=some (.ins C dx fs))(c:lG X.K C)(n:rB X.K C f)(hl:fs.length<1000)(ry:RelV y u)
  (h:∀s',Inv X pins σ (upd H a (.ins C dx (iG f y fs))) s'→Q () s'):wpAny (model X.prog X.w) A (setAttr (.ref a) f u) Q E s:=by
 obtain ⟨mA,O,r,wi,_,ho⟩:=BY I.aN e;have hz:(fs.map (·.1)).length≤sizeLine:=by rw [bL,sizeLine_eq];lia
 refine SJ I.eP O c.sa c.po n.SR c.hd wi hz fun h' O' sb=>h _ ?_;have hd:∃o,h'.get? dx=some o:=let ⟨o,_,_,e',_⟩:=O'.ns;⟨o,e'⟩
 refine I.write (x:=a) (e:=dx) (by rw [e];exact True.intro) (.inr ho) (fun b q hb z=>(sb.2 b hb).trans z) hd ?_
 refine ⟨by rw [bI O.ne];exact ho,?_,O.ne,O'.obj,_,O'.ns,fun g=>?_,fun g hg=>?_⟩
 ·have:=Lk f y fs;lia
 ·show mH ((iG f y fs).lookup g) (if g=f then some u else mA g)
  rw [Lj];by_cases q:g=f;·rw [ak q,ak q];exact ry
  ·rw [ao q,ao q];exact r g
 ·by_cases q:g=f
  ·rw [q];exact (FV f y fs).1
  ·refine (FV f y fs).2 g (wi g fun z=>hg ?_)
   show (if g=f then some u else mA g)=none
   rw [ao q];exact z
theorem Inv.made(I:Inv X pins σ H s):Inv X pins σ (upd (upd H s.heap.objs.size (.own (s.heap.objs.size+1))) (s.heap.objs.size+1) (.ins C s.heap.objs.size []))
  {s with heap:=(s.heap.push PySem.W.emptyDict).push (PySem.W.instObj C s.heap.objs.size)}:=by
 have e1:(s.heap.push PySem.W.emptyDict).get? s.heap.objs.size=some PySem.W.emptyDict:=gR s.heap rfl;have e2:((s.heap.push PySem.W.emptyDict).push (PySem.W.instObj C s.heap.objs.size)).get? (s.heap.objs.size+1)=some (PySem.W.instObj C s.heap.objs.size):=by
  have:=gR (s.heap.push PySem.W.emptyDict) (o:=PySem.W.instObj C s.heap.objs.size) rfl
  rwa [yE] at this
 have e3:(s.heap.push PySem.W.emptyDict).Ns s.heap.objs.size (fun _=>none):=⟨PySem.W.emptyDict,#[],_,e1,rfl,(fun e he=>absurd he (by simp)),fun _=>rfl⟩
 have I1:=I.laid (a:=s.heap.objs.size) (o:=.own (s.heap.objs.size+1)) (h':=s.heap.push PySem.W.emptyDict) (t':=s.toks) (fun b u q=>dA _ q) (aH _) ⟨_,e1⟩;refine I1.laid (a:=s.heap.objs.size+1) (o:=.ins C s.heap.objs.size []) (t':=s.toks) (fun b u q=>dA _ q) (ki (yE _ _)) ?_;have ne:s.heap.objs.size≠s.heap.objs.size+1:=ft (uT _);refine ⟨by rw [bI ne,aA],eJ _,ne,e2,fun _=>none,(Heap.Ns1.of_empty e3).at fun o q=>dA _ q,fun _=>True.intro,fun y hy=>absurd rfl hy⟩
theorem SV{prog:Program}{env:Env}{e:Expr}{pos:Pos}(hb:attributeBase e f env (eval e env)=eval e env)
  (h:wpAny (model prog w) A (eval e env) (fun o s₁=>wpAny (model prog w) A (getAttr o f true) Q E s₁) E s):wpAny (model prog w) A (eval (.Attribute e f pos) env) Q E s:=
 Attribute_any_ h (by rw [arm_eval_Attribute,hb])
end
def Lm(K:aJ)(ta:TE)(f:Str):TE:=fun σ H Q=>ta σ H fun x H1=>∃a C dx fs v,x=.ref a∧H1 a=some (.ins C dx fs)∧lG K C∧rB K C f∧fs.lookup f=some v∧Q v H1
def SW(K:aJ)(ta tv:TE)(f:Str):TS:=fun D σ H=>tv σ H fun y H1=>ta σ H1 fun x H2=>∃a C dx fs,x=.ref a∧H2 a=some (.ins C dx fs)∧lG K C∧rB K C f∧fs.length<1000 ∧
 D.nx σ (upd H2 a (.ins C dx (iG f y fs)))
section
variable {X:Cx} {o e value:Expr} {f:Str} {pos pos' Ln:Pos} {ta tv:TE}
theorem lH(he:PE X e ta)(hb:attributeBase e f X.env (eval e X.env)=eval e X.env):PE X (.Attribute e f pos) (Lm X.K ta f):=by intro pins s σ H Q I h;refine SV hb (aV (he pins s σ H _ I h) fun u s1 ⟨x,H1,I1,rx,a,C,dx,fs,v,ex,ea,c,n,l,q⟩=>?_);subst ex;obtain rfl:u=Value.ref a:=rx;exact SS I1 ea c n l fun u' s2 I2 ru=>⟨v,H1,I2,ru,q⟩
theorem Lo(ha:PE X o ta)(hv:PE X value tv)(hs:swapsWith value (some (.Attribute o f pos')) pos.line X.env=pure false):PS X (.Assign [.Attribute o f pos'] value pos) (SW X.K ta tv f):=by intro pins s σ H D I h;refine plainObj_wpAny_Assign_Attribute (aV (hv pins s σ H _ I h) fun u s1 ⟨y,H1,I1,ry,q⟩=>aV (ha pins s1 σ H1 _ I1 q) fun ov s2 ⟨x,H2,I2,rx,a,C,dx,fs,ex,ea,c,n,l,q2⟩=>?_) hs;subst ex;obtain rfl:ov=Value.ref a:=rx;exact SU I2 ea c n l ry fun s3 I3=>⟨σ,_,I3,q2⟩
theorem ahu{pl:Sem Bool}{m:Str}{apos:Pos}{args:List Expr}{pins:bM}{Q:cO}{te:TE}(he:PE X e te)(I:Inv X pins σ H s)
  (h:te σ H fun x H1=>∃a C dx fs g,x=.ref a∧H1 a=some (.ins C dx fs)∧lG X.K C∧Meth X.K C m g∧fs.lookup m=none ∧
   ∀s1,Inv X pins σ H1 s1→wpAny (model X.prog X.w) X.A (callWith pos (.ref g) [.ref a] (backTo pos (starEach args X.env)) (backToKw pos (keywordEach [] X.env))) Q X.xe s1)
  (ht:eval (.Call (.Attribute e m apos) args [] pos) X.env=(do
   let ov ←eval e X.env
   standAt apos.atName
   let (f,first) ←holding [ov] (getMethod ov m pl)
   callWith pos f first (backTo pos (starEach args X.env)) (backToKw pos (keywordEach [] X.env)))) :
  wpAny (model X.prog X.w) X.A (eval (.Call (.Attribute e m apos) args [] pos) X.env) Q X.xe s:=by
 refine PySem.W.methodCall_KW (pl:=pl) (aV (he pins s σ H _ I h) fun u s1 ⟨x,H1,I1,rx,a,C,dx,fs,g,ex,ea,c,k,l,q⟩=>?_) ht
 subst ex
 obtain rfl:u=Value.ref a:=rx
 exact Ll I1 ea c k l (q s1 I1)
end
section
variable {X:Cx} {pins:bM} {σ:St} {H:Hp} {s:Shared} {A:Around} {E:cO} {Q:cO} {c:Value} {b:Bool}
inductive jH (K:aJ) (H:Hp):V→Value→Prop where
 | aY:jH K H .aY (.type "NoneType")
 | bl (x:Bool):jH K H (.bl x) (.type "bool")
 | int (i:Int):jH K H (.int i) (.type "int")
 | str (x:Str):jH K H (.str x) (.type "str")
 | qX (x:UInt64):jH K H (.qX x) (.type "float")
 | lst {a:Addr} {xs:List V} (e:H a=some (.lst xs)):jH K H (.ref a) (.type "list")
 | iD {a:Addr} {o:Obj} {xs:List V} (e:H a=some (.iD o (.lst xs))):jH K H (.ref a) (.type "list")
 | tup {a:Addr} {xs:List V} (e:H a=some (.tup xs)):jH K H (.ref a) (.type "tuple")
 | dK {a:Addr} {c_:List (Key×V)} (e:H a=some (.dK c_)):jH K H (.ref a) (.type "dict")
 | dT {a:Addr} {c_:List (List Key×V)} (e:H a=some (.dT c_)):jH K H (.ref a) (.type "dict")
 | ins {a C dx:Addr} {fs:List (Str×V)} (e:H a=some (.ins C dx fs)) (cl:lG K C) (ha:PySem.W.findIn K (.ref C) "__class__"=some (some (.builtin "object.__class__")))
   (hn:PySem.W.specialIn K (.builtin "object.__class__") "__get__"=some (some (.builtin "getset_descriptor.__get__"))) (Lp:PySem.W.takesIn K (.builtin "object.__class__")=some true)
   (hm:PySem.W.mroIn K C (.type "object")=some true):jH K H (.ref a) (.ref C)
theorem SX{t:Value}(I:Inv X pins σ H s)(rx:RelV x u)(ty:jH X.K H x t)(e:PySem.W.kitOne X.K t c=some b)(h:∀tk,Q (.bool b) {s with toks:=tk}) :
  wpAny (model X.prog X.w) A (call (.builtin "isinstance") [u,c]) Q E s:=by
 cases ty with
 | aY=>cases (show u=Value.none from rx);exact jx PySem.W.kitx_none I.eP True.intro e (fun z=>nomatch z) h
 | bl y=>cases (show u=Value.bool y from rx);exact jx PySem.W.kitx_bool I.eP True.intro e (fun z=>nomatch z) h
 | int i=>obtain ⟨t,q⟩:=(show ∃t,u=Value.int i t from rx);cases q;exact jx PySem.W.kitx_int I.eP True.intro e (fun z=>nomatch z) h
 | str y=>obtain ⟨t,q⟩:=(show ∃t,u=Value.str y t from rx);cases q;exact jx PySem.W.kitx_str I.eP True.intro e (fun z=>nomatch z) h
 | qX y=>obtain ⟨t,q⟩:=(show ∃t,u=Value.float y t from rx);cases q;exact jx PySem.W.kitx_float I.eP True.intro e (fun z=>nomatch z) h
 | @lst a xs ea=>cases (show u=Value.ref a from rx);obtain ⟨_,_,n,_,h1⟩:=(show fQ X.prog X.w H s.heap a (.lst xs) from I.aN a _ ea);exact jx PySem.W.kitx_list I.eP ⟨_,h1,rfl⟩ e (fun z=>nomatch z) h
 | @iD a ob xs ea=>cases (show u=Value.ref a from rx);obtain ⟨_,_,_,n,_,h1⟩:=(show fQ X.prog X.w H s.heap a (.iD ob (.lst xs)) from I.aN a _ ea);exact jx PySem.W.kitx_list I.eP ⟨_,h1,rfl⟩ e (fun z=>nomatch z) h
 | @tup a xs ea=>cases (show u=Value.ref a from rx);obtain ⟨_,_,_,p⟩:=(show fQ X.prog X.w H s.heap a (.tup xs) from I.aN a _ ea);obtain ⟨o,h1,h2,_⟩:=p;exact jx PySem.W.kitx_tuple I.eP ⟨o,h1,h2⟩ e (fun z=>nomatch z) h
 | @dK a c_ ea=>cases (show u=Value.ref a from rx);obtain ⟨_,_,vs,_,p⟩:=(show fQ X.prog X.w H s.heap a (.dK c_) from I.aN a _ ea);obtain ⟨o,es,ep,h1,h2,_⟩:=p;exact jx PySem.W.kitx_dict I.eP ⟨o,h1,h2.1⟩ e (fun z=>nomatch z) h
 | @dT a c_ ea=>cases (show u=Value.ref a from rx);obtain ⟨_,_,xs,_,o,es,ep,h1,h2,_⟩:=(show fQ X.prog X.w H s.heap a (.dT c_) from I.aN a _ ea);exact jx PySem.W.kitx_dict I.eP ⟨o,h1,h2.1⟩ e (fun z=>nomatch z) h
 | @ins a C dx fs ea cl ha hn Lp hm=>cases (show u=Value.ref a from rx);obtain ⟨mA,O,_⟩:=BY I.aN ea;obtain ⟨od,J,_⟩:=O.look;exact jx (PySem.W.kitx_own (cl.get _) cl.hd ha hn Lp hm) I.eP J e (fun z=>nomatch z) h
end
structure dQ (k:Nat) (A:Around):Prop where
 hd:A.handled=none
 dp:A.depth+3*k+5<recursionLimit
 un:A.units+16*k+200<cLine
variable {k:Nat}
theorem dQ.mono{j:Nat}(r:dQ k A)(h:j≤k):dQ j A:=⟨r.hd,by have:=r.dp;lia,by have:=r.un;lia⟩
theorem dQ.deeper(r:dQ (k+1) A)(env:Env):dQ k (A.deeper env):=
 ⟨r.hd,by have:=r.dp;show A.depth+1+3*k+5<_;lia,by have:=r.un;show A.units+3+16*k+200<_;lia⟩
variable {kw:List (Str×Value)}
theorem SY:(A.under (.builtin "type.__call__" ⟨.ref C::us,kw⟩)).depth=A.depth+1:=by first | rfl | simp [Around.under,Code.weight,Code.isCreation,Code.isGuard,Code.isCaller,Code.frames,Code.isFrame,guardIds]
theorem S3:(A.under (.builtin "type.__call__" ⟨.ref C::us,kw⟩)).units=A.units+1:=by first | rfl | simp [Around.under,Code.cUnits,Code.frames,Code.isFrame]
theorem dQ.make(r:dQ (k+1) A)(C:Addr)(us:List Value)(kw:List (Str×Value)):dQ k (A.under (.builtin "type.__call__" ⟨.ref C::us,kw⟩)):=
 ⟨r.hd,by have:=r.dp;rw [SY];lia,by have:=r.un;rw [S3];lia⟩
theorem dQ.depth(r:dQ k A):A.depth<recursionLimit:=by have:=r.dp;lia
theorem dQ.units(r:dQ k A):A.units+64<cLine:=by have:=r.un;lia
theorem dQ.Lq(r:dQ k A):A.units<cLine:=by have:=r.un;lia
def BZ:TA:=fun _ H Q=>Q [] H
def rC(ta:TE)(tr:TA):TA:=fun σ H Q=>ta σ H fun x H1=>tr σ H1 fun xs H2=>Q (x::xs) H2
section
variable {X:Cx} {e:Expr} {es:List Expr} {te:TE} {t:TA} {pos:Pos}
theorem ai:PA X [] BZ:=fun _ _ _ _ H Q I h=>Calls.spliced_nil ⟨[],H,I,.nil,h⟩
theorem S4(ha:PE X e te)(hr:PA X es t)(hs:starEach (e::es) X.env=(false,eval e X.env)::starEach es X.env:=by rfl):PA X (e::es) (rC te t):=by intro pos pins s σ H Q I h;rw [hs];show wpAny _ _ (spliced ((false,eval e X.env)::backTo pos (starEach es X.env))) _ _ s;refine Calls.spliced_cons (aV (ha pins s σ H _ I h) fun u s1 ⟨x,H1,I1,r1,q1⟩=>?_);exact aV (hr pos pins s1 σ H1 _ I1 q1) fun us s2 ⟨xs,H2,I2,r2,q2⟩=>⟨x::xs,H2,I2,.cons r1 r2,q2⟩
def Lr(t:TA):TE:=fun σ H Q=>t σ H fun xs H1=>xs.length≤sizeLine∧∀p,H1 p=none→Q (.ref p) (upd H1 p (.tup xs))
def Ls(t:TA):TE:=fun σ H Q=>t σ H fun xs H1=>xs.length≤sizeLine∧∀p,H1 p=none→Q (.ref p) (upd H1 p (.lst xs))
theorem fZ{x1}(h:PA X es t):PE X (.Tuple es x1 pos) (Lr t):=by
 intro pins s σ H Q I hq;refine wpAny_Tuple_spliced (aV (h pos pins s σ H _ I hq) fun us s1 ⟨xs,H1,I1,r,z,q⟩=>⟨by rw [←r.length];exact z,?_⟩)
 have hf:H1 s1.heap.objs.size=none:=I1.aN.fresh (aH _);refine ⟨.ref s1.heap.objs.size,upd H1 s1.heap.objs.size (.tup xs),I1.laid (t':=s1.toks) (fun b u e=>dA _ e) (aH _) ?_,rfl,q _ hf⟩;exact ⟨z,us,r,⟨_,gR _ rfl,rfl,_,rfl⟩⟩
theorem dM(h:PA X es t):PE X (.List es pos) (Ls t):=by
 intro pins s σ H Q I hq;refine wpAny_List_spliced (aV (h pos pins s σ H _ I hq) fun us s1 ⟨xs,H1,I1,r,z,q⟩=>⟨by rw [←r.length];exact z,?_⟩)
 have hf:H1 s1.heap.objs.size=none:=I1.aN.fresh (aH _);refine ⟨.ref s1.heap.objs.size,upd H1 s1.heap.objs.size (.lst xs),I1.laid (t':=s1.toks) (fun b u e=>dA _ e) (aH _) ?_,rfl,q _ hf⟩;exact ⟨z,us,0,r,gR _ rfl⟩
end
abbrev Sp:=List V→Hp→VK→XK→Prop
abbrev jd:=List Env→Hp→Shared→XK→Value→Shared→Prop
structure rD (P:Program) (w:World) (K:aJ) (mg:dU) (base:Heap) (A:Around) (outer:List Env) (s:Shared) (H:Hp):Prop where
 frames:A.frames=some outer
 mod:Mod K mg base
 bs:∀b o,base.get? b=some o→s.heap.get? b=some o∧H b=none
 ig:base.objs.size≤s.heap.objs.size
 kv:s.heap.FunFrames base outer
 om:∀b∈dh outer,H b=none
 aN:dC P w H s.heap
 bare:AllBare s.gens
def CE(outer:List Env)(P:Program)(w:World)(H:Hp)(s:Shared)(Q:VK)(u:Value)(s':Shared):Prop:=
 ∃v H',s'.os=s.os∧AllBare s'.gens∧Un (dh outer) [] H H' s.heap s'.heap∧dC P w H' s'.heap∧RelV v u∧Q v H'
def CR(CX:jd)(outer:List Env)(P:Program)(w:World)(H:Hp)(s:Shared)(Q:VK)(E:XK)(r:Result)(s':Shared):Prop:=
 match r with
 | .ok (.ret u)=>CE outer P w H s Q u s'
 | .ok _=>False
 | .error e=>CX outer H s E e s'
structure a7 (P:Program) (w:World) (K:aJ) (mg:dU) (base:Heap) (CX:jd) (k:Nat) (f:Addr) (fd:FuncData) (ps:List Str) (sp:Sp):Prop where
 len:∀vs H Q E,sp vs H Q E→vs.length=ps.length
 run:∀(A:Around) (outer:List Env) (s:Shared) (H:Hp) (args:Args) (us:List Value) (vs:List V) (Q:VK) (E:XK),dQ k A→rD P w K mg base A outer s H→BindsTo s fd args (ps.zip us)→Vals vs us→sp vs H Q E→
  codeAny (model P w) A (.call (.ref f) args) (CR CX outer P w H s Q E) s
variable {mg:dU} {base:Heap} {outer:List Env}
theorem rD.make(e:rD P w K mg base A outer s H)(C:Addr)(us:List Value)(kw:List (Str×Value)) :
  rD P w K mg base (A.under (.builtin "type.__call__" ⟨.ref C::us,kw⟩)) outer s H:=⟨by first | exact e.frames | (simpa [Around.under,Code.envs,Code.isFrame,pushEnvs] using e.frames),e.mod,e.bs,e.ig,e.kv,e.om,e.aN,e.bare⟩
section
variable {X:Cx} {pins:bM} {σ:St} {H:Hp} {s s':Shared}
theorem Inv.Lu(I:Inv X pins σ H s):rD X.prog X.w X.K X.mg X.base X.A X.stack s H:=
 ⟨I.ok.frames,I.ok.mod,I.bs,aq I.ok.ig I.sz,I.stack,I.q_,I.aN,I.bare⟩
theorem Inv.after{Q:VK}(I:Inv X pins σ H s)(h:CE X.stack X.prog X.w H s Q u s'):EP X pins σ Q u s':=by obtain ⟨v,H',os,bare,un,aN,r,q⟩:=h;obtain ⟨hh,g,d,t,S5⟩:=s';obtain rfl:S5=s.os:=os;exact ⟨v,H',I.call (h':=hh) (g':=g) (d':=d) (t':=t) (ch:=[]) un aN bare (fun b z=>absurd z (by simp)),r,q⟩
end
def Lv(sp:Sp)(gs:List V)(E:XK)(t:TA):TE:=fun σ H Q=>t σ H fun vs H1=>sp (vs++gs) H1 Q E
def S6(C:Addr)(m:Str)(sp:Sp)(gs:List V)(E:XK)(ta:TE)(t:TA):TE:=fun σ H Q=>ta σ H fun x H1=>∃a dx fs,x=.ref a∧H1 a=some (.ins C dx fs)∧fs.lookup m=none ∧
 t σ H1 fun vs H2=>sp (x::(vs++gs)) H2 Q E
def S7(C:Addr)(sp:Sp)(gs:List V)(E:XK)(t:TA):TE:=fun σ H Q=>t σ H fun vs H1=>∀x dx,H1 x=none→H1 dx=none→dx≠x→
 sp (.ref x::(vs++gs)) (upd (upd H1 dx (.own x)) x (.ins C dx [])) (fun v H2=>v=.aY∧Q (.ref x) H2) E
def Binds(K:aJ)(fd:FuncData)(ps:List Str)(ds:List Value):Prop:=
 ∀(s:Shared) (us:List Value),K.In s.heap→(us++ds).length=ps.length→BindsTo s fd ⟨us,[]⟩ (ps.zip (us++ds))
variable {ps:List Str}
theorem Binds.all{fd:FuncData}(h:∀us:List Value,us.length=ps.length→bindArgs fd ⟨us,[]⟩=pure (ps.zip us)):Binds K fd ps []:=fun s us _ hl=>by rw [List.append_nil] at hl ⊢;exact .of_eq (h us hl)
def Passes(CX:jd)(X:Cx)(E:XK):Prop:=∀(pins:bM) (σ:St) (H:Hp) (s:Shared) (e:Value) (s':Shared),Inv X pins σ H s→CX X.stack H s E e s'→X.xe e s'
section
variable {X:Cx} {CX:jd} {k:Nat} {f C:Addr} {fd:FuncData} {ps:List Str} {sp:Sp} {gs:List V} {ds:List Value} {E:XK} {x m:Str} {p pos apos:Pos} {e o:Expr} {es:List Expr} {ta:TE} {t:TA}
variable {pins:bM} {Q:VK}
theorem Lw{vs:List V}(F:a7 X.prog X.w X.K X.mg X.base CX k f fd ps sp)(hr:dQ k X.A)(hb:Binds X.K fd ps ds)(hd:Vals gs ds)(hx:Passes CX X E)
  (I:Inv X pins σ H s) (r:Vals vs us) (h:sp (vs++gs) H Q E):wpAny (model X.prog X.w) X.A (call (.ref f) us) (EP X pins σ Q) X.xe s:=by
 have r2:Vals (vs++gs) (us++ds):=r.append hd;have hl:(us++ds).length=ps.length:=by rw [←r2.length];exact F.len _ _ _ _ h
 refine wpAny_call (codeAny_mono (F.run X.A X.stack s H ⟨us,[]⟩ (us++ds) (vs++gs) Q E hr I.Lu (hb s us I.eP hl) r2 h) fun r s' hq=>?_);cases r with
 | error e=>exact hx pins σ H s e s' I hq
 | ok fl=>
  cases fl with
  | ret u=>exact I.after hq
  | next=>exact False.elim hq
  | brk=>exact False.elim hq
  | cont=>exact False.elim hq
theorem S8(F:a7 X.prog X.w X.K X.mg X.base CX k f fd ps sp)(hr:dQ k X.A)(hg:Gl X x)(hm:X.mg x=some (.ref f))(hk:PySem.W.keepIn X.K (.ref f)=true)(hb:Binds X.K fd ps ds)(hd:Vals gs ds)(hx:Passes CX X E)
  (ha:PA X (e::es) t) (oy:(x == ("__debug__":Str))=false:=by decide) (he:starEach (e::es) X.env=(false,eval e X.env)::starEach es X.env:=by rfl) (kG:(backTo pos (starEach es X.env)).any (·.1)=false:=by rfl) :
  PE X (.Call (.Name x p) (e::es) [] pos) (Lv sp gs E t):=by
 intro pins s σ H Q I h;refine Bm (BL I hg hm ?_ oy);refine PySem.W.callWith_K (h₀:=X.base) I.ok.mod.dJ hk (aV (ha pos pins s σ H _ I h) fun us s1 ⟨vs,H1,I1,r,q⟩=>⟨I1.eP,?_⟩) he kG;exact Lw F hr hb hd hx I1 r q
theorem aM{j:Nat}(F:a7 X.prog X.w X.K X.mg X.base CX k f fd ps sp)(hr:dQ j X.A)(hm:X.mg x=some (.ref f))(hk:PySem.W.keepIn X.K (.ref f)=true)(hb:Binds X.K fd ps [])(hx:Passes CX X E)
  (ha:PA X (e::es) t) (hj:k≤j:=by decide) (hg:Gl X x:=by exact rfl) (oy:(x == ("__debug__":Str))=false:=by decide) (he:starEach (e::es) X.env=(false,eval e X.env)::starEach es X.env:=by rfl) (kG:(backTo pos (starEach es X.env)).any (·.1)=false:=by rfl) :
  PE X (.Call (.Name x p) (e::es) [] pos) (Lv sp [] E t):=S8 F (hr.mono hj) hg hm hk hb .nil hx ha oy he kG
theorem kH{pl:Sem Bool}(he:PE X o ta)(c:lG X.K C)(hm:Meth X.K C m f)(F:a7 X.prog X.w X.K X.mg X.base CX k f fd ps sp)(hr:dQ k X.A)(hb:Binds X.K fd ps ds)(hd:Vals gs ds)(hx:Passes CX X E)(ha:PA X (e::es) t)
  (FI:starEach (e::es) X.env=(false,eval e X.env)::starEach es X.env:=by rfl) (kG:(backTo pos (starEach es X.env)).any (·.1)=false:=by rfl)
  (ht:eval (.Call (.Attribute o m apos) (e::es) [] pos) X.env=(do
   let ov ←eval o X.env
   standAt apos.atName
   let (f,first) ←holding [ov] (getMethod ov m pl)
   callWith pos f first (backTo pos (starEach (e::es) X.env)) (backToKw pos (keywordEach [] X.env))):=by rfl) :
  PE X (.Call (.Attribute o m apos) (e::es) [] pos) (S6 C m sp gs E ta t):=by
 intro pins s σ H Q I h
 refine PySem.W.methodCall_KW (pl:=pl) (aV (he pins s σ H _ I h) fun u s1 ⟨x,H1,I1,rx,a,dx,fs,ex,ea,l,q⟩=>?_) ht
 subst ex
 obtain rfl:u=Value.ref a:=rx
 refine Ll I1 ea c hm l ?_
 refine PySem.W.callWith_K (first:=[.ref a]) (h₀:=X.base) I.ok.mod.dJ hm.kp (aV (ha pos pins s1 σ H1 _ I1 q) fun us s2 ⟨vs,H2,I2,r,q2⟩=>⟨I2.eP,?_⟩) FI kG
 exact Lw (us:=.ref a::us) (vs:=.ref a::vs) F hr hb hd hx I2 (.cons rfl r) q2
structure Mk (K:aJ) (C f:Addr):Prop where
 makes:PySem.W.makesIn K C=true
 init:PySem.W.findIn K (.ref C) "__init__"=some (some (.ref f))
 fn:PySem.W.isFn K (.ref f)=true
 kp:PySem.W.keepIn K (.ref C)=true
theorem S9{vs:List V}(M:Mk X.K C f)(F:a7 X.prog X.w X.K X.mg X.base CX k f fd ps sp)(hr:dQ (k+1) X.A)(hb:Binds X.K fd ps ds)(hd:Vals gs ds)
  (hx:Passes CX X E) (I:Inv X pins σ H s) (r:Vals vs us)
  (h:∀x dx,H x=none→H dx=none→dx≠x→sp (.ref x::(vs++gs)) (upd (upd H dx (.own x)) x (.ins C dx [])) (fun v H2=>v=.aY∧Q (.ref x) H2) E) :
  wpAny (model X.prog X.w) X.A (call (.ref C) us) (EP X pins σ Q) X.xe s:=by
 have hq:=h (s.heap.objs.size+1) s.heap.objs.size (I.aN.fresh (kj _)) (I.aN.fresh (aH _)) (ft (uT _));have I2:=Inv.made (C:=C) I;have r2:Vals (V.ref (s.heap.objs.size+1)::(vs++gs)) (Value.ref (s.heap.objs.size+1)::(us++ds)):=.cons rfl (r.append hd);have hl:(Value.ref (s.heap.objs.size+1)::us++ds).length=ps.length:=by have e:=r2.length;rw [F.len _ _ _ _ hq] at e;exact e.symm
 refine wpAny_call (SO (f:=f) I.eP M.makes M.init (mD.mp M.fn) (codeAny_mono (F.run _ X.stack _ _ ⟨Value.ref (s.heap.objs.size+1)::us,[]⟩ (Value.ref (s.heap.objs.size+1)::(us++ds)) _ _ E (hr.make C us [])
  (I2.Lu.make C us []) (hb _ (Value.ref (s.heap.objs.size+1)::us) I2.eP hl) r2 hq) fun r s' oz=>?_))
 cases r with
 | error e=>exact hx pins σ _ _ e s' I2 oz
 | ok fl=>
  cases fl with
  | ret u=>obtain ⟨v,H',I3,rv,ev,q3⟩:=I2.after oz;subst ev;exact ⟨rv,⟨V.ref (s.heap.objs.size+1),H',I3,rfl,q3⟩⟩
  | next=>exact False.elim oz
  | brk=>exact False.elim oz
  | cont=>exact False.elim oz
theorem Lx(M:Mk X.K C f)(F:a7 X.prog X.w X.K X.mg X.base CX k f fd ps sp)(hr:dQ (k+1) X.A)(hg:Gl X x)(hm:X.mg x=some (.ref C))(hb:Binds X.K fd ps ds)(hd:Vals gs ds)(hx:Passes CX X E)
  (ha:PA X (e::es) t) (oy:(x == ("__debug__":Str))=false:=by decide) (he:starEach (e::es) X.env=(false,eval e X.env)::starEach es X.env:=by rfl) (kG:(backTo pos (starEach es X.env)).any (·.1)=false:=by rfl) :
  PE X (.Call (.Name x p) (e::es) [] pos) (S7 C sp gs E t):=by
 intro pins s σ H Q I h;refine Bm (BL I hg hm ?_ oy);refine PySem.W.callWith_K (h₀:=X.base) I.ok.mod.dJ M.kp (aV (ha pos pins s σ H _ I h) fun us s1 ⟨vs,H1,I1,r,q⟩=>⟨I1.eP,?_⟩) he kG;exact S9 M F hr hb hd hx I1 r q
end
section
variable {X:Cx} {CX:jd} {k:Nat} {f C:Addr} {fd:FuncData} {ps ks:List Str} {sp:Sp} {E:XK} {x m:Str} {p pos apos S_:Pos} {e o:Expr} {es:List Expr} {kws:List Keyword} {te ta:TE} {t tk:TA} {nm:Option Str}
variable {g:List Value→List Value→List Value} {gV:List V→List V→List V}
end
structure bF (N P:List Str) (sc:Scope):Prop where
 kind:sc.kind=.function
 co:sc.isCoroutine=false
 gen:sc.isGenerator=false
 nd:N.Nodup
 pre:N.take P.length=P
 par:∀x∈P,sc.names.lookup x=some .local∨sc.names.lookup x=some .cell
 Ta:∀y∈sc.names,y.2≠.free
variable {N:List Str} {sc:Scope}
theorem bY{P:List Str}(h1:sc.kind=.function:=by rfl)(h2:sc.isCoroutine=false:=by rfl)(h3:sc.isGenerator=false:=by rfl)(h4:N.Nodup:=by decide +kernel)(h5:N.take P.length=P:=by rfl)(h6:∀x∈P,sc.names.lookup x=some .local∨sc.names.lookup x=some .cell:=by decide +kernel)(h7:∀y∈sc.names,y.2≠.free:=by decide +kernel):bF N P sc:=⟨h1,h2,h3,h4,h5,h6,h7⟩
theorem Ly{kindOf:Str→Option NameKind}{x:Str}:∀{binds:List (Str×Value)} {m:dU},(∀v,(x,v)∉binds)→bindL kindOf binds m x=m x
 | [],_,_=>rfl
 | (n,v)::r,m,h=>by
  unfold bindL;rw [Ly fun w hw=>h w (gg _ hw)]
  split
  ·have:x≠n:=by rintro rfl;exact h v gB
   simp [this]
  ·rfl
theorem Lz{kindOf:Str→Option NameKind}{x:Str}:∀{binds:List (Str×Value)} {m:dU},(∀v,(x,v)∉binds)→bindC kindOf binds m x=m x
 | [],_,_=>rfl
 | (n,v)::r,m,h=>by
  unfold bindC;rw [Lz fun w hw=>h w (gg _ hw)]
  split
  ·rfl
  ·have:x≠n:=by rintro rfl;exact h v gB
   simp [this]
theorem LA{kindOf:Str→Option NameKind}{x:Str}{v:Value}:∀{P:List Str} {vs:List Value} {i:Nat} {m:dU},P.Nodup→P[i]?=some x→vs[i]?=some v→kindOf x=some .local→
  bindL kindOf (P.zip vs) m x=some v
 | [],_,_,_,_,h,_,_=>by simp at h
 | _::_,[],_,_,_,_,h,_=>by simp at h
 | p::P,w::vs,0,m,nd,h1,h2,hk=>by simp at h1 h2;subst h1;subst h2;show bindL kindOf ((p,w)::P.zip vs) m p=_;unfold bindL;rw [Ly fun v hv=>(Bn.mp nd).1 (yF hv).1,ak hk];simp
 | p::P,w::vs,i+1,m,nd,h1,h2,hk=>by show bindL kindOf ((p,w)::P.zip vs) m x=_;unfold bindL;exact LA (i:=i) (Bn.mp nd).2 (by simpa using h1) (by simpa using h2) hk
theorem LB{kindOf:Str→Option NameKind}{x:Str}{v:Value}:∀{P:List Str} {vs:List Value} {i:Nat} {m:dU},P.Nodup→P[i]?=some x→vs[i]?=some v→kindOf x≠some .local→
  bindC kindOf (P.zip vs) m x=some v
 | [],_,_,_,_,h,_,_=>by simp at h
 | _::_,[],_,_,_,_,h,_=>by simp at h
 | p::P,w::vs,0,m,nd,h1,h2,hk=>by simp at h1 h2;subst h1;subst h2;show bindC kindOf ((p,w)::P.zip vs) m p=_;unfold bindC;rw [Lz fun v hv=>(Bn.mp nd).1 (yF hv).1,ao hk];simp
 | p::P,w::vs,i+1,m,nd,h1,h2,hk=>by show bindC kindOf ((p,w)::P.zip vs) m x=_;unfold bindC;exact LB (i:=i) (Bn.mp nd).2 (by simpa using h1) (by simpa using h2) hk
def start(N:List Str)(vs:List V):St:=vs.map some++List.replicate (N.length-vs.length) none
def jI(CX:jd)(P:Program)(w:World)(K:aJ)(mg:dU)(base:Heap)(N:List Str)(qual:Str)(scope:Scope)(f:Addr)(cd:Value)(A:Around)(outer:List Env)(s:Shared)(H:Hp)(E:XK):Cx where
 prog:=P
 w:=w
 K:=K
 mg:=mg
 base:=base
 A:=A.deeper (envOfC qual scope s.heap.objs.size f cd)
 N:=N
 s₀:=s
 H₀:=H
 env:=envOfC qual scope s.heap.objs.size f cd
 outer:=outer
 stack:=envOfC qual scope s.heap.objs.size f cd::outer
 ex:=[]
 calm:=true
 fn:=fun _=>true
 pn:=[]
 xe:=fun e s'=>wpAny (model P w) (A.deeper (envOfC qual scope s.heap.objs.size f cd)) (leaving (envOfC qual scope s.heap.objs.size f cd) e) (fun _ jJ=>CX outer H s E e jJ) (fun e' jJ=>CX outer H s E e' jJ) s'
theorem LC{x:Str}(h:sc.names.lookup x=some .cell):∃c,(cellsFrom n sc.names []).lookup x=some c:=by have q:=PySem.W.cellsFrom_some sc.names n [] (.inl h);exact Fh.mp q
variable {CX:jd} {qual:Str} {scope:Scope} {f:Addr}
theorem Tb{cd:Value}{s1:Shared}{E:XK}{vs:List V}
  (S:bF N ps scope) (hd:A.handled=none) (e0:rD P w K mg base A outer s H) (hl:vs.length=ps.length) (r:Vals vs us)
  (x:InCallC s s.heap.objs.size (bindL (envOfC qual scope s.heap.objs.size f cd).kindOf (ps.zip us) fun _=>none) (cellsFrom (s.heap.objs.size+1) scope.names []) (bindC (envOfC qual scope s.heap.objs.size f cd).kindOf (ps.zip us) fun _=>none) s1) :
  Inv (jI CX P w K mg base N qual scope f cd A outer s H E) [] (start N vs) H s1:=by
 have kG:ps.length≤N.length:=by have:=hJ List.length S.pre;rw [qO] at this;lia
 obtain ⟨h1,tk,rfl,hk⟩:=x.done;have rE:∀b:Addr,b∉(jI CX P w K mg base N qual scope f cd A outer s H E).ex:=fun b z=>absurd (show b∈([]:List Addr) from z) (by simp)
 refine ⟨⟨e0.mod,S.kind,rfl,rfl,aH _,fun y z c h1 h2=>?_,fun y hy=>?_,fun y c _ h=>?_,fun _=>hd,Around.frames_deeper e0.frames,.inr ⟨rfl,rfl⟩,fun b z=>absurd z (rE b),e0.bs,e0.ig,fun b _ _=>rE b,fun b z=>absurd z (rE b),e0.kv,e0.om⟩,
  rfl,e0.bare,Un.kept hk,⟨_,x.toInCall.ns,fun i y v h1 h2 h3=>?_⟩,fun y c h=>⟨_,x.cell y c h⟩,e0.aN.fresh (aH _),fun y c h=>?_,fun p hp=>absurd (show p∈([]:bM) from hp) (by simp),e0.aN.kept hk,?_⟩
 ·exact name_of_addr x.apart (kl h1) (kl h2)
 ·have hy:scope.names.lookup y=some .cell∨scope.names.lookup y=some .free:=hy
  rcases hy with hy | hy;·exact LC hy
  ·exact absurd rfl (S.Ta _ (kl hy))
 ·exact yA (x.above y c (kl h))
 ·have hi:i<vs.length:=by
   unfold start at h2;by_cases hi:i<vs.length;·exact hi
   ·rw [fN (by simpa using hi)] at h2
    rw [List.getElem?_replicate] at h2
    split at h2 <;> cases h2
  have ha:vs[i]?=some v:=by
   unfold start at h2;rw [fD (by simpa using hi),cF] at h2
   cases e:vs[i]? with
   | none=>rw [e] at h2;cases h2
   | some a=>rw [e] at h2;cases h2;rfl
  obtain ⟨u,hu,rv⟩:=r.get ha;have hp:ps[i]?=some y:=by rw [←S.pre,Fi (by lia)];exact h1
  have LD:ps.Nodup:=by rw [←S.pre];exact S.nd.sublist (List.take_sublist _ _)
  refine ⟨u,rv,?_⟩;rcases S.par y (pD hp) with k | k;·exact .inl ⟨k,LA LD hp hu k⟩
  ·obtain ⟨c,e⟩:=LC (n:=s.heap.objs.size+1) k
   refine .inr ⟨.inl k,c,e,?_⟩;have q:=x.cell y c e;rw [LB LD hp hu (by show scope.names.lookup y≠_;rw [k];decide)] at q
   exact q
 ·exact e0.aN.fresh (yA (x.above y c (kl h)))
 ·unfold start
  show _=N.length;rw [iS,bL,List.length_replicate];lia
theorem FW{name:Str}{params:Arguments}{body:List Stmt}{dV kV doc pm br ct oc:Value}{an od:Option Addr}
  {gH:Array (Option Value)} {sp:Sp} (lk:K.lookup f=some ⟨oc,od,.func (PySem.W.fnOf name qual params body scope dV kV doc pm an br ct),gH⟩) (gF:PySem.W.codeIn K br qual=true) (S:bF N ps scope)
  (len:∀vs H Q E,sp vs H Q E→vs.length=ps.length)
  (lI:∀(A:Around) (outer:List Env) (s:Shared) (H:Hp) (vs:List V) (Q:VK) (E:XK),dQ k (A.deeper (envOfC qual scope s.heap.objs.size f br))→sp vs H Q E→
   ∃t,gk (jI CX P w K mg base N qual scope f br A outer s H E) body t∧t {nx:=fun _ H'=>Q .aY H',rt:=Q} (start N vs) H) :
  a7 P w K mg base CX (k+1) f (PySem.W.fnOf name qual params body scope dV kV doc pm an br ct) ps sp:=by
 refine ⟨len,fun A outer s H args us vs Q E hr e0 hb r kI=>?_⟩;have hl:=len _ _ _ _ kI;have KX:K.In s.heap:=e0.mod.dJ.keeps fun b o e=>(e0.bs b o e).1;have lim:s.heap.NoLimit:=e0.mod.nolimit.keeps fun b o e=>(e0.bs b o e).1;have Tc:∀y∈ps.zip us,scope.names.lookup y.1=some .local∨(scope.names.lookup y.1=some .cell∧((cellsFrom (s.heap.objs.size+1) scope.names []).lookup y.1).isSome=true):=fun⟨n,v⟩ hy=>by
  rcases S.par n (yF hy).1 with q | q;·exact .inl q
  ·exact .inr ⟨q,PySem.W.cellsFrom_some _ _ _ (.inl q)⟩
 refine codeAny_call_function hr.depth (KX _ _ lk) rfl S.co S.gen rfl (PySem.W.codeRec_of KX gF) (hb _ _ _ _ ?_);refine wpAny_newFunctionEnv_cells S.kind Tc fun env he s1 x=>?_;subst he;refine ⟨lim.keeps x.toInCall.keep,codeAny_func ?_⟩;obtain ⟨t,ht,hq⟩:=lI A outer s H vs Q E (hr.deeper _) kI;have I:Inv (jI CX P w K mg base N qual scope f br A outer s H E) [] (start N vs) H s1:=Tb S hr.hd e0 hl r x;refine cI (ht [] s1 (start N vs) H _ I hq) (fun fl s' hs=>?_) fun e s' hs=>hs;have fin:∀{σ':St} {H':Hp} {v:V} {u:Value},Inv (jI CX P w K mg base N qual scope f br A outer s H E) [] σ' H' s'→RelV v u→Q v H'→CE outer P w H s Q u s':=
  fun{σ' H' v u} J rv q=>⟨v,H',J.os,J.bare,J.base,J.aN,rv,q⟩
 cases fl with
 | ret u=>obtain ⟨v,σ',H',J,rv,q⟩:=hs;exact fin J rv q
 | next=>obtain ⟨σ',H',J,q⟩:=hs;exact fin (v:=V.aY) (u:=Value.none) J rfl q
 | brk=>obtain ⟨_,_,_,q⟩:=hs;exact False.elim q
 | cont=>obtain ⟨_,_,_,q⟩:=hs;exact False.elim q
section
variable {X:Cx} {x:Str} {p pos:Pos} {e:Expr} {es:List Expr} {t:TA} {id T:String} {r:List V→Hp→VK→Prop}
def B0(r:List V→Hp→VK→Prop)(t:TA):TE:=fun σ H Q=>t σ H fun vs H1=>r vs H1 Q
theorem cD(hc:jc X (.builtin id) r)(hg:Gl X x)(hm:X.mg x=none)(hv:bootBuiltins x=some (.builtin id))(ha:PA X (e::es) t)(hn:x ≠ "__name__":=by decide)(oy:(x == ("__debug__":Str))=false:=by decide)
  (he:starEach (e::es) X.env=(false,eval e X.env)::starEach es X.env:=by rfl) (kG:(backTo pos (starEach es X.env)).any (·.1)=false:=by rfl):PE X (.Call (.Name x p) (e::es) [] pos) (B0 r t):=by
 intro pins s σ H Q I h;refine Bm (u5 I hg hm hv ?_ hn oy);exact PyProof.Rows.callWith_builtin1 (aV (ha pos pins s σ H _ I h) fun us s1 ⟨vs,H1,I1,r1,q1⟩=>hc pins s1 σ H1 vs us Q I1 r1 q1) he kG
theorem pU(hc:jc X (.type T) r)(hg:Gl X x)(hm:X.mg x=none)(hv:bootBuiltins x=some (.type T))(ha:PA X (e::es) t)(hn:x ≠ "__name__":=by decide)(oy:(x == ("__debug__":Str))=false:=by decide)
  (he:starEach (e::es) X.env=(false,eval e X.env)::starEach es X.env:=by rfl) (kG:(backTo pos (starEach es X.env)).any (·.1)=false:=by rfl):PE X (.Call (.Name x p) (e::es) [] pos) (B0 r t):=by
 intro pins s σ H Q I h;refine Bm (u5 I hg hm hv ?_ hn oy);exact Bk (aV (ha pos pins s σ H _ I h) fun us s1 ⟨vs,H1,I1,r1,q1⟩=>hc pins s1 σ H1 vs us Q I1 r1 q1) he kG
end
end L2
namespace HT
open PySem PyProof.Rows
section
open PySem.SeqAt
open PySem.AutoSeq1 (wpAny_loadPart')
open PySem.MeetsSeq PySem.MeetsSeq2 PySem.MeetsSeq3
end
section
variable {prog:Program} {w:World} {A:Around} {E:cO} {s:Shared}
def fI(n d:Nat):Option Int→Nat
 | none=>d
 | some v=>if v<0 then (v+(n:Int)).toNat else min v.toNat n
theorem Te(n d:Nat):fI n d none=d:=rfl
theorem zh(n d k:Nat):fI n d (some (k:Int))=min k n:=by
 show (if (k:Int)<0 then ((k:Int)+(n:Int)).toNat else min (k:Int).toNat n)=min k n
 rw [ao (by lia),df]
end
end HT
namespace L2
open PySem PySem.Spec PyProof.Rows
abbrev TO:=St→Hp→(Option Int→Hp→Prop)→Prop
def PO(X:Cx)(e:Option Expr)(t:TO):Prop:=
 ∀(pins:bM) (s:Shared) (σ:St) (H:Hp) (Q:Option Int→Hp→Prop),Inv X pins σ H s→t σ H Q→
  wpAny (model X.prog X.w) X.A (evalPart e X.env) (fun u s'=>∃o H',Inv X pins σ H' s'∧IsPart u o∧Q o H') X.xe s
def Tf:TO:=fun _ H Q=>Q none H
def Tg(t:TE):TO:=fun σ H Q=>t σ H fun x H1=>∃i,x=.int i∧Q (some i) H1
section
variable {X:Cx} {e:Expr} {te:TE} {lo hi:Option Expr} {tl th:TO} {pos p2:Pos}
theorem FX:PO X none Tf:=by intro pins s σ H Q I h;rw [evalPart_none];exact fz ⟨none,H,I,.none,h⟩
theorem zi(h:PE X e te):PO X (some e) (Tg te):=by intro pins s σ H Q I hw;rw [evalPart_some];refine aV (h pins s σ H _ I hw) fun u s1 ⟨x,H1,I1,r1,q1⟩=>?_;obtain ⟨i,rfl,q⟩:=q1;obtain ⟨t,rfl⟩:=r1;exact ⟨some i,H1,I1,.int i t,q⟩
def FY(X:Cx)(r:V→Option Int→Option Int→Hp→VK→Prop):Prop:=
 ∀(pins:bM) (s:Shared) (σ:St) (H:Hp) (x:V) (v vl vu:Value) (lo hi:Option Int) (sl:Addr) (Q:VK),Inv X pins σ H s→RelV x v→s.heap.IsSliceOf sl vl vu .none→IsPart vl lo→IsPart vu hi→r x lo hi H Q→
  ∃T id,typeLookup (.type T) "__getitem__"=pure (some (.builtin id))∧s.TypeIs v T∧wpAny (model X.prog X.w) X.A (getItem v (.ref sl)) (EP X pins σ Q) X.xe s
def Th(r:V→Option Int→Option Int→Hp→VK→Prop)(te:TE)(tl th:TO):TE:=fun σ H Q=>te σ H fun x H1=>tl σ H1 fun l H2=>th σ H2 fun u H3=>r x l u H3 Q
theorem B3{r:V→Option Int→Option Int→Hp→VK→Prop}(hr:FY X r)(he:PE X e te)(hl:PO X lo tl)(hu:PO X hi th):PE X (.Subscript e (.Slice lo hi none p2) pos) (Th r te tl th):=by intro pins s σ H Q I h;refine Subscript_ (aV (he pins s σ H _ I h) fun v s1 ⟨x,H1,I1,r1,q1⟩=>?_);refine wpAny_Slice (aV (hl pins s1 σ H1 _ I1 q1) fun vl s2 ⟨l,H2,I2,pl,q2⟩=>aV (hu pins s2 σ H2 _ I2 q2) fun vu s3 ⟨u,H3,I3,pu,q3⟩=>?_);rw [evalPart_none];refine fz ?_;have I4:Inv X pins σ H3 {s3 with heap:=s3.heap.push {cls:=.type "slice",data:=.fields #[vl,vu,.none]}}:=I3.kept (t':=s3.toks) fun b ob q=>dA _ q;obtain ⟨T,id,hT,ht,hg⟩:=hr pins {s3 with heap:=s3.heap.push {cls:=.type "slice",data:=.fields #[vl,vu,.none]}} σ H3 x v vl vu l u s3.heap.objs.size Q I4 r1 (Heap.IsSliceOf.new ..) pl pu q3;show wpAny (model X.prog X.w) X.A (subscriptTail e (.Slice lo hi none p2) v (.ref s3.heap.objs.size)) (EP X pins σ Q) X.xe {s3 with heap:=s3.heap.push {cls:=.type "slice",data:=.fields #[vl,vu,.none]}};exact tail_any (ops:=[.ref s3.heap.objs.size,v]) ht hT hg (by with_unfolding_all rfl)
def ip(xs:List V)(lo hi:Option Int):List V:=(xs.drop (HT.fI xs.length 0 lo)).take (HT.fI xs.length xs.length hi-HT.fI xs.length 0 lo)
theorem Ti(xs:List V)(lo hi:Option Int):(ip xs lo hi).length≤xs.length:=by unfold ip;rw [qO,nS];lia
end
def gI(n:Nat)(i:Int):Option Nat:=if 0≤i then (if i<n then some i.toNat else none) else if -(n:Int)≤i then some (i+n).toNat else none
def da{α:Type}(xs:List α)(i:Int):Option α:=(gI xs.length i).bind fun j=>xs[j]?
variable {i:Int} {j:Nat}
theorem LF{n:Nat}(h:gI n i=some j):seqIndex? i n=some j∧j<n∧-(n:Int)≤i∧i<n:=by
 unfold gI at h;by_cases h0:0≤i
 ·rw [ak h0] at h
  by_cases h1:i<n
  ·rw [ak h1] at h
   have e:i.toNat=j:=Option.some.inj h;exact ⟨by rw [seqIndex_of h0 h1,e],by lia,by lia,h1⟩
  ·rw [ao h1] at h;cases h
 ·rw [ao h0] at h
  by_cases h1:-(n:Int)≤i
  ·rw [ak h1] at h
   have e:(i+n).toNat=j:=Option.some.inj h;exact ⟨by rw [seqIndex_neg (by lia) h1,e],by lia,h1,by lia⟩
  ·rw [ao h1] at h;cases h
theorem LG{α:Type}{xs:List α}{v:α}(h:da xs i=some v):∃j,seqIndex? i xs.length=some j∧xs[j]?=some v∧j<xs.length∧-(xs.length:Int)≤i∧i<xs.length:=by
 unfold da at h;cases e:gI xs.length i with
 | none=>rw [e] at h;cases h
 | some j=>rw [e] at h;obtain ⟨h1,h2,h3,h4⟩:=LF e;exact ⟨j,h1,h,h2,h3,h4⟩
theorem cK{α:Type}{xs:List α}{v:α}(h:xs[j]?=some v):da xs (j:Int)=some v:=by
 have hj:j<xs.length:=(aP.mp h).1;have e:gI xs.length (j:Int)=some j:=by unfold gI;rw [ak (by lia),ak (by lia)];simp
 unfold da;rw [e];exact h
def LH(b:Expr):Prop:=∀o i,subscripted b false o i=operate [o,i] (getItem o i)
def vc(X:Cx)(r:R2):Prop:=
 ∀(value slice:Expr) (pins:bM) (s:Shared) (σ:St) (H:Hp) (x y:V) (v u:Value) (Q:VK),Inv X pins σ H s→RelV x v→RelV y u→r x y H Q→
  subscripted slice false v u=operate [v,u] (getItem v u)→wpAny (model X.prog X.w) X.A (subscriptTail value slice v u) (EP X pins σ Q) X.xe s
def FZ(X:Cx)(id:String)(r:V→List V→Hp→VK→Prop):Prop:=
 ∀(pins:bM) (s:Shared) (σ:St) (H:Hp) (x:V) (xs:List V) (v:Value) (us:List Value) (Q:VK),Inv X pins σ H s→RelV x v→Vals xs us→r x xs H Q→
  wpAny (model X.prog X.w) X.A (call (.builtin id) (v::us)) (EP X pins σ Q) X.xe s
section
variable {X:Cx} {a b:Expr} {ta tb:TE} {pos:Pos}
variable {r:R2}
theorem Tj(hr:vc X r)(ha:PE X a ta)(hb:PE X b tb)(hs:LH b):PE X (.Subscript a b pos) (lF r ta tb):=by intro pins s σ H Q I h;exact Subscript_ (FO ha hb I h fun v u s2 x y H2 I2 rx ry q=>hr a b pins s2 σ H2 x y v u Q I2 rx ry q (hs _ _))
theorem aE{b:Expr}(hr:vc X r)(ha:PE X a ta)(hb:PE X b tb)(hs:LH b:=by exact fun _ _=>rfl):PE X (.Subscript a b pos) (lF r ta tb):=Tj hr ha hb hs
def LI(K:aJ):R2:=fun x y H Q=>∃p xs i v,x=.ref p∧y=.int i∧bP K H p xs∧da xs i=some v∧Q v H
def LJ(K:aJ):R2:=fun x y H Q=>∃p xs i v,x=.ref p∧y=.int i∧fX K H p xs∧da xs i=some v∧Q v H
theorem dc:vc X (LI X.K):=by
 intro value slice pins s σ H x y v u Q I rx ry h hs;obtain ⟨p,xs,i,z,rfl,rfl,hq,he,q⟩:=h;cases rx;obtain ⟨t,rfl⟩:=ry;obtain ⟨av,r,pl,hz⟩:=I.list hq;obtain ⟨j,h1,h2,h3,h4,h5⟩:=LG he;obtain ⟨w,ew,za⟩:=r.get h2;have hl:=r.length;have hn:=zg;have fin:EP X pins σ Q w s:=⟨z,H,I,za,q⟩;by_cases h0:0≤i
 ·have hj:i.toNat=j:=by rw [seqIndex_of h0 h5] at h1;exact Option.some.inj h1
  exact item_listR pl.isList h0 (by lia) (by rw [hj];simpa using ew) fin hs
 ·have hj:(i+(av.toArray.size:Int)).toNat=j:=by
   rw [seqIndex_neg (by lia) h4] at h1
   rw [d7,←hl];exact Option.some.inj h1
  exact subscriptTail_builtinR (x:=w) pl.isList.typeIs slot_list_getitem.lookup
   (wpAny_getItem_list_neg (Q:=fun r s'=>r=w∧EP X pins σ Q r s') pl.isList (by lia) (by rw [d7] <;> lia) (by lia) (by rw [hj];simpa using ew) ⟨rfl,fin⟩) hs
theorem bG:vc X (LJ X.K):=by
 intro value slice pins s σ H x y v u Q I rx ry h hs;obtain ⟨p,xs,i,z,rfl,rfl,hq,he,q⟩:=h;cases rx;obtain ⟨t,rfl⟩:=ry;obtain ⟨av,r,pl,hz⟩:=I.tuple hq;obtain ⟨j,h1,h2,h3,h4,h5⟩:=LG he;obtain ⟨w,ew,za⟩:=r.get h2;have hl:=r.length;have hn:=zg;have fin:EP X pins σ Q w s:=⟨z,H,I,za,q⟩
 exact subscriptTail_builtinR (x:=w) pl.typeIs slot_tuple_getitem.lookup
  (getItem_tuple (j:=j) (Q:=fun r s'=>r=w∧EP X pins σ Q r s') pl (by lia) (by lia) (by rw [d7,←hl];exact h1) (by simpa using ew) ⟨rfl,fin⟩) hs
theorem Tn(av:List Value)(n j:Nat)(u:Value):Obj.mapSeq (·.setIfInBounds j u) {cls:=.type "list",data:=.seq av.toArray n}={cls:=.type "list",data:=.seq (av.set j u).toArray n}:=by simp [Obj.mapSeq]
theorem Inv.lst{pins:bM}{σ:St}{H:Hp}{s:Shared}{p:Addr}{xs:List V}(I:Inv X pins σ H s)(h:H p=some (.lst xs)) :
  ∃(av:List Value) (n:Nat),Vals xs av∧s.heap.get? p=some {cls:=.type "list",data:=.seq av.toArray n}∧xs.length≤sizeLine:=by
 obtain ⟨z,av,n,r,e⟩:=I.aN p _ h;exact ⟨av,n,r,e,z⟩
variable {pins:bM} {σ:St} {H:Hp} {s:Shared}
theorem Inv.To{p:Addr}{xs ys:List V}{av its':List Value}{n n':Nat}{f:Obj→Obj}(I:Inv X pins σ H s)(h:H p=some (.lst xs))
  (ho:s.heap.get? p=some {cls:=.type "list",data:=.seq av.toArray n}) (hf:f {cls:=.type "list",data:=.seq av.toArray n}={cls:=.type "list",data:=.seq its'.toArray n'}) (r:Vals ys its') (hz:ys.length≤sizeLine) (t:Nat) :
  Inv X pins σ (upd H p (.lst ys)) {s with heap:=s.heap.update p f,toks:=t}:=by
 have e:(s.heap.update p f).get? p=some {cls:=.type "list",data:=.seq its'.toArray n'}:=by rw [Heap.get?_update_self f ho (by rw [hf] <;> rfl),hf]
 refine I.write (x:=p) (e:=p) (by rw [h];trivial) (.inl rfl) (fun b u hb q=>(Heap.get?_update_other _ _ (Ne.symm hb)).trans q) ⟨_,e⟩ ?_
 exact ⟨hz,its',n',r,e⟩
def Tp:V→V→V→Hp→(Hp→Prop)→Prop:=fun o i v H Q=>∃p xs k j,o=.ref p∧i=.int k∧H p=some (.lst xs)∧gI xs.length k=some j∧Q (upd H p (.lst (xs.set j v)))
theorem set_list:K4 X Tp:=by
 intro pins s σ H o i v ov iv u Q I ro ri rv h;obtain ⟨p,xs,k,j,rfl,rfl,hp,hj,q⟩:=h;cases ro;obtain ⟨t,rfl⟩:=ri;obtain ⟨av,n,r,ho,hz⟩:=I.lst hp;obtain ⟨h1,h2,h3,h4⟩:=LF hj;have hl:=r.length;have hn:=zg;have I':Inv X pins σ (upd H p (.lst (xs.set j v))) {s with heap:=s.heap.update p (Obj.mapSeq (·.setIfInBounds j u))}:=
  I.To hp ho (Tn av n j u) (r.set rv j) (by rw [gS];exact hz) s.toks
 by_cases h0:0≤k
 ·have hk:k.toNat=j:=by rw [seqIndex_of h0 h4] at h1;exact Option.some.inj h1
  exact PySem.W.ki_setAt ho h0 (by lia) (by rw [d7,←hl];exact h4) (by rw [hk];exact ⟨_,I',q⟩)
 ·have hk:(k+(av.toArray.size:Int)).toNat=j:=by
   rw [seqIndex_neg (by lia) h3] at h1
   rw [d7,←hl];exact Option.some.inj h1
  exact PySem.W.ki_setBack ho (by lia) (by rw [d7,←hl];exact h3) (by lia) (by rw [hk];exact ⟨_,I',q⟩)
theorem Tq(lo hi:Option Int)(n:Nat):(sliceBounds lo hi none n).1=((HT.fI n 0 lo:Nat):Int)∧(sliceBounds lo hi none n).2.1=((HT.fI n n hi:Nat):Int)∧(sliceBounds lo hi none n).2.2=1:=by
 refine ⟨?_,?_,rfl⟩
 ·cases lo with
  | none=>simp [sliceBounds,HT.fI]
  | some i=>
   simp only [sliceBounds,HT.fI,Option.getD_none,show (1:Int)>0 by decide,if_true]
   by_cases h:i<0;·simp only [h,if_true] <;> lia
   ·simp only [h,if_false] <;> lia
 ·cases hi with
  | none=>simp [sliceBounds,HT.fI]
  | some i=>
   simp only [sliceBounds,HT.fI,Option.getD_none,show (1:Int)>0 by decide,if_true]
   by_cases h:i<0;·simp only [h,if_true] <;> lia
   ·simp only [h,if_false] <;> lia
theorem Tr(av:List Value)(lo hi:Option Int):slicePick av.toArray lo hi none=((av.drop (HT.fI av.length 0 lo)).take (HT.fI av.length av.length hi-HT.fI av.length 0 lo)).toArray:=by obtain ⟨h1,h2,h3⟩:=Tq lo hi av.toArray.size;unfold slicePick;rw [h1,h2,h3];simp only [sliceRange_one,pick_run,d7] <;> rfl
def LK(K:aJ):V→Option Int→Option Int→Hp→VK→Prop:=fun x lo hi H Q=>∃a xs,x=.ref a∧bP K H a xs∧∀p,H p=none→Q (.ref p) (upd H p (.lst (ip xs lo hi)))
theorem F3:FY X (LK X.K):=by
 intro pins s σ H x v vl vu lo hi sl Q I rx hs pl pu h;obtain ⟨a,xs,rfl,hx,q⟩:=h;cases rx;obtain ⟨av,r,ht,hz⟩:=I.list hx;have hlen:=r.length;refine ⟨"list",_,slot_list_getitem.lookup,ht.isList.typeIs,?_⟩;refine wpAny_getItem_list_slice ht.isList hs pl pu .none (by simp) ?_ (by rw [d7] <;> lia)
 rw [Tr,←hlen];refine ⟨.ref s.heap.objs.size,_,I.laid (t':=s.toks) (o:=.lst (ip xs lo hi)) (fun b ob q=>dA _ q) (aH _) ?_,rfl,q _ (I.aN.fresh (aH _))⟩;exact ⟨aq (Ti xs lo hi) hz,_,0,(r.drop (HT.fI xs.length 0 lo)).take (HT.fI xs.length xs.length hi-HT.fI xs.length 0 lo),gR _ rfl⟩
def f_:V→Bool
 | .aY=>true
 | .bl _=>true
 | .int _=>true
 | .str _=>true
 | _=>false
def gc:V→V→Bool
 | .aY,.aY=>true
 | .bl a,.bl b=>a == b
 | .bl a,.int b=>(if a then 1 else 0) == b
 | .int a,.bl b=>a == (if b then 1 else 0)
 | .int a,.int b=>a == b
 | .str a,.str b=>a == b
 | _,_=>false
variable {y x:V} {u v:Value}
theorem rF{A:Around}(ry:RelV y u)(rx:RelV x v)(fy:f_ y=true)(fx:f_ x=true):SeqAt.EqAt A s u v (gc y x):=by
 cases y with
 | aY=>
  cases ry;cases x with
  | aY=>cases rx;exact SeqAt.EqAt.same _
  | bl b=>cases rx;exact SeqAt.EqAt.none_bool b
  | int b=>obtain ⟨t,rfl⟩:=rx;exact SeqAt.EqAt.none_int b t
  | str b=>obtain ⟨t,rfl⟩:=rx;exact SeqAt.EqAt.none_str b t
  | _=>exact absurd (show false=true from fx) dB
 | bl a=>
  cases ry;cases x with
  | aY=>cases rx;exact SeqAt.EqAt.bool_none a
  | bl b=>cases rx;exact SeqAt.EqAt.bool_bool a b
  | int b=>obtain ⟨t,rfl⟩:=rx;exact SeqAt.EqAt.bool_int a b t
  | str b=>obtain ⟨t,rfl⟩:=rx;exact SeqAt.EqAt.bool_str a b t
  | _=>exact absurd (show false=true from fx) dB
 | int a=>
  obtain ⟨t',rfl⟩:=ry;cases x with
  | aY=>cases rx;exact SeqAt.EqAt.int_none a t'
  | bl b=>cases rx;exact SeqAt.EqAt.int_bool a t' b
  | int b=>obtain ⟨t,rfl⟩:=rx;exact SeqAt.EqAt.int_int a t' b t
  | str b=>obtain ⟨t,rfl⟩:=rx;exact SeqAt.EqAt.int_str a t' b t
  | _=>exact absurd (show false=true from fx) dB
 | str a=>
  obtain ⟨t',rfl⟩:=ry;cases x with
  | aY=>cases rx;exact SeqAt.EqAt.str_none a t'
  | bl b=>cases rx;exact SeqAt.EqAt.str_bool a t' b
  | int b=>obtain ⟨t,rfl⟩:=rx;exact SeqAt.EqAt.str_int a t' b t
  | str b=>obtain ⟨t,rfl⟩:=rx;exact SeqAt.EqAt.str_str a t' b t
  | _=>exact absurd (show false=true from fx) dB
 | _=>exact absurd (show false=true from fy) dB
def iX(x:V)(u:Value):Bool:=match u with
 | .none=>gc .aY x
 | .bool b=>gc (.bl b) x
 | .int i _=>gc (.int i) x
 | .str z _=>gc (.str z) x
 | _=>false
theorem LM(r:RelV y u)(f:f_ y=true):iX x u=gc y x:=by
 cases y with
 | aY=>cases r;rfl
 | bl b=>cases r;rfl
 | int i=>obtain ⟨t,rfl⟩:=r;rfl
 | str z=>obtain ⟨t,rfl⟩:=r;rfl
 | _=>exact absurd (show false=true from f) dB
theorem zj{x:V}:∀{xs:List V} {us:List Value},Vals xs us→xs.all f_=true→us.any (iX x)=xs.any fun y=>gc y x
 | _,_,.nil,_=>rfl
 | y::xs,u::us,.cons r t,f=>by rw [uU,uV] at f;rw [List.any_cons,List.any_cons,LM r f.1,zj t f.2]
theorem zk{A:Around}{s:Shared}{x:V}{v:Value}(rx:RelV x v)(fx:f_ x=true):∀{xs:List V} {us:List Value},Vals xs us→xs.all f_=true→∀u∈us,SeqAt.EqAt A s u v (iX x u)
 | _,_,.nil,_=>fun u hu=>by cases hu
 | y::xs,u::us,.cons r t,f=>fun u' hu=>by
  rw [uU,uV] at f;rcases eY.mp hu with rfl | hu;·rw [LM r f.1];exact rF r rx f.1 fx
  ·exact zk rx fx t f.2 u' hu
def B4(x:V)(xs:List V):Bool:=xs.any fun y=>gc y x
def F4(K:aJ)(neg:Bool):R2:=fun x y H Q=>∃p xs,y=.ref p∧(bP K H p xs∨fX K H p xs)∧f_ x=true∧xs.all f_=true∧Q (.bl (if neg then !B4 x xs else B4 x xs)) H
theorem Ts:cT X (compareOp .In) (F4 X.K false):=by
 intro pins s σ H x y v u Q I rx ry h;obtain ⟨p,xs,rfl,hq,fx,fs,q⟩:=h;cases ry;rcases hq with hq | hq
 ·obtain ⟨av,r,pl,hz⟩:=I.list hq
  refine SeqAt.in_listAt (iX x) pl.isList (fun w hw=>zk rx fx r fs w (by simpa using hw)) ⟨.bl _,H,I,rfl,?_⟩
  rw [show av.toArray.any (iX x)=av.any (iX x) by simp,zj r fs]
  exact q
 ·obtain ⟨av,r,pl,hz⟩:=I.tuple hq
  refine SeqAt.in_tupleAt (iX x) pl (fun w hw=>zk rx fx r fs w (by simpa using hw)) ⟨.bl _,H,I,rfl,?_⟩
  rw [show av.toArray.any (iX x)=av.any (iX x) by simp,zj r fs]
  exact q
theorem Tu:cT X (compareOp .NotIn) (F4 X.K true):=by
 intro pins s σ H x y v u Q I rx ry h;obtain ⟨p,xs,rfl,hq,fx,fs,q⟩:=h;cases ry;rcases hq with hq | hq
 ·obtain ⟨av,r,pl,hz⟩:=I.list hq
  refine SeqAt.notIn_listAt (iX x) pl.isList (fun w hw=>zk rx fx r fs w (by simpa using hw)) ⟨.bl _,H,I,rfl,?_⟩
  rw [show av.toArray.any (iX x)=av.any (iX x) by simp,zj r fs]
  exact q
 ·obtain ⟨av,r,pl,hz⟩:=I.tuple hq
  refine SeqAt.notIn_tupleAt (iX x) pl (fun w hw=>zk rx fx r fs w (by simpa using hw)) ⟨.bl _,H,I,rfl,?_⟩
  rw [show av.toArray.any (iX x)=av.any (iX x) by simp,zj r fs]
  exact q
theorem dN:jc X (.builtin "len") (fun xs H Q=>∃p ys,xs=[.ref p]∧(bP X.K H p ys∨fX X.K H p ys)∧Q (.int ys.length) H):=by
 intro pins s σ H xs us Q I r h;obtain ⟨p,ys,rfl,hq,q⟩:=h;obtain ⟨u,rfl,rx⟩:=vals1 r;cases rx;have hn:=zg;rcases hq with hq | hq
 ·obtain ⟨av,r',pl,hz⟩:=I.list hq
  have hlen:=r'.length;exact Calls.call_len_list pl.isList (by simp only [d7] <;> lia) ⟨.int ys.length,H,I.tok _,⟨s.toks+1,by rw [d7,hlen]⟩,q⟩
 ·obtain ⟨av,r',pl,hz⟩:=I.tuple hq
  have hlen:=r'.length;exact len_tuple pl (by simp only [d7] <;> lia) ⟨.int ys.length,H,I.tok _,⟨s.toks+1,by rw [d7,hlen]⟩,q⟩
theorem B5:jc X (.type "list") (fun xs H Q=>∃p ys,xs=[.ref p]∧(bP X.K H p ys∨fX X.K H p ys)∧∀l,H l=none→Q (.ref l) (upd H l (.lst ys))):=by
 intro pins s σ H xs us Q I r h;obtain ⟨p,ys,rfl,hq,q⟩:=h;obtain ⟨u,rfl,rx⟩:=vals1 r;cases rx
 have fin:∀(av:List Value),Vals ys av→ys.length≤sizeLine→∀(h':Heap) (c':Nat),(∀b o',s.heap.get? b=some o'→h'.get? b=some o')→
   h'.get? s.heap.objs.size=some {cls:=.type "list",dict:=none,data:=.seq av.toArray c',slots:=#[]}→EP X pins σ Q (.ref s.heap.objs.size) {s with heap:=h'}:=fun av r' hz h' c' kp e=>
  ⟨.ref s.heap.objs.size,_,I.laid (t':=s.toks) kp (aH _) (show fQ X.prog X.w _ h' _ (.lst ys) from ⟨hz,av,c',r',e⟩),rfl,q _ (I.aN.fresh (aH _))⟩
 rcases hq with hq | hq
 ·obtain ⟨av,r',pl,hz⟩:=I.list hq
  have hlen:=r'.length;obtain ⟨o,ho,hc,n,hd⟩:=pl.isList;exact call_list_seq p (.inl rfl) ho hc hd (fun h' c' kp e=>fin av r' hz h' c' kp e) (by simp only [d7] <;> lia)
 ·obtain ⟨av,r',pl,hz⟩:=I.tuple hq
  have hlen:=r'.length;obtain ⟨o,ho,hc,n,hd⟩:=pl;exact call_list_seq p (.inr rfl) ho hc hd (fun h' c' kp e=>fin av r' hz h' c' kp e) (by simp only [d7] <;> lia)
def F5(K:aJ)(T:String)(x:V)(H:Hp):Prop:=match x with
 | .str _=>T="str"
 | .int _=>T="int"
 | .ref p=>(T="list"∧∃xs,bP K H p xs)∨(T="tuple"∧∃o,K.lookup p=some o∧o.cls=.type "tuple"∧o.dict=none) ∨
   (T="dict"∧((∃c_,H p=some (.dK c_))∨∃c_,H p=some (.dT c_)))∨(T="set"∧∃S n,H p=some (.set S n))
 | _=>False
theorem LN{T:String}(I:Inv X pins σ H s)(r:RelV x v)(ty:F5 X.K T x H) :
  s.TypeIs v T∧∀a,v=.ref a→∃ob,s.heap.get? a=some ob∧ob.dict=none:=by
 cases x with
 | str z=>obtain ⟨t,rfl⟩:=r;cases (show T="str" from ty);exact ⟨typeIs_str s z t,fun _ e=>nomatch e⟩
 | int i=>obtain ⟨t,rfl⟩:=r;cases (show T="int" from ty);exact ⟨typeIs_int s i t,fun _ e=>nomatch e⟩
 | ref p=>
  cases r;rcases ty with ⟨rfl,xs,hq⟩ | ⟨rfl,o,hk,hc,hd⟩ | ⟨rfl,hk⟩ | ⟨rfl,S,n,hk⟩
  ·obtain ⟨av,_,pl,_⟩:=I.list hq
   refine ⟨pl.isList.typeIs,fun a e=>?_⟩;cases e;obtain ⟨o,n,e,c,hd,_⟩:=pl;exact ⟨o,e,hd⟩
  ·refine ⟨⟨o,I.eP p o hk,hc⟩,fun a e=>?_⟩
   cases e;exact ⟨o,I.eP _ o hk,hd⟩
  ·have z:∃o,s.heap.get? p=some o∧o.ExactDict:=by
    rcases hk with ⟨c_,hk⟩ | ⟨c_,hk⟩
    ·obtain ⟨_,_,_,_,o,_,_,e,ex,_⟩:=I.aN p _ hk
     exact ⟨o,e,ex⟩
    ·obtain ⟨_,_,_,_,o,_,_,e,ex,_⟩:=I.aN p _ hk
     exact ⟨o,e,ex⟩
   obtain ⟨o,e,ex⟩:=z;refine ⟨⟨o,e,ex.1⟩,fun a e2=>?_⟩;cases e2;exact ⟨o,e,ex.2.1⟩
  ·obtain ⟨o,_,_,_,e,ex,_⟩:=I.aN p _ hk
   refine ⟨⟨o,e,ex.1⟩,fun a e2=>?_⟩;cases e2;exact ⟨o,e,ex.2.1⟩
 | _=>exact False.elim ty
def Tv(K:aJ)(T:String)(r:V→List V→Hp→VK→Prop)(to:TE):TE:=fun σ H Q=>to σ H fun x H1=>F5 K T x H1∧r x [] H1 Q
def Tw(K:aJ)(T:String)(r:V→List V→Hp→VK→Prop)(to:TE)(t:TA):TE:=fun σ H Q=>to σ H fun x H1=>F5 K T x H1∧t σ H1 fun xs H2=>r x xs H2 Q
variable {o e:Expr} {es:List Expr} {to:TE} {t:TA} {name:Str} {apos je:Pos} {T id:String} {r:V→List V→Hp→VK→Prop}
theorem Tx(pa:PlainAttrs T)(slot:Slot T name id)(F6:typeOf (.builtin id)=pure (.type "method_descriptor"))(hm:FZ X id r)(ho:PE X o to)
  (F7:attributeBase o name X.env (eval o X.env)=eval o X.env:=by rfl) (F8:(apos.endLine == je.line)=true:=by rfl):PE X (.Call (.Attribute o name apos) [] [] je) (Tv X.K T r to):=by
 intro pins s σ H Q I h;refine wpAny_Call_method0_late F7 F8 (aV (ho pins s σ H _ I h) fun v s1 ⟨x,H1,I1,r1,ty,q1⟩=>?_);obtain ⟨h1,h2⟩:=LN I1 r1 ty;exact ⟨T,id,pa,slot,F6,h1,h2,Calls.callWith_builtin rfl (PySem.evalArgs_none (hm pins s1 σ H1 x [] v [] Q I1 r1 .nil q1))⟩
theorem rJ(pa:PlainAttrs T)(slot:Slot T name id)(F6:typeOf (.builtin id)=pure (.type "method_descriptor"))(hm:FZ X id r)(ho:PE X o to)(ha:PA X (e::es) t)
  (F7:attributeBase o name X.env (eval o X.env)=eval o X.env:=by rfl)
  (Tz:((backTo je (starEach (e::es) X.env)).all (fun x=>!x.1) && (backToKw je (keywordEach [] X.env)).all (fun x=>x.1.isSome)
   && decide ((e::es).length+([]:List Keyword).length+(if ([]:List Keyword).isEmpty then 0 else 1)<30))=true:=by rfl)
  (F8:(apos.endLine == je.line)=true:=by rfl) (hs:starEach (e::es) X.env=(false,eval e X.env)::starEach es X.env:=by rfl) (TC:(backTo je (starEach es X.env)).any (·.1)=false:=by rfl) :
  PE X (.Call (.Attribute o name apos) (e::es) [] je) (Tw X.K T r to t):=by
 intro pins s σ H Q I h;refine wpAny_Call_method_late F7 Tz F8 rfl (aV (ho pins s σ H _ I h) fun v s1 ⟨x,H1,I1,r1,ty,q1⟩=>?_);obtain ⟨h1,h2⟩:=LN I1 r1 ty;refine ⟨T,id,pa,slot,F6,h1,h2,?_⟩;have hA:=ha je pins s1 σ H1 _ I1 q1;rw [hs] at hA ⊢;refine Calls.callWith_builtin (by show (false || (backTo je (starEach es X.env)).any (·.1))=false;rw [TC] <;> rfl) (Calls.evalArgs_plain ?_)
 exact aV hA fun us s2 ⟨vs,H2,I2,r2,q2⟩=>hm pins s2 σ H2 x vs v us Q I2 r1 r2 q2
end
def LO(X:Cx)(id:String)(r:V→List V→Hp→VK→Prop):Prop:=
 ∀(pins:bM) (s:Shared) (σ:St) (H:Hp) (x:V) (xs:List V) (v:Value) (us:List Value) (Q:VK),Inv X pins σ H s→RelV x v→Vals xs us→r x xs H Q→
  wpAny (model X.prog X.w) X.A (call (.builtin id) (v::us)) (EP X pins σ Q) X.xe s
theorem Vals.one:∀{x:V} {us:List Value},Vals [x] us→∃u,us=[u]∧RelV x u
 | _,_,.cons r .nil=>⟨_,rfl,r⟩
theorem Vals.zero:∀{us:List Value},Vals [] us→us=[]
 | _,.nil=>rfl
theorem Vals.rep{xs:List V}{us:List Value}(h:Vals xs us):∀k:Nat,Vals (List.replicate k xs).flatten (List.replicate k us).flatten
 | 0=>.nil
 | k+1=>by rw [nU,nU,uW,uW];exact Vals.append h (Vals.rep h k)
theorem foldl_rep(av:List Value):∀(k:Nat) (acc:List Value),
  List.foldl (fun x1 x2=>x1++x2) acc.toArray (List.replicate k av.toArray)=(acc++(List.replicate k av).flatten).toArray
 | 0,acc=>by simp
 | k+1,acc=>by
  have e:acc.toArray++av.toArray=(acc++av).toArray:=by simp
  have e2:(acc++av)++(List.replicate k av).flatten=acc++(List.replicate (k+1) av).flatten:=by rw [nU,uW,List.append_assoc]
  rw [←e2,←foldl_rep av k (acc++av),←e,nU,List.foldl_cons]
section
variable {X:Cx} {pins:bM} {σ:St} {H:Hp} {s:Shared} {l b:Addr} {xs ys zs:List V}
variable {av:List Value} {n t':Nat}
theorem Inv.LQ{its':List Value}{f:Array Value→Array Value}(I:Inv X pins σ H s)(hH:H l=some (.lst xs))
  (e:s.heap.get? l=some {cls:=.type "list",data:=.seq av.toArray n}) (hf:f av.toArray=its'.toArray) (hv:Vals ys its') (hz:ys.length≤sizeLine) :
  Inv X pins σ (upd H l (.lst ys)) {s with heap:=s.heap.update l (Obj.mapSeq f),toks:=t'}:=by
 have q:=PySem.IsL.update e f;rw [hf] at q;refine I.write (x:=l) (e:=l) (by rw [hH];exact trivial) (.inl rfl) (fun b' u hb hu=>(Heap.get?_update_other s.heap (Obj.mapSeq f) (Ne.symm hb)).trans hu) ⟨_,q⟩ ?_
 exact ⟨hz,its',_,hv,q⟩
theorem Inv.LR(I:Inv X pins σ H s)(hv:Vals ys av)(hz:ys.length≤sizeLine) :
  Inv X pins σ (upd H s.heap.objs.size (.lst ys)) {s with heap:=s.heap.push {cls:=.type "list",data:=.seq av.toArray},toks:=t'}:=
 I.laid (fun _ _ q=>dA _ q) (aH _) ⟨hz,av,0,hv,gR _ rfl⟩
theorem Inv.fresh(I:Inv X pins σ H s):H s.heap.objs.size=none:=I.aN.fresh (aH _)
theorem Inv.vd(I:Inv X pins σ H s)(hH:H l=some (.lst xs)):xs.length≤sizeLine∧∃(av:List Value) (n:Nat),Vals xs av∧xs.length=av.length∧s.heap.get? l=some {cls:=.type "list",data:=.seq av.toArray n}:=by obtain ⟨z,av,n,r,e⟩:=I.aN l _ hH;exact ⟨z,av,n,r,r.length,e⟩
theorem LS(h:n≤sizeLine):Builtin.List.listTooLong n=false:=by unfold Builtin.List.listTooLong;exact fq (by lia)
end
section
variable {X:Cx}
def TF:V→List V→Hp→VK→Prop:=fun x vs H Q=>∃l xs y,x=.ref l∧vs=[y]∧H l=some (.lst xs)∧xs.length<sizeLine∧Q .aY (upd H l (.lst (xs++[y])))
theorem mR:LO X "list.append" TF:=by
 intro pins s σ H x vs v us Q I rx rv h;obtain ⟨l,xs,y,rfl,rfl,hH,hz,q⟩:=h;cases rx;obtain ⟨u,rfl,ru⟩:=rv.one;obtain ⟨z,av,n,r,hl,e⟩:=I.vd hH;refine call_meets F.slot_list_append ⟨_,e,rfl⟩ F.entry_list_append (F.args_list_append_2 _ _) (PySem.list_append l av.toArray n u (by rw [d7];lia)) ⟨e,?_⟩
 refine ⟨.aY,_,I.LQ (its':=av++[u]) hH e (by simp) (r.append (.cons ru .nil)) ?_,rfl,q⟩
 rw [iS,List.length_singleton];lia
def TH:V→List V→Hp→VK→Prop:=fun x vs H Q=>∃l b xs zs,x=.ref l∧vs=[.ref b]∧H l=some (.lst xs)∧H b=some (.lst zs)∧xs.length+zs.length≤sizeLine∧Q .aY (upd H l (.lst (xs++zs)))
theorem LU:LO X "list.extend" TH:=by
 intro pins s σ H x vs v us Q I rx rv h;obtain ⟨l,b,xs,zs,rfl,rfl,hH,hB,hz,q⟩:=h;cases rx;obtain ⟨u,rfl,ru⟩:=rv.one;cases ru;obtain ⟨z,av,n,r,hl,e⟩:=I.vd hH;obtain ⟨z2,rK,n2,r2,TJ,e2⟩:=I.vd hB;have Li:av.toArray.size+rK.toArray.size≤sizeLine:=by rw [d7,d7];lia
 have F9:¬(!av.toArray.isEmpty && Builtin.List.listTooLong (av.toArray.size+rK.toArray.size))=true:=by rw [LS Li,Bool.and_false];exact dB
 refine call_meets F.slot_list_extend ⟨_,e,rfl⟩ F.entry_list_extend (F.args_list_extend_2 _ _)
  (AutoSeq1.list_extend_list_list_0 l av.toArray n b rK.toArray n2 F9 (by rw [d7];lia) (by lia)) ⟨e,e2,?_⟩
 refine ⟨.aY,_,I.LQ (its':=av++rK) hH e (by simp) (r.append r2) ?_,rfl,q⟩
 rw [iS];lia
def TK:R2:=fun x y H Q=>∃l b xs zs,x=.ref l∧y=.ref b∧H l=some (.lst xs)∧H b=some (.lst zs)∧xs.length+zs.length≤sizeLine∧∀p,H p=none→Q (.ref p) (upd H p (.lst (xs++zs)))
theorem B6:cT X (binaryOp .Add) TK:=by
 intro pins s σ H x y v u Q I rx ry h;obtain ⟨l,b,xs,zs,rfl,rfl,hH,hB,hz,q⟩:=h;cases rx;cases ry;obtain ⟨z,av,n,r,hl,e⟩:=I.vd hH;obtain ⟨z2,rK,n2,r2,TJ,e2⟩:=I.vd hB;refine PySem.P.add_list e e2 ?_ (by rw [d7,d7];lia)
 have ea:av.toArray++rK.toArray=(av++rK).toArray:=by simp
 rw [ea];exact ⟨.ref _,_,I.LR (t':=s.toks) (r.append r2) (by rw [iS];lia),rfl,q _ I.fresh⟩
def TL:R2:=fun x y H Q=>∃l k xs,x=.ref l∧y=.int k∧H l=some (.lst xs)∧-(2 ^ 63)≤k∧k<2 ^ 63∧xs.length*k.toNat≤sizeLine ∧
 ∀p,H p=none→Q (.ref p) (upd H p (.lst (List.replicate k.toNat xs).flatten))
theorem len_rep{α:Type}(xs:List α)(k:Nat):(List.replicate k xs).flatten.length=k*xs.length:=by
 induction k with
 | zero=>simp
 | succ k ih=>rw [nU,uW,iS,ih,gT,Nat.add_comm]
theorem rN:cT X (binaryOp .Mult) TL:=by
 intro pins s σ H x y v u Q I rx ry h;obtain ⟨l,k,xs,rfl,rfl,hH,h1,h2,hz,q⟩:=h;cases rx;obtain ⟨t,rfl⟩:=ry;obtain ⟨z,av,n,r,hl,e⟩:=I.vd hH;have hlen:av.toArray.size*k.toNat≤sizeLine:=by rw [d7,←hl];exact hz
 have TM:¬av.toArray.size*k.toNat>(2 ^ 63-1) / 8:=by
  have:(sizeLine:Nat)≤(2 ^ 63-1) / 8:=by decide
  lia
 have TN:¬(!Builtin.List.listFitsIndex k)=true:=by rw [fitsIndex_both h1 h2];exact dB
 have F9:¬Builtin.List.listTooLong (av.toArray.size*k.toNat)=true:=by rw [LS hlen];exact dB
 have TQ:List.foldl (fun x1 x2=>x1++x2) #[] (List.replicate (if av.toArray.isEmpty=true then 0 else k.toNat) av.toArray)=(List.replicate k.toNat av).flatten.toArray:=by
  have f0:∀m:Nat,List.foldl (fun x1 x2=>x1++x2) #[] (List.replicate m av.toArray)=(List.replicate m av).flatten.toArray:=fun m=>by have:=foldl_rep av m [];rw [gC] at this;exact this
  rw [f0];cases av with
  | nil=>simp
  | cons a r'=>rw [ao (by simp)]
 refine wpAny_binaryOp_repeat_ref (T:="list") (U:="int") (by decide) ⟨_,e,rfl⟩ (fun s'=>typeIs_int s' k t) noFill_list_mul F.fills_int_mul F.slot_int_rmul repeat_list F.slot_int_index.lookup
  (call_meets F.slot_int_rmul (typeIs_int s k t) F.entry_int_rmul (F.args_int_rmul_2 _ _) (int___rmul___int_list k t l av.toArray n)
   ⟨e,rfl,⟨_,e,rfl⟩,call_meets F.slot_list_mul ⟨_,e,rfl⟩ F.entry_list_mul (F.args_list_mul_2 _ _) (AutoListH.list___mul___list_int_3 l av.toArray n k t TN TM F9) ⟨e,?_⟩⟩)
 rw [TQ];exact ⟨.ref _,_,I.LR (t':=s.toks) (r.rep k.toNat) (by rw [len_rep,iT];exact hz),rfl,q _ I.fresh⟩
end
section
variable {prog:Program} {w:World} {A:Around} {E:cO} {s:Shared}
end
section
variable {X:Cx}
end
end L2
namespace LV
open PySem PySem.W PySem.Calls PyProof.Rows
variable {P:Params} {h:Heap}
theorem TR:∀(ns:List Int) (vs:List Value),WellAll P h vs (ns.map WData.int)→IntsAre vs ns:=by
 intro ns
 induction ns with
 | nil=>intro vs w;rw [gU] at w;cases w;exact .nil
 | cons n ns ih=>
  intro vs w;rw [fU] at w;cases w with
  | cons a b=>cases a;exact .cons _ _ (ih _ b)
variable {l:OpenLaw} {n:Nat}
theorem TU(hn:l.most=some n){args:List WData}{vals:List Value}
  (B7:l.row.toRowW.claim.pre args=true) (F_:WellAll P h vals args) :
  ∃a vs ns,vals=[Value.ref a]∧args=[WData.list (ns.map WData.int)]∧h.get? a=some {cls:=.type "list",data:=.seq vs.toArray}∧IntsAre vs ns∧ns.length≤n:=by
 have TV:WShape.hasAll [] args [.list .int]=true:=(pre_splitW B7).1;have hc:l.pre.holds [] {args:=args}=true:=(pre_splitW B7).2;obtain ⟨d,r,rfl,h1,h2⟩:=hasAllW_cons TV;obtain rfl:=hasAllW_nil h2;obtain ⟨xs,rfl,h3⟩:=hasW_list h1;obtain ⟨ns,rfl⟩:=items_int h3;have hlen:ns.length≤n:=by
  unfold OpenLaw.pre at hc;have h4:(WTm.not (.lt (.lit (.int (n:Int))) (.len (.arg 0)))).holds [] {args:=[.list (ns.map .int)]}=true:=by have h4:=(holds_andW hc).1;rw [hn] at h4;exact h4
  have h5:=condW_of h4 (w_not (w_lt w_lit (w_len_list (w_arg rfl))));rw [bL] at h5;refine Nat.le_of_not_lt fun q=>?_;have q':(n:Int)<((ns.length:Nat):Int):=by lia
  first
   | (rw [dj q'] at h5;exact absurd h5 (by decide))
   | (simp at h5;lia)
 cases F_ with
 | cons w1 w2=>
  cases w2;cases w1 with
  | list ho Ga=>exact ⟨_,_,ns,rfl,rfl,ho,TR ns _ Ga,hlen⟩
theorem TY(l:OpenLaw)(args:List WData):l.row.toRowW.claim.post args (.bool true) args=true:=
 postW_of (r:=l.row.toRowW) (X:=(true == true))
  (show WShape.has [] (.bool true) .bool=true by first | rfl | decide | simp [WShape.has,WShape.arms,WShape.armsAll])
  (show (WTm.eq .res (.lit (.bool true))).value [] {args:=args,res:=some (.bool true),after:=args}=some (.bool (true == true)) from w_eq_bool (w_res rfl) w_lit) rfl
theorem TZ{q:Program}{loose:List Str}{XP:(Str→Option Value)→Heap→Prop}{YP:World→Heap→Prop}{d:DefRec}
  (hn:l.most=some n) (zl:d.params.defaults=[])
  (call:∀(w:World) (s₀ s₁:Shared) (mg mb:dU) (fa:Addr) (o:Obj) (pm cd doc:Value) (a:Addr) (vs:List Value) (ns:List Int),
   Ground q loose [] XP w s₀ mg mb s₁.heap→YP w s₁.heap→
   s₁.heap.get? fa=some o→o.data=.func (docDef d.name d.params d.body d.scope pm cd doc)→s₁.heap.CodeRec cd d.name→mg d.name=some (.ref fa)→
   s₁.heap.get? a=some {cls:=.type "list",data:=.seq vs.toArray}→IntsAre vs ns→ns.length≤n→s₁.gens = #[]→
   codeAny (model l.prog w) callerA (.call (.ref fa) ⟨[.ref a],[]⟩) (fun r s'=>r=.ok (.ret (.bool true))∧OldK s₁.heap s'.heap∧s'.os=s₁.os∧AllBare s'.gens) s₁) :
  WalkO q loose XP YP l.row.toRowW d [] (fun f vs=>PySem.call f vs):=by
 intro w s₀ s₁ mg mb G Y fa o pm cd doc dV kV ho hd gF hD zm hg args vals as B7 ahw hrd F_ hlo;obtain rfl:dV=.none:=Dflts.none hD zl;obtain rfl:kV=.none:=Dflts.noKw hD;obtain ⟨a,vs,ns,rfl,rfl,Gb,hints,hlen⟩:=TU hn B7 F_;refine enter_call (codeAny_mono (call w s₀ s₁ mg mb fa o pm cd doc a vs ns G Y ho (fd_plain hd) gF zm Gb hints hlen hg) fun r s' hq=>?_);obtain ⟨rfl,h2,h3,h4⟩:=hq;exact ⟨.inl ⟨.bool true,.bool true,[],rfl,fun _=>rfl,.bool true,TY l _,fun _=>⟨List.Pairwise.nil,fun _ hm=>(nomatch hm)⟩⟩,h2,h3,h4⟩
section
variable {prog:Program} {w:World} {A:Around} {E:cO} {s:Shared} {K:Frag}
end
end LV
namespace L2
open PySem PySem.Spec PyProof.Rows
theorem LW:∀{vs:List Value} {ns:List Int},IntsAre vs ns→Vals (ns.map V.int) vs
 | _,_,.nil=>.nil
 | _,_,.cons n t h=>.cons ⟨t,rfl⟩ (LW h)
def Gd(H:Hp):Prop:=∀b,H b=none∨∃o xs,H b=some (.iD o (.lst xs))
variable {K:aJ} {k:Nat} {a:Addr} {x:Str}
theorem T1{P:Program}{w:World}{mg mb:dU}{CX:jd}{fa:Addr}{fd:FuncData}{sp:Sp}{s₁:Shared}{vs:List Value}{ns:List Int}
  (KX:K.In s₁.heap) (LX:s₁.heap.Ns mainGlobals mg) (hb:s₁.heap.Ns builtinsNs mb) (T3:∀x:Str,x ≠ "__name__"→mb x=bootBuiltins x) (T4:s₁.heap.NoLimit) (hg:s₁.gens = #[])
  (ha:s₁.heap.get? a=some {cls:=.type "list",data:=.seq vs.toArray}) (hi:IntsAre vs ns) (hl:ns.length≤sizeLine) (hr:dQ k callerA)
  (F:∀base:Heap,K.In base→base.Ns mainGlobals mg→a7 P w K mg base CX k fa fd [x] sp) (T5:∀(s:Shared) (u:Value),BindsTo s fd ⟨[u],[]⟩ [(x,u)])
  (kI:∀H:Hp,Gd H→bP K H a (ns.map V.int)→sp [.ref a] H (fun v _=>v=.bl true) fun _ _ _=>False)
  (Ge:∀H e s',CX [] H s₁ (fun _ _ _=>False) e s'→False) :
  codeAny (model P w) callerA (.call (.ref fa) ⟨[.ref a],[]⟩) (fun r s'=>r=.ok (.ret (.bool true))∧OldK s₁.heap s'.heap∧s'.os=s₁.os∧AllBare s'.gens) s₁:=by
 have rv:=LW hi;have T6:=hi.length
 have core:∀H:Hp,Gd H→bP K H a (ns.map V.int)→dC P w H s₁.heap→(∀b,H b≠none→b=a)→(H a≠none→K.lookup a=none)→
   codeAny (model P w) callerA (.call (.ref fa) ⟨[.ref a],[]⟩) (fun r s'=>r=.ok (.ret (.bool true))∧OldK s₁.heap s'.heap∧s'.os=s₁.os∧AllBare s'.gens) s₁:=by
  intro H hO hS aN hA hK;have LY:∀{b:Addr} {o:Obj},s₁.heap.get? b=some o→H b=none→(og s₁.heap H).get? b=some o:=fun e n=>RM e n;have rE:∀{b:Addr} {o:Obj} {es:Array DictEntry} {ep:Nat},s₁.heap.get? b=some o→o.data=.dict es ep→H b=none:=fun{b o es ep} e d=>by
   cases q:H b with
   | none=>rfl
   | some u=>
    have e':b=a:=hA b (by rw [q];simp)
    subst e';rw [ha] at e;cases e;have d':Data.seq vs.toArray _=Data.dict es ep:=d;cases d'
  have B8:∀{b:Addr} {m:dU},s₁.heap.Ns b m→(og s₁.heap H).Ns b m:=fun{b m} ⟨o,es,ep,e,d,r⟩=>⟨o,es,ep,LY e (rE e d),d,r⟩;have LZ:K.In (og s₁.heap H):=fun b o e=>LY (KX b o e) (by
   cases q:H b with
   | none=>rfl
   | some u=>
    have e':b=a:=hA b (by rw [q];simp)
    subst e';rw [hK (by rw [q];simp)] at e;cases e)
  have hM:Mod K mg (og s₁.heap H):=⟨LZ,B8 LX,⟨mb,B8 hb,T3⟩,let ⟨mc,h1,h2⟩:=T4;⟨mc,B8 h1,h2⟩⟩
  have e0:rD P w K mg (og s₁.heap H) callerA [] s₁ H:=⟨rfl,hM,fun b o e=>RN e,ki (RL _ _),trivial,fun b hb=>absurd (show b∈([]:List Addr) from hb) (by simp),aN,.of_eq hg⟩
  refine codeAny_mono ((F _ LZ (B8 LX)).run callerA [] s₁ H ⟨[.ref a],[]⟩ [.ref a] [.ref a] _ _ hr e0 (T5 s₁ (.ref a)) (.cons rfl .nil) (kI H hO hS)) fun r s' h=>?_;cases r with
  | error e=>exact (Ge H e s' h).elim
  | ok fl=>
   cases fl with
   | next=>exact False.elim h
   | brk=>exact False.elim h
   | cont=>exact False.elim h
   | ret u=>
    obtain ⟨v,H',os,bare,un,T7,r',q⟩:=h;have q':v=.bl true:=q;subst q';obtain rfl:u=Value.bool true:=r';refine ⟨rfl,OldK.of_keep fun b o e=>?_,os,bare⟩;cases q:H b with
    | none=>exact un.keep b o e q (by intro z;exact absurd (show b∈([]:List Addr) from z) (by simp)) (by simp)
    | some u=>
     rcases hO b with z | ⟨ob,xs,z⟩;·rw [q] at z;cases z
     ·have z2:=un.gZ b ob _ z
      obtain ⟨e1,_⟩:=aN b _ z;obtain ⟨e2,_⟩:=T7 b _ z2;rw [e] at e1;cases e1;exact e2
 cases hk:K.lookup a with
 | some o=>have e:=KX a o hk;rw [ha] at e;cases e;refine core (fun _=>none) (fun _=>.inl rfl) (.inr ⟨_,vs.toArray,_,hk,rfl,rfl,rfl,by rw [d7,T6];exact hl,by simpa using rv⟩) (fun b u z=>by have z':(none:Option HO)=some u:=z;cases z') (fun b z=>absurd rfl z) fun z=>absurd rfl z
 | none=>
  refine core (fun b=>if b=a then some (.iD {cls:=.type "list",data:=.seq vs.toArray} (.lst (ns.map V.int))) else none) (fun b=>?_) (.inl (.inr ⟨{cls:=.type "list",data:=.seq vs.toArray},ak rfl⟩)) (fun b u z=>?_) (fun b z=>?_) fun _=>hk
  ·by_cases hb:b=a
   ·exact .inr ⟨_,_,ak hb⟩
   ·exact .inl (ao hb)
  ·by_cases hb:b=a
   ·have z':=(ak hb).symm.trans z
    cases z';subst hb;exact ⟨ha,by rw [bL];exact hl,vs,_,rv,ha⟩
   ·have z':=(ao hb).symm.trans z
    cases z'
  ·by_cases hb:b=a
   ·exact hb
   ·exact absurd (ao hb) z
abbrev L3 {K:aJ} {h:Heap} (_:K.In h):PySem.W.Frag:=K
variable {n:Nat}
theorem T8{l:PySem.W.OpenLaw}{q:Program}{loose:List Str}{XP:(Str→Option Value)→Heap→Prop}{YP:World→Heap→Prop}{d:DefRec}{K:Params→PySem.W.Frag}{CX:World→jd}{sp:World→Sp}
  (hn:l.most=some n) (va:n≤sizeLine) (zl:d.params.defaults=[]) (hr:dQ k callerA)
  (hY:∀(w:World) (h:Heap),YP w h→(K w.params).In h)
  (F:∀(w:World) (mg:dU) (fa:Addr) (h:Heap),(K w.params).In h→h.Ns mainGlobals mg→mg d.name=some (.ref fa)→
   ∃fd:FuncData,(∀(s:Shared) (u:Value),BindsTo s fd ⟨[u],[]⟩ [(x,u)]) ∧
    ∀base:Heap,(K w.params).In base→base.Ns mainGlobals mg→a7 l.prog w (K w.params) mg base (CX w) k fa fd [x] (sp w))
  (kI:∀(w:World) (H:Hp) (a:Addr) (ns:List Int),ns.length≤n→Gd H→bP (K w.params) H a (ns.map V.int)→sp w [.ref a] H (fun v _=>v=.bl true) fun _ _ _=>False)
  (Ge:∀(w:World) (H:Hp) (s:Shared) (e:Value) (s':Shared),CX w [] H s (fun _ _ _=>False) e s'→False) :
  PySem.W.WalkO q loose XP YP l.row.toRowW d [] (fun f vs=>PySem.call f vs):=by
 refine LV.TZ hn zl fun w s₀ s₁ mg mb fa o pm cd doc a vs ns G Y ho hd gF zm Gb hints hlen hg=>?_;have KX:=hY w _ Y;obtain ⟨fd,hb,hF⟩:=F w mg fa _ KX G.T.g zm;exact T1 KX G.T.g G.T.b G.T.builtins G.T.nolimit hg Gb hints (aq hlen va) hr hF hb (fun H hO hS=>kI w H a ns hlen hO hS) fun H e s'=>Ge w H s₁ e s'
def inClass(s:Stmt)(j:Nat):Stmt:=match s with
 | .ClassDef _ _ _ body _ _ _ _ _ _ _=>body.getD j (.Pass ⟨0,0,0,0⟩)
 | _=>.Pass ⟨0,0,0,0⟩
def jK(s:Stmt):Arguments:=match s with
 | .FunctionDef _ a _ _ _ _ _ _ _ _=>a
 | _=>{posonlyargs:=[],args:=[],vararg:=none,kwonlyargs:=[],kw_defaults:=[],kwarg:=none,defaults:=[]}
def g8(s:Stmt):List Stmt:=match s with
 | .FunctionDef _ _ b _ _ _ _ _ _ _=>b
 | _=>[]
def aU(s:Stmt):Scope:=match s with
 | .FunctionDef _ _ _ _ _ _ sc _ _ _=>sc
 | _=>{kind:=.function,names:=[],isGenerator:=false,isCoroutine:=false}
abbrev cz:jd:=fun _ _ _ _ _ _=>False
abbrev E0:XK:=fun _ _ _=>False
theorem aX{X:Cx}:Passes cz X E0:=fun _ _ _ _ _ _ _ h=>h.elim
structure fS (K:aJ) (x qual:Str) (st:Stmt) (f:Addr) (fd:FuncData):Prop where
 ex:∃(oc:Value) (od:Option Addr) (kV doc pm:Value) (an:Option Addr) (br ct:Value) (gH:Array (Option Value)),
  fd=PySem.W.fnOf x qual (jK st) (g8 st) (aU st) .none kV doc pm an br ct∧K.lookup f=some ⟨oc,od,.func fd,gH⟩∧PySem.W.codeIn K br qual=true
 kp:PySem.W.keepIn K (.ref f)=true
abbrev aL (K:aJ) (x:Str) (st:Stmt) (f:Addr) (fd:FuncData):Prop:=fS K x x st f fd
section
variable {P:Program} {w:World} {K:aJ} {mg:dU} {base:Heap}
variable {qual:Str} {st:Stmt} {f:Addr} {fd:FuncData} {N ps:List Str} {sp:Sp}
theorem fS.ok(F:fS K x qual st f fd)(S:bF N ps (aU st))(len:∀vs H Q E,sp vs H Q E→vs.length=ps.length)
  (lI:∀(br:Value) (A:Around) (outer:List Env) (s:Shared) (H:Hp) (vs:List V) (Q:VK) (E:XK),dQ k (A.deeper (envOfC qual (aU st) s.heap.objs.size f br))→sp vs H Q E→
   ∃t,gk (jI cz P w K mg base N qual (aU st) f br A outer s H E).rg (g8 st) t∧t {nx:=fun _ H'=>Q .aY H',rt:=Q} (start N vs) H):a7 P w K mg base cz (k+1) f fd ps sp:=by
 obtain ⟨oc,od,kV,doc,pm,an,br,ct,gH,rfl,lk,gF⟩:=F.ex;refine FW lk gF S len fun A outer s H vs Q E hr kI=>?_;obtain ⟨t,h,q⟩:=lI br A outer s H vs Q E hr kI;exact ⟨t,h.rg,q⟩
theorem fS.cN(F:fS K x qual st f fd)(S:bF N ps (aU st))
  (lI:∀(br:Value) (A:Around) (outer:List Env) (s:Shared) (H:Hp) (vs:List V) (Q:VK) (E:XK),dQ k (A.deeper (envOfC qual (aU st) s.heap.objs.size f br))→sp vs H Q E→
   ∃t,gk (jI cz P w K mg base N qual (aU st) f br A outer s H E).rg (g8 st) t∧t {nx:=fun _ H'=>Q .aY H',rt:=Q} (start N vs) H)
  (len:∀vs H Q E,sp vs H Q E→vs.length=ps.length:=by intro vs H Q E h;repeat first | (obtain ⟨rfl,_⟩:=h;rfl) | (subst h;rfl) | obtain ⟨_,h⟩:=h):a7 P w K mg base cz (k+1) f fd ps sp:=F.ok S len lI
theorem fS.binds(F:fS K x qual st f fd)
  (h:∀(kV doc pm:Value) (an:Option Addr) (br ct:Value) (us:List Value),us.length=ps.length→bindArgs (PySem.W.fnOf x qual (jK st) (g8 st) (aU st) .none kV doc pm an br ct) ⟨us,[]⟩=pure (ps.zip us)):Binds K fd ps []:=by
 obtain ⟨oc,od,kV,doc,pm,an,br,ct,gH,rfl,lk,gF⟩:=F.ex;exact .all (h kV doc pm an br ct)
theorem fS.b_(F:fS K x qual st f fd)
  (h:∀(kV doc pm:Value) (an:Option Addr) (br ct:Value) (us:List Value),us.length=ps.length→bindArgs (PySem.W.fnOf x qual (jK st) (g8 st) (aU st) .none kV doc pm an br ct) ⟨us,[]⟩=pure (ps.zip us):=by intro _ _ _ _ _ _ us hl;rcases us with _ | ⟨_,_ | ⟨_,_ | ⟨_,_ | ⟨_,_ | ⟨_,_ | ⟨_,_ | ⟨_,_⟩⟩⟩⟩⟩⟩⟩ <;> first | rfl | (simp at hl;done)):Binds K fd ps []:=F.binds h
theorem cf{oc:Value}{od an:Option Addr}{gH:Array (Option Value)}{kV doc pm br ct:Value}(l:K.lookup f=some ⟨oc,od,.func (PySem.W.fnOf x qual (jK st) (g8 st) (aU st) .none kV doc pm an br ct),gH⟩)
  (c:PySem.W.codeIn K br qual=true) (k:PySem.W.keepIn K (.ref f)=true):fS K x qual st f (PySem.W.fnOf x qual (jK st) (g8 st) (aU st) .none kV doc pm an br ct):=⟨⟨oc,od,kV,doc,pm,an,br,ct,gH,rfl,l,c⟩,k⟩
end
theorem dO(h:n≤1000):n<sizeLine:=dq h (by decide)
section
variable {X:Cx}
theorem pv(i:Nat){pos:Pos}(hN:X.N[i]?=some x:=by rfl)(hv:oh X.env.scope x:=by first | exact Or.inl rfl | exact Or.inr (Or.inl rfl) | exact Or.inr (Or.inr rfl))(hd:(x == ("__debug__":Str))=false:=by decide)
  (gF:(x == ("__classdict__":Str))=false:=by decide):PE X (.Name x pos) (pM i):=RU hN hv hd gF
end
variable {A B:Prop}
theorem cP(h:B):if false=true then A else B:=by rw [ao dB];exact h
theorem fg(h:A):if true=true then A else B:=by rw [ak rfl];exact h
theorem cH{c:Prop}[Decidable c](h1:c→A)(h2:¬c→B):if c then A else B:=by
 by_cases h:c
 ·rw [ak h]
  exact h1 h
 ·rw [ao h]
  exact h2 h
def ah(H H':Hp):Prop:=∀b o,H b=some o→H' b=some o
theorem ah.refl(H:Hp):ah H H:=fun _ _ h=>h
variable {H:Hp}
theorem ah.trans{H1 H2:Hp}(a:ah H H1)(b:ah H1 H2):ah H H2:=fun c o h=>b c o (a c o h)
theorem ah.seq{H':Hp}{xs:List V}(e:ah H H')(h:bP K H a xs):bP K H' a xs:=by
 rcases h with (h | ⟨o,h⟩) | h;·exact .inl (.inl (e _ _ h))
 ·exact .inl (.inr ⟨o,e _ _ h⟩)
 ·exact .inr h
end L2
set_option maxHeartbeats 4000000
namespace L2
open PySem PySem.Spec PyProof.Rows
structure B9 (P:Program) (w:World) (outer:List Env) (H:Hp) (s:Shared) (H':Hp) (ea C:Addr) (B:Heap) (t:Addr) (s':Shared):Prop where
 os:s'.os=s.os
 bare:AllBare s'.gens
 fl:Heap.FlyingW B outer ea (.ref C) (.ref t) s'.heap
 aN:dC P w H' B
 kb:∀b o,s.heap.get? b=some o→H b=none→b∉dh outer→B.get? b=some o
 tb:∀b o,s.heap.get? b=some o→b∉dh outer→∃o',B.get? b=some o'
 sl:∀b o,s.heap.get? b=some o→H b=none→b∈dh outer→∃l,s'.heap.get? b=some {o with slots:=l}
 frh:∀b∈dh outer,H b=none
 T9:∀b o,s.heap.get? b=some o→H b=none→H' b=none
 ic:∀b xs,H b=some (.tup xs)→H' b=some (.tup xs)
 gZ:∀b o u,H b=some (.iD o u)→H' b=some (.iD o u)
 ie:∀b ps,H b=some (.oa ps)→∃more,H' b=some (.oa (ps++more))
def e8(P:Program)(w:World):jd:=fun outer H s E e s'=>∃ea C H' B t,e=.ref ea∧B9 P w outer H s H' ea C B t s'∧E (.ref C) none H'
section
variable {P:Program} {w:World} {outer:List Env} {H H':Hp} {s s':Shared} {ea C t:Addr} {B:Heap}
def ExcAt(ea C:Addr)(h:Heap):Prop:=∃oe,h.get? ea=some oe∧oe.cls=.ref C∧PySem.W.notCls oe=true
def T_(ea C:Addr):HO:=.ext (ExcAt ea C)
end
section
variable {X:Cx} {pins:bM} {σ:St} {H H':Hp} {s s':Shared} {ea C t:Addr} {B:Heap}
structure ve (X:Cx) (E:XK):Prop where
 jE:X.stack=X.env::X.outer
 fr:X.env.frame=some X.env.locals
 ex:X.ex=[]
 xe:X.xe=fun e s'=>wpAny (model X.prog X.w) X.A (leaving X.env e) (fun _ jJ=>e8 X.prog X.w X.outer X.H₀ X.s₀ E e jJ) (fun e' jJ=>e8 X.prog X.w X.outer X.H₀ X.s₀ E e' jJ) s'
theorem B_{env:Env}{outer:List Env}{L:Addr}(h:env.frame=some L):dh (env::outer)=L::dh outer:=by unfold dh;rw [Bh,h]
variable {E:XK}
theorem B9.leave(L:ve X E)(I:Inv X pins σ H s)(f:B9 X.prog X.w X.stack H s H' ea C B t s'){h:Heap}(x:Heap.FlyingW B X.outer ea (.ref C) (.ref t) h)(up:s'.heap.UpToSlots h):B9 X.prog X.w X.outer X.H₀ X.s₀ H' ea C B t {s' with heap:=h}:=by
 have nL:∀b o,X.s₀.heap.get? b=some o→b≠X.env.locals:=fun b o e=>ft (dy (bV e) I.ok.above);have ns:∀b o,X.s₀.heap.get? b=some o→b∉dh X.outer→b∉dh X.stack:=fun b o e nb z=>by
  rw [L.jE,B_ L.fr] at z;rcases eY.mp z with z | z;·exact nL b o e z
  ·exact nb z
 have nx:∀b:Addr,b∉X.ex:=fun b z=>by rw [L.ex] at z;cases z
 refine ⟨f.os.trans I.os,f.bare,x,f.aN,fun b o e n nb=>?_,fun b o e nb=>?_,fun b o e n hb=>?_,I.ok.om,fun b o e n=>?_,fun b xs e=>f.ic b xs (I.base.ic b xs e),fun b o u e=>f.gZ b o u (I.base.gZ b o u e),fun b ps e=>?_⟩;·exact f.kb b o (I.base.keep b o e n nb (nx b)) (I.base.free b o e n (nx b)) (ns b o e nb)
 ·obtain ⟨o',e'⟩:=I.base.there b o e (nx b)
  exact f.tb b o' e' (ns b o e nb)
 ·obtain ⟨l,q⟩:=I.base.slot b o e n hb (nx b)
  have hs:b∈dh X.stack:=by rw [L.jE,B_ L.fr];exact gg _ hb
  obtain ⟨l2,q2⟩:=f.sl b _ q (I.base.free b o e n (nx b)) hs;obtain ⟨_,o2,q3,nf⟩:=f.fl.2.2.1.mem hs;rw [q2] at q3;cases q3;obtain ⟨l3,q4⟩:=up b _ q2 nf;exact ⟨l3,q4⟩
 ·obtain ⟨o',e'⟩:=I.base.there b o e (nx b)
  exact f.T9 b o' e' (I.base.free b o e n (nx b))
 ·obtain ⟨m1,e1⟩:=I.base.ie b ps e
  obtain ⟨m2,e2⟩:=f.ie b _ e1;exact ⟨m1++m2,by rw [e2,Array.append_assoc]⟩
theorem iH:Passes (e8 X.prog X.w) X (fun _ _ _=>False):=fun pins σ H s e s' I h=>by obtain ⟨_,_,_,_,_,_,_,q⟩:=h;exact q.elim
theorem iY(L:ve X E):Passes (e8 X.prog X.w) X E:=fun pins σ H s e s' I h=>by
 obtain ⟨ea,C,H',B,t,rfl,f,q⟩:=h;rw [L.xe];refine wpAny_leaves_onW (by rw [I.ok.frames,L.jE]) L.fr (by have z:=f.fl;rw [L.jE] at z;exact z) fun h' x up=>?_
 exact ⟨ea,C,H',B,t,rfl,f.leave L I x up,q⟩
end
variable {K:aJ} {h:Heap}
theorem Ua{C:Addr}{vg:List Value}{newId:String}(dJ:K.In h)(hq:PySem.W.excIn K C vg newId=true) :
  ∃bm N nm qn bs hdct sn sub ab col dd k0 k1 k2 k3 k5 mN,h.get? C=some (excClassObj nm qn C N bs bm hdct sn sub ab col dd k0 k1 k2 k3 k5 newId)∧h.Ns N mN∧mN "__init__"=none∧OwnTail h vg bm∧PySem.W.mroIn K C=fun b=>some ((Value.ref C::bm).contains b):=by
 unfold PySem.W.excIn at hq
 split at hq
 ·rename_i rO cls slt look
  split at hq
  ·rename_i CC rest a0 a1 a2 a3 nn a5 em es
   simp only [uV,mD,Bool.not_eq_true'] at hq;obtain ⟨⟨⟨⟨⟨e1,e2⟩,e3⟩,e4⟩,e5⟩,e6⟩:=hq;subst e1 e2;have Ub:PySem.W.mroIn K CC=fun b=>some ((Value.ref CC::rest).contains b):=by
    funext b
    unfold PySem.W.mroIn PySem.W.clsIn;rw [look];simp [em]
   obtain ⟨c1,c2,c3,c4,c5,c6,c7,c8,c9,Uc,c11⟩:=cls;dsimp only at em e3 e5 e6;subst em e3;have Ud:slt = #[a0,a1,a2,a3,some (.builtin nn),a5]:=by obtain ⟨ll⟩:=slt;simp only at es;rw [es]
   subst Ud;exact ⟨rest,c4,c1,c5,c2,c6,c7,c8,c9,Uc,rO,a0,a1,a2,a3,a5,_,dJ _ _ look,.of_isNs (PySem.W.isNs_of_in dJ e5),PySem.W.nsMap_none_of_in dJ e5 e6,PySem.W.tail_of_in dJ e4,Ub⟩
  ·cases hq
 ·cases hq
section
variable {X:Cx} {E:XK} {x:Str} {C:Addr} {np je pos:Pos} {e:Expr} {es:List Expr} {ta:TA} {B newId Ue:String} {vg:List Value}
def Ug(C:Addr)(E:XK)(ta:TA):TS:=fun _ σ H=>ta σ H fun vs H1=>vs.length≤sizeLine∧E (.ref C) none H1
theorem rP(L:ve X E)(hc:X.calm=true)(FB:ExcBaseFacts B newId Ue vg)(hq:PySem.W.excIn X.K C vg newId=true)(hg:Gl X x)(hm:X.mg x=some (.ref C))(ha:PA X (e::es) ta)
  (hs:starEach (e::es) X.env=(false,eval e X.env)::starEach es X.env:=by rfl) (hp:(backTo je (starEach es X.env)).any (·.1)=false:=by rfl) (hd:(x == ("__debug__":Str))=false:=by decide) :
  PS X (.Raise (some (.Call (.Name x np) (e::es) [] je)) none pos) (Ug C E ta):=by
 intro pins s σ H D I h;obtain ⟨bm,N,nm,qn,bs,hdct,sn,sub,ab,col,dd,k0,k1,k2,k3,k5,mN,hC,hN,Uh,T,_⟩:=Ua I.ok.mod.dJ hq
 refine wpAny_Raise_call_subT (C:=C) (nm:=nm) (q:=qn) (N:=N) (bs:=bs) (bm:=bm) (hdct:=hdct) (sn:=sn) (sub:=sub) (ab:=ab) (col:=col) (dd:=dd) (k0:=k0) (k1:=k1) (k2:=k2) (k3:=k3) (k5:=k5) FB (mN:=mN) (T.hasType FB.hasBase) (I.ok.hd hc)
  (by rw [hs];show (false || (backTo je (starEach es X.env)).any (·.1))=false;rw [hp];rfl) Uh (BL I hg hm ⟨rfl,?_⟩ hd)
 have h1:=ha je pins s σ H _ I h;rw [hs] at h1 ⊢;refine Calls.evalArgs_plain (aV h1 fun us s2 ⟨vs,H1,I1,r,hl,q⟩=>⟨rfl,by rw [←r.length];exact hl,I1.bk _ _ hC,hN.keeps I1.bk,T.keeps I1.bk,fun h' ea mk=>?_⟩)
 rw [L.xe];have nL:∀b o,X.s₀.heap.get? b=some o→b≠X.env.locals:=fun b o q=>ft (dy (bV q) I1.ok.above);have ns:∀b o,X.s₀.heap.get? b=some o→b∉dh X.outer→b∉dh X.stack:=fun b o q nb z=>by
  rw [L.jE,B_ L.fr] at z;rcases eY.mp z with z | z;·exact nL b o q z
  ·exact nb z
 have nx:∀b:Addr,b∉X.ex:=fun b z=>by rw [L.ex] at z;cases z
 have ff:s2.heap.FunFrames (PySem.W.hideAll s2.heap (dh X.stack)) (X.env::X.outer):=by have z:=I1.stack;rw [←L.jE];exact PySem.W.funFrames_hide z fun env he a hf=>List.mem_filterMap.mpr ⟨env,he,hf⟩
 refine wpAny_leaves_madeW (base:=PySem.W.hideAll s2.heap (dh X.stack)) (h:=s2.heap) (by rw [I1.ok.frames,L.jE]) L.fr (fun b o q=>PySem.W.of_hideAll _ q) ff mk fun h2 t fl _ _ up=>?_
 refine ⟨ea,C,H1,_,t,rfl,⟨I1.os,I1.bare,fl,fun a o e1=>?_,fun b o e1 n nb=>?_,fun b o e1 nb=>?_,fun b o e1 n hb=>?_,I1.ok.om,fun b o e1 n=>?_,I1.base.ic,I1.base.gZ,I1.base.ie⟩,q⟩
 ·refine (I1.aN a o e1).jD (fun b u hb e2=>Bg _ e2 fun z=>?_) (fun _ z=>z) fun _ _ z=>z
  have n0:=I1.q_ b z;rcases hb with hb | hb
  ·subst hb
   rw [e1] at n0;cases n0
  ·rw [hb] at n0
   cases n0
 ·exact Bg _ (I1.base.keep b o e1 n nb (nx b)) (ns b o e1 nb)
 ·obtain ⟨o',e2⟩:=I1.base.there b o e1 (nx b)
  exact ⟨o',Bg _ e2 (ns b o e1 nb)⟩
 ·obtain ⟨l,e2⟩:=I1.base.slot b o e1 n hb (nx b)
  have mO:b∈dh X.stack:=by rw [L.jE,B_ L.fr];exact gg _ hb
  obtain ⟨_,o2,e3,nf⟩:=I1.stack.mem mO;rw [e2] at e3;cases e3;obtain ⟨l2,e4⟩:=up b _ (mk.keeps _ _ e2) nf;exact ⟨l2,e4⟩
 ·obtain ⟨o',e2⟩:=I1.base.there b o e1 (nx b)
  exact I1.base.free b o e1 n (nx b)
end
section
variable {X:Cx} {k:Nat} {f C:Addr} {fd:FuncData} {ps:List Str} {sp:Sp} {gs:List V} {ds:List Value} {x m:Str} {p pos apos:Pos} {e o:Expr} {es:List Expr} {ta:TE} {t:TA}
variable {te:TX} {i:Nat} {pos':Pos}
end
section
variable {X:Cx} {pins:bM} {σ:St} {H:Hp} {s:Shared} {ea:Addr}
end
section
variable {M:Model} {A:Around} {E:cO} {h:Heap} {g:Array GenState} {d:Drawn} {t:Nat} {os:OsState} {e:Addr} {oe:Obj} {Q:Bool→Shared→Prop}
variable {nm q nm' q':Str} {C N D N':Addr} {bs bm bs' bm':List Value} {hdct ahE:Bool} {sn sn':List Str} {sub ahG:List Value} {ab ab':Bool} {col ahI:Option Bool} {dd dd':Option Addr} {k0 k1 k2 k3 k5 j0 j1 j2 j3 j5:Option Value} {newId ahK:String}
end
section
variable {X:Cx} {body:List Stmt} {b₀:Stmt} {ahL:List Stmt} {np ahM pos:Pos} {x n:Str} {D:Addr} {tb:TSX} {ts:TS} {vg:List Value} {newId:String} {i:Nat}
end
section
variable {P:Program} {w:World} {K:aJ} {mg:dU} {base:Heap}
variable {x qual:Str} {st:Stmt} {f:Addr} {fd:FuncData} {N ps:List Str} {k:Nat} {sp:Sp}
theorem fS.Gf(F:fS K x qual st f fd)(S:bF N ps (aU st))(len:∀vs H Q E,sp vs H Q E→vs.length=ps.length)
  (lI:∀(br:Value) (A:Around) (outer:List Env) (s:Shared) (H:Hp) (vs:List V) (Q:VK) (E:XK),dQ k (A.deeper (envOfC qual (aU st) s.heap.objs.size f br))→sp vs H Q E→
   ve (jI (e8 P w) P w K mg base N qual (aU st) f br A outer s H E) E→
   ∃t,gk (jI (e8 P w) P w K mg base N qual (aU st) f br A outer s H E) (g8 st) t∧t {nx:=fun _ H'=>Q .aY H',rt:=Q} (start N vs) H):a7 P w K mg base (e8 P w) (k+1) f fd ps sp:=by
 obtain ⟨oc,od,kV,doc,pm,an,br,ct,gH,rfl,lk,gF⟩:=F.ex;exact FW lk gF S len fun A outer s H vs Q E hr kI=>lI br A outer s H vs Q E hr kI ⟨rfl,rfl,rfl,rfl⟩
theorem fS.eR(F:fS K x qual st f fd)(S:bF N ps (aU st))
  (lI:∀(br:Value) (A:Around) (outer:List Env) (s:Shared) (H:Hp) (vs:List V) (Q:VK) (E:XK),dQ k (A.deeper (envOfC qual (aU st) s.heap.objs.size f br))→sp vs H Q E→
   ve (jI (e8 P w) P w K mg base N qual (aU st) f br A outer s H E) E→
   ∃t,gk (jI (e8 P w) P w K mg base N qual (aU st) f br A outer s H E) (g8 st) t∧t {nx:=fun _ H'=>Q .aY H',rt:=Q} (start N vs) H)
  (len:∀vs H Q E,sp vs H Q E→vs.length=ps.length:=by intro vs H Q E h;repeat first | (obtain ⟨rfl,_⟩:=h;rfl) | (subst h;rfl) | obtain ⟨_,h⟩:=h):a7 P w K mg base (e8 P w) (k+1) f fd ps sp:=F.Gf S len lI
end
structure rQ (K:aJ) (C:Addr):Prop where
 ci:PySem.W.hasDictIn K C=true
 ga:PySem.W.findIn K (.ref C) "__getattribute__"=some (some (.builtin "BaseException.__getattribute__"))
 gn:PySem.W.findIn K (.ref C) "__getattr__"=some none
 ca:PySem.W.findIn K (.ref C) "__class__"=some (some (.builtin "object.__class__"))
 mo:PySem.W.mroIn K C (.type "object")=some true
 mb:PySem.W.mroIn K C (.type "BaseException")=some true
section
variable {prog:Program} {w:World} {A:Around} {E:cO} {h:Heap} {g:Array GenState} {d:Drawn} {t:Nat} {os:OsState} {K:aJ} {a C:Addr} {o:Obj}
theorem Ui{R:Result→Shared→Prop}(dJ:K.In h)(c:rQ K C)(hx:h.get? a=some o)(hc:o.cls=.ref C)(hq:R (.ok (.ret (.ref C))) ⟨h,g,d,t,os⟩) :
  codeAny (model prog w) A (.call (.builtin "getset_descriptor.__get__") ⟨[.builtin "object.__class__",.ref a,.ref C],[]⟩) R ⟨h,g,d,t,os⟩:=by
 have L4:(⟨h,g,d,t,os⟩:Shared).TypeIs (.builtin "object.__class__") "getset_descriptor":=Fj;have L1:=PySem.W.looks_mroIn (M:=model prog w) dJ c.mo;have ow:=F.owner_object_class;refine codeAny_call_builtin F.slot_gs_get.plain F.entry_gs_get (F.slot_gs_get.check _ _ _ _ _ _ _ _ L4 (F.args_gs_get _ _ _) ?_)
 repeat (any_goals (first | assumption | (with_reducible refine yG hx ?_;rw [hc]) | (rw [ow];with_reducible refine L1.at ?_) | wp_step))
 refine ⟨Code.quiet_builtin _ (by decide +kernel),codeAny_builtin F.entry_object_class ?_⟩
 repeat (any_goals (first | assumption | (with_reducible refine yG hx ?_;rw [hc]) | wp_step))
variable {tk:Tok}
theorem Uj{Q:Fin→Shared→Prop}(dJ:K.In h)(c:rQ K C)(hx:h.get? a=some o)(hc:o.cls=.ref C)(hq:Q (.done (.ret (.ref C))) ⟨h,g,d,t,os⟩) :
  wpAny (model prog w) A (Builtin.«object.__getattribute__» ⟨[.ref a,.str "__class__" tk],[]⟩) Q E ⟨h,g,d,t,os⟩:=by
 have L4:(⟨h,g,d,t,os⟩:Shared).TypeIs (.builtin "object.__class__") "getset_descriptor":=Fj;have L1:=Bl (M:=model prog w) dJ c.ca;have f5:=Fj;have f6:=F.slot_gs_get.lookup;have f7:=F.slot_gs_set.lookup
 repeat (any_goals (first | assumption | (with_reducible refine yG hx ?_;rw [hc]) | with_reducible refine L1.at ?_ | wp_step))
 refine Ui dJ c hx hc ?_
 repeat (any_goals (first | assumption | wp_step))
theorem Uk{M:Model}{nv:Value}{Q:Unit→Shared→Prop}(dJ:K.In h)(c:rQ K C)(hx:h.get? a=some o)(hc:o.cls=.ref C)(hq:Q () ⟨h,g,d,t,os⟩) :
  wpAny M A (checkBuiltinCall "BaseException.__getattribute__" ⟨[.ref a,nv],[]⟩) Q E ⟨h,g,d,t,os⟩:=by
 have hk:builtinKind "BaseException.__getattribute__"=some .slot:=by decide +kernel
 have hs:splitId "BaseException.__getattribute__"=some ("BaseException","__getattribute__"):=by decide +kernel
 have L1:=PySem.W.looks_mroIn (M:=M) dJ c.mb;have ha:=F.args_bexc_ga (.ref a) nv;simp only [checkBuiltinCall,hk,hs];refine cR ?_;unfold isInstance
 repeat (first | (with_reducible refine yG hx ?_;rw [hc]) | with_reducible refine L1.at ?_ | wp_step)
 exact hq
theorem Ul{fill expr:Bool}{Q:cO}(dJ:K.In h)(c:rQ K C)(hx:h.get? a=some o)(hc:o.cls=.ref C)(hq:Q (.ref C) ⟨h,g,d,t,os⟩) :
  wpAny (model prog w) A (getAttrBy (.ref a) (.str "__class__" tk) fill expr) Q E ⟨h,g,d,t,os⟩:=by
 have f3:=F.attrBase_ValueError.ga.bind (.ref a);have z0:(expr && onTheHeap (Value.builtin "BaseException.__getattribute__"))=false:=by cases expr <;> rfl
 have z2:(Value.builtin "BaseException.__getattribute__" == Value.builtin "object.__getattribute__")=false:=by decide +kernel
 have z1:(onTheHeap (Value.ref C) && Value.builtin "BaseException.__getattribute__" == Value.builtin "object.__getattribute__")=false:=by rw [z2];rfl
 have L1:=Bl (M:=model prog w) dJ c.ga;have L2:=Bl (M:=model prog w) dJ c.gn
 repeat (any_goals (first | assumption | (with_reducible refine yG hx ?_;rw [hc]) | with_reducible refine L1.at ?_ | with_reducible refine L2.at ?_ | wp_step))
 refine codeAny_call_builtin F.attrBase_ValueError.ga.plain F.entry_bexc_ga (Uk dJ c hx hc (Uj dJ c hx hc ?_))
 repeat (any_goals (first | assumption | wp_step))
theorem Um{Q:Option Value→Shared→Prop}(dJ:K.In h)(c:rQ K C)(hx:h.get? a=some o)(hc:o.cls=.ref C)(hq:Q (some (.ref C)) ⟨h,g,d,t+1,os⟩) :
  wpAny (model prog w) A (getAttr? (.ref a) "__class__") Q E ⟨h,g,d,t,os⟩:=by
 unfold getAttr? getAttrBy?
 repeat (any_goals (first | assumption | with_reducible apply Ul dJ c hx hc | wp_step))
theorem Uo(c:rQ K C):PySem.W.KitX K (.ref a) (.ref C) (ExcAt a C) where
 ty:=fun M h _ k=>by obtain ⟨oe,e1,e2,_⟩:=k;exact e2▸(PySem.W.Looks.ld e1).andThen .now
 it:=fun M h dJ _=>by
  obtain ⟨cd,hc,_⟩:=PySem.W.any_some c.ci;unfold PySem.W.clsIn at hc
  split at hc
  ·rename_i look
   intro A' Q' E' s' k q;unfold isType loadHead;exact cR (wpAny_loadPart (k _ _ (dJ _ _ look)) (fz q))
  ·cases hc
 ne:=fun h tp dd av n sl dJ Up=>by
  obtain ⟨cd,hc,_⟩:=PySem.W.any_some c.ci;refine Bool.eq_false_iff.mpr fun q=>?_;have e:C=tp:=Value.ref.inj (mD.mp q);subst e;unfold PySem.W.clsIn at hc
  split at hc
  ·rename_i look
   have z:=(dJ _ _ look).symm.trans Up;cases z
  ·cases hc
 ca:=fun{prog w A E Q s} dJ k z=>by obtain ⟨oe,e1,e2,_⟩:=k;obtain ⟨h,g,d,t,os⟩:=s;exact Um dJ c e1 e2 z
end
def Ca(a:Addr)(h:Heap):Prop:=∃o ep,h.get? a=some o∧o.ExactDict∧o.data=.dict #[] ep∧(a == sysModules)=false
theorem Ca.zo{a:Addr}(e:Ca a h):PySem.W.KitAt a "dict" h:=by obtain ⟨o,_,e,c,_⟩:=e;exact ⟨o,e,c.1⟩
def L5(a:Addr):HO:=.ext (Ca a)
inductive zp (K:aJ) (H:Hp):V→Value→Prop where
 | of {x:V} {t:Value} (h:jH K H x t):zp K H x t
 | exc {a C:Addr} (e:H a=some (T_ a C)) (c:rQ K C):zp K H (.ref a) (.ref C)
 | rO {a:Addr} (e:H a=some (L5 a)):zp K H (.ref a) (.type "dict")
def L6:V→Value
 | .ty n=>.type n
 | .ref a=>.ref a
 | _=>.none
def Uq:V→Bool
 | .ty _=>true
 | .ref _=>true
 | _=>false
def Ur(K:aJ):List V→Hp→VK→Prop:=fun xs H Q=>∃x c t b,xs=[x,c]∧Uq c=true∧zp K H x t∧PySem.W.kitOne K t (L6 c)=some b∧Q (.bl b) H
variable {X:Cx}
theorem oA(hK:X.K=K:=by rfl):jc X (.builtin "isinstance") (Ur K):=by
 intro pins s σ H xs us Q I r h;subst hK;obtain ⟨x,c,t,b,rfl,hc,ty,e,q⟩:=h;obtain ⟨u,cv,rfl,rx,rc⟩:=vals2 r;have ec:cv=L6 c:=by
  cases c with
  | ty n=>exact rc
  | ref a=>exact rc
  | _=>cases hc
 subst ec;cases ty with
 | of ty=>exact SX I rx ty e fun tk=>⟨.bl b,H,I.tok tk,rfl,q⟩
 | @rO a ea=>cases rx;obtain ⟨k,_,_⟩:=(show fQ X.prog X.w H s.heap a (.ext (Ca a)) from I.aN a _ ea);exact jx PySem.W.kitx_dict I.eP k.zo e (fun z=>nomatch z) fun tk=>⟨.bl b,H,I.tok tk,rfl,q⟩
 | @exc a C ea cc=>cases rx;obtain ⟨k,_,_⟩:=(show fQ X.prog X.w H s.heap a (.ext (ExcAt a C)) from I.aN a _ ea);exact jx (Uo cc) I.eP k e (fun z=>nomatch z) fun tk=>⟨.bl b,H,I.tok tk,rfl,q⟩
def lJ:List V→List V→Bool
 | [],[]=>true
 | x::xs,y::ys=>gc x y && lJ xs ys
 | _,_=>false
def Us(K:aJ)(neg:Bool):R2:=fun x y H Q=>∃a b xs ys,x=.ref a∧y=.ref b∧fX K H a xs∧fX K H b ys∧xs.all f_=true∧ys.all f_=true∧Q (.bl (if neg then !lJ xs ys else lJ xs ys)) H
theorem L7{A:Around}{s:Shared}:∀{xs ys:List V} {us vs:List Value},Vals xs us→Vals ys vs→xs.all f_=true→ys.all f_=true→
  ∃e:Nat→Bool,(∀j (h1:j<us.length) (h2:j<vs.length),SeqAt.EqAt A s us[j] vs[j] (e j))∧((List.range (min us.length vs.length)).all e && us.length == vs.length)=lJ xs ys
 | [],[],_,_,.nil,.nil,_,_=>⟨fun _=>true,fun j h1=>absurd h1 (nV _),by simp [lJ]⟩
 | [],_::_,_,_,.nil,.cons _ _,_,_=>⟨fun _=>true,fun j h1=>absurd h1 (nV _),by simp [lJ]⟩
 | _::_,[],_,_,.cons _ _,.nil,_,_=>⟨fun _=>true,fun j _ h2=>absurd h2 (nV _),by simp [lJ]⟩
 | x::xs,y::ys,u::us,v::vs,.cons r1 t1,.cons r2 t2,f1,f2=>by
  rw [uU,uV] at f1 f2;obtain ⟨e,h,q⟩:=L7 (A:=A) (s:=s) t1 t2 f1.2 f2.2;refine ⟨fun j=>match j with | 0=>gc x y | k+1=>e k,fun j h1 h2=>?_,?_⟩
  ·cases j with
   | zero=>exact rF r1 r2 f1.1 f2.1
   | succ k=>exact h k (by simpa using h1) (by simpa using h2)
  ·have em:min (u::us).length (v::vs).length=min us.length vs.length+1:=by simp only [cS];lia
   rw [em,Fl,uU,List.all_map];show (gc x y && (List.range (min us.length vs.length)).all e && ((us.length+1) == (vs.length+1)))=(gc x y && lJ xs ys);rw [←q];have eb:((us.length+1) == (vs.length+1))=(us.length == vs.length):=by rw [uS,mD,mD];lia
   rw [eb,Bool.and_assoc]
theorem Ut(hu:X.A.units<cLine):cT X (compareOp .Eq) (Us X.K false):=by
 intro pins s σ H x y v u Q I rx ry h;obtain ⟨a,b,xs,ys,rfl,rfl,h1,h2,f1,f2,q⟩:=h;cases rx;cases ry;obtain ⟨us,r1,t1,_⟩:=I.tuple h1;obtain ⟨vs,r2,t2,_⟩:=I.tuple h2;obtain ⟨e,he,eq⟩:=L7 (A:=X.A.in1) (s:=s) r1 r2 f1 f2;refine SeqAt.eq_tupleAt (e:=e) t1 t2 hu (fun j z1 z2=>by simpa using he j (by simpa using z1) (by simpa using z2)) ⟨.bl (lJ xs ys),H,I,?_,q⟩
 show _=Value.bool (lJ xs ys);rw [←eq];simp
theorem boot_isinstance:bootBuiltins "isinstance"=some (.builtin "isinstance"):=by decide +kernel
theorem boot_abs:bootBuiltins "abs"=some (.builtin "abs"):=by decide +kernel
theorem boot_min:bootBuiltins "min"=some (.builtin "min"):=by decide +kernel
theorem boot_int:bootBuiltins "int"=some (.type "int"):=by decide +kernel
theorem boot_bool:bootBuiltins "bool"=some (.type "bool"):=by decide +kernel
theorem boot_tuple:bootBuiltins "tuple"=some (.type "tuple"):=by decide +kernel
theorem boot_list:bootBuiltins "list"=some (.type "list"):=by decide +kernel
end L2
namespace My
open PySem L2
def iq(n:Int):Bool:=(List.range 32).all fun e=>decide (e<2) || decide (n<(e:Int)*(e:Int)) || decide (n % (e:Int)≠0)
def oB(n:Int):Bool:=(List.range 32).all fun e=>decide (e<2) || decide (n≤(e:Int)) || decide (n % (e:Int)≠0)
set_option maxRecDepth 100000 in
theorem Uu:∀k:Nat,k<998→(k<2∨iq (k:Int)=oB (k:Int)):=by decide +kernel
variable {n:Int}
theorem Uv(h1:2≤n)(h2:n≤997):iq n=oB n:=by
 obtain ⟨k,rfl⟩:∃k:Nat,n=(k:Int):=⟨n.toNat,by lia⟩
 rcases Uu k (by lia) with h | h
 ·lia
 ·exact h
variable {d:Int}
theorem L8(h2:n≤997)(hd:2≤d)(hq:d*d≤n)(hm:n % d=0):iq n=false:=by
 have hd2:d<32:=by
  by_cases h:d<32;·exact h
  ·have:32*32≤d*d:=Int.mul_le_mul (by lia) (by lia) (by lia) (by lia)
   lia
 obtain ⟨k,rfl⟩:∃k:Nat,d=(k:Int):=⟨d.toNat,by lia⟩
 cases e:iq n with
 | false=>rfl
 | true=>
  have z:=k9.mp e k (fe.mpr (by lia))
  simp only [Bo,Bp] at z;rcases z with (z | z) | z;·lia
  ·lia
  ·exact absurd hm z
theorem Uw(hq:n<d*d)(hd:2≤d)(hm:∀e:Int,2≤e→e<d→n % e≠0):iq n=true:=by
 refine k9.mpr fun k _=>?_;simp only [Bo,Bp];by_cases h1:k<2;·exact .inl (.inl h1)
 ·by_cases h2:n<(k:Int)*(k:Int)
  ·exact .inl (.inr h2)
  ·refine .inr (hm k (by lia) ?_)
   by_cases h3:(k:Int)<d;·exact h3
   ·have:d*d≤(k:Int)*(k:Int):=Int.mul_le_mul (by lia) (by lia) (by lia) (by lia)
    lia
theorem Ux(hd:2≤d)(h32:d<32)(hn:d<n)(hm:n % d=0):oB n=false:=by
 obtain ⟨k,rfl⟩:∃k:Nat,d=(k:Int):=⟨d.toNat,by lia⟩
 cases e:oB n with
 | false=>rfl
 | true=>
  have z:=k9.mp e k (fe.mpr (by lia))
  simp only [Bo,Bp] at z;rcases z with (z | z) | z;·lia
  ·lia
  ·exact absurd hm z
theorem Uy(hm:∀e:Int,2≤e→e<32→e<n→n % e≠0):oB n=true:=by
 refine k9.mpr fun k hk=>?_;have:=fe.mp hk;simp only [Bo,Bp];by_cases h1:k<2;·exact .inl (.inl h1)
 ·by_cases h2:n≤(k:Int)
  ·exact .inl (.inr h2)
  ·exact .inr (hm k (by lia) (by lia) (by lia))
inductive Td where
 | a (w:Str)
 | b (w:Str) (n:Int)
def Td.vs:Td→List V
 | .a w=>[.str w]
 | .b w n=>[.str w,.int n]
def Td.zr:Td→Bool
 | .a w=>decide (w="fractions")
 | .b _ _=>false
def Td.kJ:Td→Bool
 | .a _=>false
 | .b w n=>decide (w="wheel") && (decide (2≤n) && decide (n≤997) && iq n)
def Td.good(d:Td):Bool:=d.zr || d.kJ
def Td.prime:Td→V
 | .a _=>.aY
 | .b _ n=>.int n
end My
namespace L2
open PySem PySem.Spec PyProof.Rows
abbrev Cx.bK (X:Cx) (N:List Str) (scope:Scope) (cl:List (Str×Addr)) (s₃:Shared) (H₃:Hp) (fp:List Addr):Cx:=
 {X with N:=N,s₀:=s₃,H₀:=H₃,env:=compEnvC scope cl s₃.heap.objs.size X.env,outer:=X.stack,stack:=X.stack,ex:=fp,fn:=fun _=>false,pn:=[],xe:=fun _ _=>False}
inductive kK (X:Cx):List Expr→TT→Prop where
 | nil:kK X [] (fun _ H Q=>Q true H)
 | one {c:Expr} {t:TT} (h:PT X c t):kK X [c] t
def jM(wi:TI)(ρ:St→St)(tt:TT)(te:TE):TE:=fun σ H Q=>wi σ H fun J H1=>∀D,H1 D=none→∃W:Nat→Nat→List V→Hp→Prop,(∃m,W 0 m [] (upd H1 D (.lst []))) ∧
 ∀i m ys Hc,W i m ys Hc→Hc D=some (.lst ys)∧((J.stop i Hc∧Q (.ref D) Hc)∨(J.go i Hc∧∀x H',J.fR i Hc x H'→tt (some x::ρ σ) H' fun b H2=>
  if b=true then te (some x::ρ σ) H2 fun y H3=>H3 D=some (.lst ys)∧ys.length<sizeLine∧∃m',m'<m∧W (i+1) m' (ys++[y]) (upd H3 D (.lst (ys++[y]))) else ∃m',m'<m∧W (i+1) m' ys H2))
section
variable {X:Cx} {N:List Str} {scope:Scope} {cl:List (Str×Addr)} {x:Str} {px pos:Pos} {iter elt:Expr} {ifs:List Expr} {wi:TI} {ρ:St→St} {tt:TT} {te:TE}
structure Gg (X:Cx) (N:List Str) (scope:Scope) (cl:List (Str×Addr)) (x:Str) (ρ:St→St):Prop where
 rS:closureFor scope X.env=pure cl
 kind:scope.kind=.function
 zt:∀y∈scope.names,y.2≠.cell
 names:∀y∈scope.names,y.2=.local→scope.names.lookup y.1=some .local
 sub:∀p∈cl,X.env.cells.lookup p.1=some p.2
 has:∀y,((relabel scope X.env).names.lookup y=some .cell∨(relabel scope X.env).names.lookup y=some .free)→∃c,cl.lookup y=some c
 n0:N[0]?=some x
 nd:N.Nodup
 hx:scope.names.lookup x=some .local
 rW:∀(σ:St) (j:Nat) (v:V),(ρ σ)[j]?=some (some v)→∃(i:Nat) (y:Str),N[j+1]?=some y∧X.N[i]?=some y∧σ[i]?=some (some v)∧oh X.env.scope y∧(X.env.kindOf y=some .cell∨X.env.kindOf y=some .free)∧((relabel scope X.env).names.lookup y=some .cell∨(relabel scope X.env).names.lookup y=some .free)
 len:∀σ:St,σ.length=X.N.length→(ρ σ).length+1=N.length
theorem L9{names:List (Str×NameKind)}(h:(names.all fun q=>(q.2 != .cell && q.2 != .free) || (cl.lookup q.1).isSome)=true) :
  ∀y,(names.lookup y=some .cell∨names.lookup y=some .free)→∃c,cl.lookup y=some c:=fun y hy=>by
 have key:∀k:NameKind,(k != .cell && k != .free)=false→names.lookup y=some k→∃c,cl.lookup y=some c:=fun k hk e=>by have z:=k9.mp h (y,k) (kl e);rw [hk,Bool.false_or] at z;exact Fh.mp z
 rcases hy with e | e;·exact key .cell rfl e
 ·exact key .free rfl e
theorem join_some{o:Option (Option V)}{v:V}(h:some o.join=some (some v)):o=some (some v):=by
 cases o with
 | none=>cases h
 | some o=>cases h;rfl
def Cb(X:Cx)(sc:Scope):List Str→List Nat→Prop
 | n::ns,i::is=>(X.N[i]?=some n∧oh X.env.scope n∧(X.env.kindOf n=some .cell∨X.env.kindOf n=some .free)∧((relabel sc X.env).names.lookup n=some .cell∨(relabel sc X.env).names.lookup n=some .free))∧Cb X sc ns is
 | _,[]=>True
 | [],_::_=>False
theorem Gh{X:Cx}{sc:Scope}:∀{ns:List Str} {is:List Nat},Cb X sc ns is→∀(σ:St) (j:Nat) (v:V),(is.map fun i=>σ[i]?.join)[j]?=some (some v)→∃(i:Nat) (n:Str),ns[j]?=some n∧X.N[i]?=some n∧σ[i]?=some (some v)∧oh X.env.scope n∧(X.env.kindOf n=some .cell∨X.env.kindOf n=some .free)∧((relabel sc X.env).names.lookup n=some .cell∨(relabel sc X.env).names.lookup n=some .free)
 | _,[],_,_,_,_,e=>by cases e
 | [],_::_,h,_,_,_,_=>h.elim
 | n::_,i::_,h,_,0,_,e=>⟨i,n,rfl,h.1.1,join_some e,h.1.2⟩
 | _::_,_::_,h,σ,j+1,v,e=>Gh h.2 σ j v e
theorem eS(is:List Nat)(h1:closureFor scope X.env=pure cl)(h:Cb X scope N.tail is:=by repeat' first | exact True.intro | refine And.intro ⟨rfl,Or.inr (Or.inl rfl),.inl rfl,.inl rfl⟩ ?_)(h2:scope.kind=.function:=by rfl)(h3:∀y∈scope.names,y.2≠.cell:=by decide +kernel)(h4:∀y∈scope.names,y.2=.local→scope.names.lookup y.1=some .local:=by decide +kernel)(h5:∀p∈cl,X.env.cells.lookup p.1=some p.2:=by repeat' first | exact Bq _ | refine pE.mpr ⟨rfl,?_⟩)(h6:((relabel scope X.env).names.all fun q=>(q.2 != .cell && q.2 != .free) || (cl.lookup q.1).isSome)=true:=by rfl)(h7:N[0]?=some x:=by rfl)(h8:N.Nodup:=by decide +kernel)(h9:scope.names.lookup x=some .local:=by rfl)(hr:∀σ:St,ρ σ=is.map fun i=>σ[i]?.join:=by exact fun _=>rfl)(hl:is.length+1=N.length:=by rfl):Gg X N scope cl x ρ:=
 ⟨h1,h2,h3,h4,h5,L9 h6,h7,h8,h9,fun σ j v e=>by rw [hr] at e;rw [←List.getElem?_tail];exact Gh h σ j v e,fun σ _=>by rw [hr,bL];exact hl⟩
theorem gd(B:Gg X N scope cl x ρ)(hc:X.calm=true)(hi:PI X (.Name x px) iter wi)(ht:∀s₃ H₃ fp,kK (X.bK N scope cl s₃ H₃ fp) ifs tt)(he:∀s₃ H₃ fp,PE (X.bK N scope cl s₃ H₃ fp) elt te)
  (hs:∀x,foldedSetIterable iter X.env x=pure x:=by intro _;rfl):PE X (.ListComp elt [⟨.Name x px,iter,ifs,0⟩] scope pos) (jM wi ρ tt te):=by
 intro pins s σ H Q I h
 rw [eval_ListComp]
 refine yH (use:=none) rfl hs B.rS B.kind B.names (aV (hi pins s σ H _ I h) fun v s1 h1=>aV h1 fun rj s2 h2=>?_)
 obtain ⟨it,fp,tn,J,H2,rfl,I2,T,fY,f2,q2⟩:=h2
 have nD:H2 s2.heap.objs.size=none:=I2.aN.fresh (aH _)
 obtain ⟨W,⟨m0,w0⟩,turn⟩:=q2 _ nD
 refine uR (Br B.zt (by intro y hy;simp at hy) (fun h₁ gf gJ=>?_) B.kind)
 dsimp only at gf gJ ⊢
 generalize hD:s2.heap.objs.size=D at nD w0 turn gf gJ ⊢
 generalize fJ:({s2 with heap:=s2.heap.push {cls:=.type "list",dict:=none,data:=.seq ([]:List Value).toArray}}:Shared)=s3
 have I3:Inv X pins σ (upd H2 D (.lst [])) s3:=by
  subst hD fJ
  exact I2.laid (t':=s2.toks) (fun b u e=>dA _ e) (aH _) ⟨eJ _,[],_,.nil,gR _ rfl⟩
 have e3:s3.heap=s2.heap.push {cls:=.type "list",dict:=none,data:=.seq ([]:List Value).toArray}:=by rw [←fJ]
 have e9:∀b o,s2.heap.get? b=some o→s3.heap.get? b=some o:=fun b o e=>by rw [e3];exact dA _ e
 rw [←e3] at gf gJ ⊢
 have below:∀b o,s3.heap.get? b=some o→b≠s3.heap.objs.size:=fun b o e=>ft (bV e)
 have du:∀b o,s3.heap.get? b=some o→h₁.get? b=some o:=fun b o e=>gJ.extBut b o (below b o e) (dA _ e)
 have gu:∀b∈fp,∃o,s2.heap.get? b=some o∧∀v,o.data≠.cell v:=T.obj _ _ fY
 have oC:∀b∈fp,b≠D:=fun b hb z=>by
  obtain ⟨o,e,_⟩:=gu b hb
  rw [z,←hD] at e
  exact absurd (bV e) (gz _)
 have cX:∀y c,cl.lookup y=some c→X.env.cells.lookup y=some c:=fun y c e=>B.sub (y,c) (kl e)
 have oE:=I3.q_
 have eR:(X.bK N scope cl s3 (upd H2 D (.lst [])) fp).Ok:=by
  refine ⟨I.ok.mod,B.kind,I.ok.glob,I.ok.blt,aH _,fun a b c e1 e2=>I.ok.inj a b c (cX a c e1) (cX b c e2),fun y hy=>B.has y hy,(fun _ _ z _=>absurd z dB),(fun _=>I.ok.hd hc),I.ok.frames,.inl rfl,fun b hb=>⟨?_,fun y c e z=>?_⟩,fun b o e=>?_,aq I.ok.ig I3.sz,fun b o e hb=>?_,fun b hb z=>?_,I3.stack,oE⟩
  ·obtain ⟨o,e,_⟩:=gu b hb
   exact below b o (e9 b o e)
  ·exact (f2 b hb).2.2.2.2.1 y c (cX y c e) z
  ·exact I3.bs b o e
  ·rcases (f2 b hb).2.2.2.1 with z | z
   ·exact I.ok.oi b o e z
   ·exact absurd (dy (bV e) (aq I.ok.ig z)) (gz _)
  ·rcases eY.mp (I3.q8 b z) with z | z
   ·exact (f2 b hb).2.1 z
   ·exact (f2 b hb).2.2.1 z
 have IB:∀tk:Nat,Inv (X.bK N scope cl s3 (upd H2 D (.lst [])) fp) [] (none::ρ σ) (upd H2 D (.lst [])) {s3 with heap:=h₁,toks:=tk}:=fun tk=>by
  refine ⟨eR,rfl,I3.bare,Un.kept du,⟨_,gf,fun j y v e1 e2 e3=>?_⟩,fun y c e=>?_,?_,fun y c e=>I3.ja y c (cX y c e),(fun p hp=>nomatch hp),I3.aN.kept du,?_⟩
  ·cases j with
   | zero=>cases e2
   | succ j=>
    obtain ⟨i,y',a1,a2,a3,a4,a5,a6⟩:=B.rW σ j v e2
    have jN:N[j+1]?=some y:=e1
    rw [jN] at a1
    cases a1
    obtain ⟨m,hn,hl⟩:=I3.loc
    obtain ⟨u,r,l⟩:=hl i y v a2 a3 a4
    refine ⟨u,r,.inr ⟨a6,?_⟩⟩
    obtain ⟨c,ec⟩:=B.has y a6
    rcases l with ⟨k,_⟩ | ⟨_,c',jf,z⟩
    ·rcases a5 with q | q <;> (rw [k] at q;cases q)
    ·have:=cX y c ec
     rw [this] at jf
     cases jf
     obtain ⟨o,ho,hd⟩:=z
     exact ⟨c,ec,o,du _ _ ho,hd⟩
  ·obtain ⟨v,o,ho,hd⟩:=I3.cell y c (cX y c e)
   exact ⟨v,o,du _ _ ho,hd⟩
  ·exact I3.aN.fresh (aH _)
  ·show (none::ρ σ).length=N.length
   rw [cS]
   exact B.len σ I.len
 have fin:∀{σ':St} {H':Hp} {s':Shared},Inv (X.bK N scope cl s3 (upd H2 D (.lst [])) fp) [] σ' H' s'→Q (.ref D) H'→compPost (model X.prog X.w) X.A X.xe none (EP X pins σ Q) (.ref D) s3.heap.objs.size (.ok .next) s':=fun{σ' H' s'} J q=>by
  obtain ⟨m,hn,_⟩:=J.loc
  refine ⟨m,hn,fun h' dR=>⟨.ref D,H',?_,rfl,q⟩⟩
  have old:∀b o,s3.heap.get? b=some o→b≠s3.heap.objs.size:=below
  have u1:Un (dh X.stack) fp (upd H2 D (.lst [])) H' s3.heap h':=by
   refine ⟨fun b o e n hb hx=>?_,fun b o e n hb hx=>?_,J.base.free,fun b o e hx=>?_,J.base.ic,J.base.gZ,J.base.ie⟩
   ·exact (dR.2 b (old b o e)).trans (J.base.keep b o e n hb hx)
   ·obtain ⟨sl,z⟩:=J.base.slot b o e n hb hx
    exact ⟨sl,(dR.2 b (old b o e)).trans z⟩
   ·obtain ⟨o',z⟩:=J.base.there b o e hx
    exact ⟨o',(dR.2 b (old b o e)).trans z⟩
  have oF:dC X.prog X.w H' h':=fun b u e=>by
   refine (J.aN b u e).jD (fun c v hc z=>(dR.2 c fun y=>?_).trans z) (fun _ z=>z) fun _ _ z=>z
   have fr:=J.free
   have y':c=s3.heap.objs.size:=y
   rcases hc with hc | hc
   ·rw [←hc,y'] at e
    exact absurd (fr.symm.trans e) (by simp)
   ·rw [y'] at hc
    exact absurd (fr.symm.trans hc) (by simp)
  refine I3.oq (s':={s' with heap:=h'}) (ch:=fp) (J.os) u1 oF J.bare fun b hb=>?_
  obtain ⟨g0,g1,g2,g3,g4,g5⟩:=f2 b hb
  exact ⟨g3,g1,g4,g5⟩
 have fE:∀{H':Hp},(∀b∈fp,H' b=none)→∀b∈fp,lj (X.bK N scope cl s3 (upd H2 D (.lst [])) fp) [] H' b:=fun hn b hb=>by
  refine ⟨hn b hb,?_,?_,.inl hb,fun y c e z=>(f2 b hb).2.2.2.2.1 y c (cX y c e) z,fun p hp=>nomatch hp⟩
  ·obtain ⟨o,e,_⟩:=gu b hb
   exact below b o (e9 b o e)
  ·exact eR.oj b hb
 have loop:∀tk:Nat,codeAny (model X.prog X.w) X.A (.compLoop (.ListComp elt [⟨.Name x px,iter,ifs,0⟩] scope pos) 0 (.ref it) (.ref D) (compEnvC scope cl s3.heap.objs.size X.env))
   (compPost (model X.prog X.w) X.A X.xe none (EP X pins σ Q) (.ref D) s3.heap.objs.size) {s3 with heap:=h₁,toks:=tk}:=fun tk=>by
  refine Fm (fun n s'=>∃i ys o H',Inv (X.bK N scope cl s3 (upd H2 D (.lst [])) fp) [] (o::ρ σ) H' s'∧tn i s'.heap∧(∀b∈fp,H' b=none)∧W i n ys H') ?_ m0
   ⟨0,[],none,_,IB tk,T.keep _ _ _ fY fun b hb o e=>du _ _ (e9 _ _ e),fun b hb=>by rw [bI (oC b hb)];exact (f2 b hb).1,w0⟩
  rintro n s4 ⟨i,ys,o,H4,I4,jg,jh,w4⟩
  obtain ⟨Cc,oG⟩:=turn i n ys H4 w4
  rcases oG with ⟨stop,qn⟩ | ⟨go,step⟩
  ·refine cI (T.done (X.bK N scope cl s3 (upd H2 D (.lst [])) fp) rfl rfl rfl hc i [] s4 _ H4 (fun _ _=>False) I4 (fE jh) jg stop) (fun r s5 ⟨hr,I5⟩=>?_) fun _ _ z=>z.elim
   subst hr
   exact fin I5 qn
  ·refine cI (T.item (X.bK N scope cl s3 (upd H2 D (.lst [])) fp) rfl rfl rfl hc i [] s4 _ H4 (fun _ _=>False) I4 (fE jh) jg go) (fun r s5 ⟨u,hr,h5⟩=>?_) fun _ _ z=>z.elim
   subst hr
   have z:letOwnedTupleGo (.Name x px) (.ref it) u=pure ():=rfl
   rw [z] at h5
   show wpAny _ _ ((pure ():Sem Unit) >>= fun _=>assign (.Name x px) (compEnvC scope cl s3.heap.objs.size X.env) u) _ _ s5
   refine cR (cI h5 (fun _ s5 ⟨y,H5,I5,r5,y5,fF,lD⟩=>?_) fun _ _ z=>z.elim)
   have lE:=I5.pinned (fE lD) (T.obj _ _ fF)
   have pg:PG (X.bK N scope cl s3 (upd H2 D (.lst [])) fp) (.Name x px) (aT 0):=d_ (i:=0) B.nd B.n0 (.inl (km B.hx)) (.inr (km B.hx))
   have again:∀{σ7:St} {H7:Hp} {s7:Shared},Inv (X.bK N scope cl s3 (upd H2 D (.lst [])) fp) ([]++jb fp s5.heap) σ7 H7 s7→Inv (X.bK N scope cl s3 (upd H2 D (.lst [])) fp) [] σ7 H7 s7∧tn (i+1) s7.heap∧∀b∈fp,H7 b=none:=fun{σ7 H7 s7} I7=>by
    refine ⟨I7.pP,T.keep _ _ _ fF fun b hb o e=>(I7.pin (b,o) (eI _ (eI _ (kF hb e)))).1,fun b hb=>?_⟩
    obtain ⟨o,e,d⟩:=T.obj _ _ fF b hb
    exact (I7.pin (b,o) (eI _ (eI _ (kF hb e)))).2.1
   refine cI (pg _ s5 _ H5 y u (fun σ2 H6=>σ2=some y::ρ σ∧H6=H5) lE r5 ⟨rfl,rfl⟩) (fun _ s6 ⟨σ6,H6,I6,q6⟩=>?_) fun _ _ z=>z.elim
   obtain ⟨rfl,rfl⟩:=q6
   have oH:=step y _ y5
   have tests:∀{gK:TT},kK (X.bK N scope cl s3 (upd H2 D (.lst [])) fp) ifs gK→∀{R:Bool→Hp→Prop},gK (some y::ρ σ) H6 R→wpAny (model X.prog X.w) X.A
     (forIn ifs true fun c r=>if r=true then do let ok ←isTrue c (compEnvC scope cl s3.heap.objs.size X.env) (eval c (compEnvC scope cl s3.heap.objs.size X.env));pure (ForInStep.yield ok) else pure (ForInStep.yield r))
     (fun ok s7=>∃H7,Inv (X.bK N scope cl s3 (upd H2 D (.lst [])) fp) ([]++jb fp s5.heap) (some y::ρ σ) H7 s7∧R ok H7) (fun _ _=>False) s6:=fun{gK} p {R} hR=>by
    cases p with
    | nil=>exact yI ⟨_,I6,hR⟩
    | one p=>exact yJ (p _ s6 _ _ _ I6 hR)
   refine cI (tests (ht s3 _ fp) oH) (fun ok s7 ⟨H7,I7,q7⟩=>?_) fun _ _ z=>z.elim
   cases ok with
   | false=>
    obtain ⟨m',gv,w7⟩:=q7
    obtain ⟨a1,a2,a3⟩:=again I7
    exact ⟨m',gv,i+1,ys,_,H7,a1,a2,a3,w7⟩
   | true=>
    refine cI (he s3 _ fp _ s7 _ H7 _ I7 q7) (fun ev s8 ⟨z,H8,I8,r8,lK,hz,m',gv,w8⟩=>?_) fun _ _ z=>z.elim
    refine cI (mR (X:=X.bK N scope cl s3 (upd H2 D (.lst [])) fp) _ s8 _ H8 (.ref D) [z] (.ref D) [ev] (fun _ H9=>H9=upd H8 D (.lst (ys++[z]))) I8 rfl (.cons r8 .nil) ⟨D,ys,z,rfl,rfl,lK,hz,rfl⟩) (fun _ s9 ⟨_,H9,I9,_,q9⟩=>?_) fun _ _ z=>z.elim
    subst q9
    obtain ⟨a1,a2,a3⟩:=again I9
    exact ⟨m',gv,i+1,ys++[z],_,_,a1,a2,a3,w8⟩
 have start:=loop (s3.toks+([]:List (Str×Value)).length)
 have es:({s3 with heap:=h₁,toks:=s3.toks+([]:List (Str×Value)).length}:Shared)={s2 with heap:=h₁,toks:=s2.toks+([]:List (Str×Value)).length}:=by rw [←fJ]
 rw [es] at start
 exact yK start (T.self _ 0 _ _ _ (T.keep _ _ _ fY fun b hb o e=>du _ _ (e9 _ _ e)) start)
end
def cC(i:Int):Prop:=i.natAbs<2 ^ 2048
variable {i:Int}
theorem cC.log(h:cC i):i.natAbs.log2<2048:=by
 by_cases z:i.natAbs=0;·rw [z];decide
 ·exact (Nat.log2_lt z).mpr h
def L_(i j:Int):Prop:=j≠0∧cC j
def Gi(i j:Int):Prop:=cC i∧cC j
theorem Gi.ok{j:Int}(h:Gi i j):IntMulOk i j:=by
 have b:∀{k:Int},cC k→Builtin.Int.intBits k≤2048:=fun{k} hk=>by
  have z:=hk.log;unfold Builtin.Int.intBits
  split <;> lia
 unfold IntMulOk;have e:Builtin.Int.intTooBig ((Builtin.Int.intBits i:Int)+(Builtin.Int.intBits j:Int))=false:=by
  unfold Builtin.Int.intTooBig;have h1:=b h.1;have h2:=b h.2;have h3:(4096:Int)≤bitsLine:=by decide +kernel
  exact fq (by lia)
 intro z;rw [uV] at z;have z2:=z.2;rw [show Builtin.Int.intTooBig ((Builtin.Int.intBits i:Int)+(Builtin.Int.intBits j:Int))=false from e] at z2;cases z2
theorem Ma:∀{xs:List V} {us:List Value},xs.length=us.length→(∀(i:Nat) (x:V) (u:Value),xs[i]?=some x→us[i]?=some u→RelV x u)→Vals xs us
 | [],[],_,_=>.nil
 | [],_::_,h,_=>by simp at h
 | _::_,[],h,_=>by simp at h
 | x::xs,u::us,h,k=>.cons (k 0 x u rfl rfl) (Ma (by simpa using h) fun i a b h1 h2=>k (i+1) a b (by simpa using h1) (by simpa using h2))
section
variable {X:Cx}
theorem Gj:cT X (binaryOp .FloorDiv) (rI L_ fun i j=>.int (i.fdiv j)):=ox fun _ _ _ _ _ _ _ hc q=>floordiv_int hc.1 q (.inl (Fn (dy hc.2.log (by decide))))
theorem ji:cT X (binaryOp .Mult) (rI Gi fun i j=>.int (i*j)):=ox fun _ _ _ _ _ _ _ hc q=>mul_int q hc.ok
def Mb(i j:Int):Prop:=0<j∧cC j
theorem gw:cT X (binaryOp .FloorDiv) (rI Mb fun i j=>.int (i / j)):=ox fun i j _ _ _ _ _ hc q=>floordiv_int (Int.ne_of_gt hc.1) (by rw [yC i (Int.le_of_lt hc.1)];exact q) (.inl (Fn (dy hc.2.log (by decide))))
def allR(K:aJ):List V→Hp→VK→Prop:=fun xs H Q=>∃(p:Addr) (bs:List Bool),xs=[.ref p]∧bP K H p (bs.map V.bl)∧Q (.bl (bs.all id)) H
theorem Mc{K:aJ}(hc:X.calm=true)(hK:X.K=K:=by rfl):jc X (.builtin "all") (allR K):=by
 intro pins s σ H xs us Q I r h;subst hK;obtain ⟨p,bs,rfl,hq,q⟩:=h;obtain ⟨u,rfl,ru⟩:=vals1 r;cases ru;obtain ⟨av,rv,pl,hz⟩:=I.list hq;have fh:p≠s.heap.objs.size:=by obtain ⟨o,e,_⟩:=pl.isList;exact ft (bV e)
 have hl:av.length=bs.length:=by rw [←rv.length,bL]
 refine call_all_walk (Bj pl.isList ?_);refine ⟨s.heap.objs.size,_,_,_,_,_,fun i=>bs.getD i true,rfl,Walks.list (A:=X.A.in1) (show X.A.in1.handled=none from I.ok.hd hc) s.heap.objs.size p fh av.toArray,⟨⟨_,gR _ rfl,rfl,rfl⟩,pl.isList.push _⟩,fun i v s' Q' E' hv oz=>?_,fun h' tk hk=>?_⟩
 ·have fH:av[i]?=some v:=by simpa using hv
  cases eb:bs[i]? with
  | none=>
   have:=rv.none_of (i:=i) (by rw [cF,eb];rfl)
   rw [this] at fH;cases fH
  | some b=>
   obtain ⟨u,hu,ru⟩:=rv.get (i:=i) (x:=V.bl b) (by rw [cF,eb];rfl)
   rw [hu] at fH;cases fH;cases ru;have e:bs.getD i true=b:=by rw [cu,eb];rfl
   have kP:Q' (bs.getD i true) s':=oz;rw [e] at kP;exact nQ kP
 ·refine ⟨.bl (bs.all id),H,I.kept fun b o e=>hk b o (fun z=>?_) (dA _ e),?_,q⟩
  ·exact absurd (bV e) (by rw [i8.mp z];exact gz _)
  ·show Value.bool _=Value.bool _
   congr 1
   rw [d7,hl];clear hk q rv pl hz hl hq
   induction bs with
   | nil=>rfl
   | cons b bs ih=>rw [cS,Fl,uU,List.all_map,uU];show (b && (List.range bs.length).all fun i=>bs.getD i true)=(b && bs.all id);rw [ih]
def Uz:List V→Hp→VK→Prop:=fun xs H Q=>∃j:Int,xs=[.int j]∧∀p,H p=none→Q (.ref p) (upd H p (.lh 0 j))
theorem UA:jc X (.type "range") Uz:=by intro pins s σ H xs us Q I r h;obtain ⟨j,rfl,q⟩:=h;obtain ⟨u,rfl,ru⟩:=vals1 r;obtain ⟨t,rfl⟩:=ru;refine call_range_1 ⟨.ref s.heap.objs.size,_,I.laid (o:=.lh 0 j) (fun b o e=>dA _ e) (aH _) ⟨_,_,_,gR _ rfl⟩,rfl,q _ (I.aN.fresh (aH _))⟩
def lM(n:Nat):List V:=(List.range n).map fun i:Nat=>V.int (i:Int)
def UB:List V→Hp→VK→Prop:=fun xs H Q=>∃p n,xs=[.ref p]∧H p=some (.lh 0 (n:Nat))∧n≤10000∧∀l,H l=none→Q (.ref l) (upd H l (.lst (lM n)))
theorem UC(hc:X.calm=true):jc X (.type "list") UB:=by
 intro pins s σ H xs us Q I r h;obtain ⟨p,n,rfl,hp,hn,q⟩:=h;obtain ⟨u,rfl,ru⟩:=vals1 r;cases ru;obtain ⟨t,u,v,e⟩:=(show fQ X.prog X.w H s.heap p (.lh 0 n) from I.aN p _ hp);refine call_list_range (n:=n) (I.ok.hd hc) e (small_one (by lia) (by lia) (by lia) (by lia)) (by rw [rangeSize_one];split <;> lia) (by lia) fun h' tk acc c hk hD hit=>?_
 refine ⟨.ref s.heap.objs.size,_,I.laid (o:=.lst (lM n)) (fun b o e=>hk b o e) (aH _) ⟨?_,acc.toList,c,?_,?_⟩,rfl,q _ (I.aN.fresh (aH _))⟩
 ·unfold lM
  rw [bL,eK];exact aq hn (by decide)
 ·refine Ma ?_ fun i x u h1 h2=>?_
  ·unfold lM
   rw [bL,eK,Array.length_toList,hit.1]
  ·have Md:acc[i]?=some u:=by simpa using h2
   obtain ⟨UD,e'⟩:=hit.2 i u Md;unfold lM at h1;rw [cF] at h1;have hi:i<n:=by have z:=(Array.getElem?_eq_some_iff.mp Md).1;rw [hit.1] at z;exact z
   rw [List.getElem?_range hi] at h1;cases h1;exact ⟨UD,by rw [e'];simp⟩
 ·rw [hD]
end
theorem boot_all:bootBuiltins "all"=some (.builtin "all"):=by decide +kernel
theorem UE:bootBuiltins "range"=some (.type "range"):=by decide +kernel
def Gk:Expr→Bool
 | .Starred _ _=>false
 | _=>true
variable {es:List Expr}
theorem UG{e:Expr}{env:Env}(h:Gk e=true):starEach (e::es) env=(false,eval e env)::starEach es env:=by cases e <;> first | rfl | cases h
variable {X:Cx} {te:TE} {t:TA}
theorem UH{e:Expr}(hs:Gk e=true)(ha:PE X e te)(hr:PA X es t):PA X (e::es) (rC te t):=
 S4 ha hr (UG hs)
theorem ae{e:Expr}(ha:PE X e te)(hr:PA X es t)(hs:Gk e=true:=by rfl):PA X (e::es) (rC te t):=UH hs ha hr
variable {pos pos':Pos} {x:Str}
theorem Me{i:Nat}{e:Expr}(hs:swapsWith e (some (.Name x pos')) pos.line X.env=pure false)(hf:X.fn x=true∨X.env.scope.names.lookup x=some .local)(hN:X.N.Nodup)(hi:X.N[i]?=some x)(hx:Loc X.env.scope x)(he:PE X e te) :
  PS X (.Assign [.Name x pos'] e pos) (ou te (aT i)):=R9 hN hi hx he hs hf
theorem putL(i:Nat){e:Expr}(hN:X.N.Nodup)(he:PE X e te)(hs:swapsWith e (some (.Name x pos')) pos.line X.env=pure false:=by rfl)(hi:X.N[i]?=some x:=by rfl)(hx:X.env.scope.names.lookup x=some .local:=by rfl) :
  PS X (.Assign [.Name x pos'] e pos) (ou te (aT i)):=Me hs (.inr hx) hN hi (.inl hx) he
theorem eC(i:Nat){e:Expr}(hN:X.N.Nodup)(he:PE X e te)(hs:swapsWith e (some (.Name x pos')) pos.line X.env=pure false:=by rfl)(hf:X.fn x=true∨X.env.scope.names.lookup x=some .local:=by first | exact .inl rfl | exact .inr rfl | assumption)(hi:X.N[i]?=some x:=by rfl)(hx:X.env.scope.names.lookup x=some .cell:=by rfl) :
  PS X (.Assign [.Name x pos'] e pos) (ou te (aT i)):=Me hs hf hN hi (.inr hx) he
def UI:V→List V→Hp→VK→Prop:=fun x xs H Q=>∃i:Int,x=.int i∧xs=[]∧Q (.int ((Builtin.Int.intBits i:Nat):Int)) H
theorem UJ:FZ X "int.bit_length" UI:=by intro pins s σ H x xs v us Q I rx rv h;obtain ⟨i,rfl,rfl,q⟩:=h;have Cd:=rv.zero;subst Cd;obtain ⟨t,rfl⟩:=rx;exact call_int_bit_length ⟨.int ((Builtin.Int.intBits i:Nat):Int),H,I.tok _,⟨_,rfl⟩,q⟩
theorem UK(h:cC i):Builtin.Int.intBits i≤2048:=by
 have z:=h.log;unfold Builtin.Int.intBits
 split <;> lia
end L2
namespace My
open PySem L2
theorem Gm(a b:Str):decide (V.str a=V.str b)=decide (a=b):=by
 by_cases h:a=b;·subst h;simp
 ·rw [fq h];exact fq fun e=>h (V.str.inj e)
theorem jO(a b:Int):decide (V.int a=V.int b)=decide (a=b):=by
 by_cases h:a=b;·subst h;simp
 ·rw [fq h];exact fq fun e=>h (V.int.inj e)
variable {K:aJ}
theorem zu{T:String}:PySem.W.kitOne K (.type T) (.type T)=some true:=by unfold PySem.W.kitOne;rw [ak (beq_self_eq_true _)]
variable {H:Hp} {p:Addr}
theorem aS{o:HO}(h:H p=none):ah H (upd H p o):=fun b u e=>by rw [bI (gi e h)];exact e
variable {i:Int}
theorem UL{α:Type}{xs:List α}(h0:0≤i)(h1:i<xs.length):∃v,da xs i=some v∧v∈xs:=by
 obtain ⟨k,rfl⟩:∃k:Nat,i=(k:Int):=⟨i.toNat,by lia⟩
 have hk:k<xs.length:=by lia
 exact ⟨xs[k],cK (by simp [hk]),aQ _⟩
theorem lO(v:V):([(("prime":Str),v)]:List (Str×V)).lookup ("prime":Str)=some v:=by simp [List.lookup]
inductive Any (H:Hp):V→Prop where
 | aY:Any H .aY
 | bl (b:Bool):Any H (.bl b)
 | int (i:Int):Any H (.int i)
 | str (x:Str):Any H (.str x)
 | lst {a:Addr} {xs:List V} (e:H a=some (.lst xs)):Any H (.ref a)
 | tup {a:Addr} {xs:List V} (e:H a=some (.tup xs)):Any H (.ref a)
 | rO {a:Addr} (e:H a=some (L5 a)):Any H (.ref a)
def jP:V→Bool
 | .int _=>true
 | _=>false
def oI:V→Bool
 | .bl _=>true
 | _=>false
def mS(H:Hp):V→Bool
 | .ref a=>(match H a with | some (.tup _)=>true | _=>false)
 | _=>false
variable {v:V}
theorem Any.zo(h:Any H v):∃T:String,zp K H v (.type T)∧PySem.W.kitOne K (.type T) (.type "int")=some (jP v || oI v)∧PySem.W.kitOne K (.type T) (.type "bool")=some (oI v) ∧
  PySem.W.kitOne K (.type T) (.type "tuple")=some (mS H v):=by
 cases h with
 | aY=>exact ⟨"NoneType",.of .aY,rfl,rfl,rfl⟩
 | bl b=>exact ⟨"bool",.of (.bl b),rfl,rfl,rfl⟩
 | int i=>exact ⟨"int",.of (.int i),rfl,rfl,rfl⟩
 | str x=>exact ⟨"str",.of (.str x),rfl,rfl,rfl⟩
 | lst e=>exact ⟨"list",.of (.lst e),rfl,rfl,by unfold mS;dsimp only;rw [e];rfl⟩
 | tup e=>exact ⟨"tuple",.of (.tup e),rfl,rfl,by unfold mS;dsimp only;rw [e];rfl⟩
 | rO e=>exact ⟨"dict",.rO e,rfl,rfl,by unfold mS;dsimp only;rw [e];rfl⟩
theorem Mf(h:oI v=true):jP v=false:=by cases v <;> first | rfl | cases h
def rZ(H:Hp):V→Bool
 | .ref a=>(match H a with | some (.tup [.int x,.int y])=>decide (1≤y) && decide (Int.gcd x y=1) | _=>false)
 | _=>false
def Ce(p:Int):V→Bool
 | .int i=>decide (0≤i) && decide (i<p)
 | _=>false
def zw:V→V→Bool
 | .int x,.int y=>decide (1≤y) && decide (Int.gcd x y=1)
 | _,_=>false
theorem Gn{a:Addr}{x y:V}(e:H a=some (.tup [x,y])):rZ H (.ref a)=zw x y:=by unfold rZ;dsimp only;rw [e];cases x <;> cases y <;> rfl
theorem UM{a:Addr}{xs:List V}(e:H a=some (.tup xs))(h:xs.length≠2):rZ H (.ref a)=false:=by
 unfold rZ;dsimp only;rw [e]
 match xs,h with
 | [],_=>rfl
 | [x],_=>cases x <;> rfl
 | x::y::z::r,_=>cases x <;> (try rfl) <;> cases y <;> rfl
 | [x,y],h=>exact absurd rfl h
theorem UN(h:mS H v=false):rZ H v=false:=by
 unfold rZ;unfold mS at h;cases v with
 | ref a=>
  dsimp only at h ⊢;cases e:H a with
  | none=>rfl
  | some o=>rw [e] at h;cases o <;> first | rfl | cases h
 | _=>rfl
structure Thing (H:Hp) (v:V):Prop where
 any:Any H v
 two:∀(a:Addr) (x y:V),v=.ref a→H a=some (.tup [x,y])→Any H x∧Any H y∧∀i:Int,y=.int i→cC i
theorem UO:Thing H (.int i):=⟨.int i,fun a x y e=>by cases e⟩
theorem UP{x y:V}(e:H p=some (.tup [x,y]))(ax:Any H x)(ay:Any H y)(m:∀i:Int,y=.int i→cC i):Thing H (.ref p):=⟨.tup e,fun a x' y' z h=>by cases z;rw [e] at h;cases h;exact ⟨ax,ay,m⟩⟩
theorem kR{m:Str}(e:(m == ("prime":Str))=false):([(("prime":Str),v)]:List (Str×V)).lookup m=none:=by simp [List.lookup,e]
theorem Mg(m n:Nat):Nat.gcd n (m % n)=Nat.gcd m n:=by rw [Nat.gcd_comm n,←Nat.gcd_rec,Nat.gcd_comm]
theorem Cf(a:Int):(if a<0 then -a else a)=(a.natAbs:Int):=by split <;> lia
def lowG(a b:Int):Int:=if b<0 then 0-(Int.gcd a b:Int) else (Int.gcd a b:Int)
variable {a:Int}
theorem oJ{b:Int}(h:b≠0):0<Int.gcd a b:=qP _ (iU.mpr h)
theorem UQ{b:Int}(h:b≠0)(m:cC b):Int.gcd a b<2 ^ 2048:=dq (Nat.gcd_le_right _ (iU.mpr h)) m
theorem UR{b:Int}(h:b≠0)(m:cC b):L_ 0 (lowG a b):=by
 have h1:=oJ (a:=a) h;have h2:=UQ (a:=a) h m;unfold lowG;refine ⟨by split <;> lia,?_⟩
 unfold cC
 split
 ·rw [show (0-(Int.gcd a b:Int)).natAbs=Int.gcd a b by lia];exact h2
 ·rw [yL];exact h2
theorem cC.of_lt(h1:-(10 ^ 70)<i)(h2:i<10 ^ 70):cC i:=by
 have h3:i.natAbs<2 ^ 240:=by lia
 exact dy h3 (eO (by decide) (by decide))
def Mh:Sp:=fun vs H Q _=>∃v:V,vs=[v]∧Any H v∧Q (.bl (jP v)) H
def US:Sp:=fun vs H Q _=>∃a b:Int,vs=[.int a,.int b]∧cC b∧Q (.int (Int.gcd a b:Int)) H
def UT:Sp:=fun vs H Q _=>∃n:Int,vs=[.int n]∧2≤n∧n≤997∧Q (.bl (iq n)) H
def UU:Sp:=fun vs H Q _=>∃(p:Addr) (d:Td),vs=[.ref p]∧H p=some (.tup d.vs)∧Q (.bl d.zr) H
def UW:Sp:=fun vs H Q _=>∃(p:Addr) (d:Td),vs=[.ref p]∧H p=some (.tup d.vs)∧Q (.bl d.kJ) H
def UX(C N:Addr):Sp:=fun vs H Q E=>∃(x dx p:Addr) (d:Td),vs=[.ref x,.ref p]∧H x=some (.ins C dx [])∧H p=some (.tup d.vs) ∧
 (d.good=true→Q .aY (upd H x (.ins C dx [("prime",d.prime)])))∧(d.good=false→E (.ref N) none H)
def fK(C:Addr)(H:Hp)(x:Addr)(q:Int):Prop:=∃dx,H x=some (.ins C dx [("prime",if q=0 then .aY else .int q)])
variable {H':Hp} {q:Int}
theorem fK.mono{C:Addr}{x:Addr}(h:fK C H x q)(s:ah H H'):fK C H' x q:=by obtain ⟨dx,e⟩:=h;exact ⟨dx,s _ _ e⟩
def zx(H:Hp)(q:Int)(v:V):Bool:=if q=0 then rZ H v else Ce q v
def UY:Sp:=fun vs H Q _=>∃(q:Int) (v:V),vs=[.int q,v]∧Thing H v∧∀H',ah H H'→Q (.bl (zx H q v)) H'
def UZ:Sp:=fun vs H Q _=>∃c:Int,vs=[.int c]∧∀(p:Int) (H':Hp),ah H H'→2≤p→p≤997→iq p=true→Q (.int p) H'
def Mi(m c:Int):Int:=(m*69621+c % 998244353+1) % 1000000007
def Ci(ns:List Int)(k:Int):Int:=
 let m:=(ns.take 7).foldl Mi (1000003*(k+1))
 let m2:=m*m % 1000000007
 let m3:=(m2+7919*k*k)*48271 % 2147483647
 m3*m3 % 2147483647 / 8
def lP(ns:List Int)(k:Int):Int:=if k<ns.length then ns.getD k.toNat 0 % 10 ^ 40 else Ci ns k
theorem Cj(ns:List Int)(k:Int):0≤lP ns k:=by
 unfold lP
 split
 ·exact d4 _ (by decide)
 ·unfold Ci
  exact yM (d4 _ (by decide)) (by decide)
theorem Mj(ns:List Int)(k:Int):lP ns k<10 ^ 40:=by
 unfold lP
 split
 ·exact d8 _ (by decide)
 ·unfold Ci
  have:∀a:Int,a % 2147483647 / 8<10 ^ 40:=fun a=>by lia
  exact this _
def U0(K:aJ):Sp:=fun vs H Q _=>∃(a:Addr) (ns:List Int) (k:Int),vs=[.ref a,.int k]∧bP K H a (ns.map V.int)∧0≤k∧k≤1000000∧∀H',ah H H'→Q (.int (lP ns k)) H'
def Ck(K:aJ):Sp:=fun vs H Q _=>∃(a:Addr) (ns:List Int),vs=[.ref a]∧bP K H a (ns.map V.int)∧ns.length≤63∧∀H',Q (.bl true) H'
def jj(v:Int)(i:Nat):List Bool:=((List.range i).filter fun e:Nat=>decide ((2+(e:Int))<v)).map fun e:Nat=>!decide (v % (2+(e:Int))=0)
theorem U1{v:Int}{i:Nat}(h:2+(i:Int)<v):jj v (i+1)=jj v i++[!decide (v % (2+(i:Int))=0)]:=by unfold jj;rw [yN,Bs,Bt,Bu,ak (dj h)];rfl
theorem U2{v:Int}{i:Nat}(h:¬2+(i:Int)<v):jj v (i+1)=jj v i:=by
 unfold jj;rw [yN,Bs,Bu,ao (by simpa using h)]
 simp
theorem U3(v:Int)(i:Nat):(jj v i).length≤i:=by unfold jj;rw [bL];exact aq (yO _ _) (by simp)
theorem U4(v:Int):(jj v 30).all id=oB v:=by
 rw [uS];unfold jj;rw [List.all_map,k9];constructor
 ·intro h
  refine Uy fun e h1 h2 h3=>?_;have z:=h (e-2).toNat (qM.mpr ⟨fe.mpr (by lia),dj (by lia)⟩)
  have e1:(2:Int)+((e-2).toNat:Int)=e:=by lia
  simp only [Function.comp_apply,id,e1,Bool.not_eq_true',decide_eq_false_iff_not] at z;exact z
 ·intro h k hk
  obtain ⟨k1,k2⟩:=qM.mp hk;have k1:=fe.mp k1;have k2:=gD k2;simp only [Function.comp_apply,id,Bool.not_eq_true',decide_eq_false_iff_not];intro hm;rw [Ux (d:=2+(k:Int)) (by lia) (by lia) (by lia) hm] at h
  cases h
set_option maxRecDepth 100000 in
theorem U5:oB 997=true:=by decide +kernel
theorem U6(xs:List V)(k:Nat):ip xs none (some (k:Int))=xs.take k:=by unfold ip;rw [HT.Te,HT.zh,List.drop_zero,Nat.sub_zero];rw [List.take_eq_take_iff];lia
theorem U7{b:Int}(h:1≤b):((a.fdiv (lowG a b) == a) && (b.fdiv (lowG a b) == b))=decide (Int.gcd a b=1):=by
 have hp:=oJ (a:=a) (b:=b) (by lia)
 have e:lowG a b=(Int.gcd a b:Int):=by unfold lowG;rw [ao (by lia)]
 rw [e];by_cases g:Int.gcd a b=1
 ·rw [g]
  simp [Int.fdiv_one]
 ·rw [fq g]
  have hb:¬b.fdiv (Int.gcd a b:Int)=b:=fun z=>by
   rw [yC _ (by lia)] at z
   have z2:=Int.ediv_mul_le b (b:=(Int.gcd a b:Int)) (by lia)
   rw [z] at z2;have z3:b*2≤b*(Int.gcd a b:Int):=qQ (by lia) (by lia)
   lia
  rw [pC.mpr hb,Bool.and_false]
variable {u:Int}
theorem pV{v:Int}(hu:0<u)(h:0<u*v):0<v:=by
 by_cases z:0<v;·exact z
 ·have y:=qQ (show v≤0 by lia) (show 0≤u by lia)
  rw [bU] at y;lia
theorem pW{b:Int}(h:∀d:Nat,(d:Int)∣a→(d:Int)∣b→d=1):Int.gcd a b=1:=h _ (nX ..) (mE ..)
variable {d:Nat}
theorem pX{b:Int}(h:Int.gcd a b=1)(h1:(d:Int)∣a)(h2:(d:Int)∣b):d=1:=by have z:(d:Int)∣((Int.gcd a b:Nat):Int):=Int.dvd_coe_gcd h1 h2;rw [h] at z;exact Nat.dvd_one.mp (Int.natCast_dvd_natCast.mp z)
variable {c:Int}
theorem r6{b:Int}(h:Int.gcd b c=1)(h1:(d:Int)∣b)(h2:(d:Int)∣a*c):(d:Int)∣a:=by
 have hc:Nat.Coprime d c.natAbs:=by have z:Nat.Coprime b.natAbs c.natAbs:=h;exact Nat.Coprime.coprime_dvd_left (Int.ofNat_dvd_left.mp h1) z
 have z:d∣a.natAbs*c.natAbs:=by rw [←bz];exact Int.ofNat_dvd_left.mp h2
 exact Int.ofNat_dvd_left.mpr (hc.dvd_of_dvd_mul_right z)
theorem mT{b:Int}(h1:Int.gcd a b=1)(h2:Int.gcd a c=1):Int.gcd a (b*c)=1:=by refine pW fun d x y=>?_;exact pX h1 x (r6 (a:=b) (b:=a) (c:=c) h2 x y)
theorem jQ{b:Int}(h:Int.gcd a b=1):Int.gcd b a=1:=by rw [Int.gcd_comm];exact h
theorem vh{b:Int}(h:Int.gcd a b=1)(h1:c∣a):Int.gcd c b=1:=pW fun d x y=>pX h (i9 x h1) y
theorem vi{b:Int}(h:b≠0):Int.gcd (a / (Int.gcd a b:Int)) (b / (Int.gcd a b:Int))=1:=by have z:0<Int.gcd a b:=qP _ (iU.mpr h);exact Int.gcd_ediv_gcd_ediv_gcd z
structure de (x m:Int):Prop where
 pos:1≤m
 lQ:Int.gcd x m=1
variable {x m y n:Int}
theorem U8(a:de x m)(b:de y n) :
  de ((x / (Int.gcd x n:Int))*(y / (Int.gcd y m:Int))) ((m / (Int.gcd y m:Int))*(n / (Int.gcd x n:Int))) ∧
   (x / (Int.gcd x n:Int))*(y / (Int.gcd y m:Int))*(m*n)=x*y*((m / (Int.gcd y m:Int))*(n / (Int.gcd x n:Int))):=by
 have m0:=a.pos;have n0:=b.pos;have p1:0<Int.gcd x n:=qP _ (iU.mpr (by lia))
 have p2:0<Int.gcd y m:=qP _ (iU.mpr (by lia))
 have c1:=vi (a:=x) (b:=n) (by lia)
 have c2:=vi (a:=y) (b:=m) (by lia)
 obtain ⟨x',ex⟩:=nX (a:=x) (b:=n);obtain ⟨n',en⟩:=mE (a:=x) (b:=n);obtain ⟨y',ey⟩:=nX (a:=y) (b:=m);obtain ⟨m',em⟩:=mE (a:=y) (b:=m);have ac:=a.lQ;have bc:=b.lQ;generalize Int.gcd x n=g at *;generalize Int.gcd y m=k at *;have g0:(g:Int)≠0:=by lia
 have k0:(k:Int)≠0:=by lia
 have gx:x / (g:Int)=x':=by rw [ex];exact iC _ g0
 have gn:n / (g:Int)=n':=by rw [en];exact iC _ g0
 have gy:y / (k:Int)=y':=by rw [ey];exact iC _ k0
 have gm:m / (k:Int)=m':=by rw [em];exact iC _ k0
 rw [gx,gn] at c1;rw [gy,gm] at c2;rw [gx,gn,gy,gm];have mp:0<m':=by
  have z:0<(k:Int)*m':=by rw [←em];lia
  exact pV (by lia) z
 have np:0<n':=by
  have z:0<(g:Int)*n':=by rw [←en];lia
  exact pV (by lia) z
 have xm:Int.gcd x' m'=1:=vh (jQ (vh (jQ ac) ⟨k,by rw [em,d5]⟩)) ⟨g,by rw [ex,d5]⟩
 have yn:Int.gcd y' n'=1:=vh (jQ (vh (jQ bc) ⟨g,by rw [en,d5]⟩)) ⟨k,by rw [ey,d5]⟩
 refine ⟨⟨d6 mp np,?_⟩,?_⟩;·exact mT (jQ (mT (jQ xm) (jQ c2))) (jQ (mT (jQ c1) (jQ yn)))
 ·rw [ex,en,ey,em]
  simp only [h_,d5,yP]
theorem U9(a:de x m)(b:de y n)(h:Int.gcd m n=1):de (x*n+y*m) (m*n):=by
 have m0:=a.pos;have n0:=b.pos;refine ⟨d6 (by lia) (by lia),mT (pW fun d h1 h2=>?_) (pW fun d h1 h2=>?_)⟩
 ·have z:(d:Int)∣x*n:=(Int.dvd_add_left (i9 h2 (pF ..))).mp h1
  exact pX a.lQ (r6 h h2 z) h2
 ·have z:(d:Int)∣y*m:=(Int.dvd_add_right (i9 h2 (pF ..))).mp h1
  exact pX b.lQ (r6 (jQ h) h2 z) h2
theorem U_(a:de x m)(b:de y n)(g k:Nat)(eg:g=Int.gcd m n)(top:Int)(et:top=x*(n / (g:Int))+y*(m / (g:Int)))(ek:k=Int.gcd top (g:Int)) :
  de (top / (k:Int)) (m / (g:Int)*(n / (k:Int)))∧top / (k:Int)*(m*n)=(x*n+y*m)*(m / (g:Int)*(n / (k:Int))):=by
 have m0:=a.pos
 have n0:=b.pos
 have gp:0<g:=by rw [eg];exact qP _ (iU.mpr (by lia))
 have kp:0<k:=by rw [ek];exact qP _ (iU.mpr (by lia))
 have c1:=vi (a:=m) (b:=n) (by lia)
 have c2:=vi (a:=top) (b:=(g:Int)) (by lia)
 rw [←eg] at c1
 rw [←ek] at c2
 obtain ⟨m',em⟩:=nX (a:=m) (b:=n)
 obtain ⟨n',en⟩:=mE (a:=m) (b:=n)
 obtain ⟨t',e1⟩:=nX (a:=top) (b:=(g:Int))
 obtain ⟨g',e2⟩:=mE (a:=top) (b:=(g:Int))
 rw [←eg] at em en
 rw [←ek] at e1 e2
 have g0:(g:Int)≠0:=by lia
 have k0:(k:Int)≠0:=by lia
 have dm:m / (g:Int)=m':=by rw [em];exact iC _ g0
 have dn:n / (g:Int)=n':=by rw [en];exact iC _ g0
 have dt:top / (k:Int)=t':=by rw [e1];exact iC _ k0
 have dg:(g:Int) / (k:Int)=g':=by rw [e2];exact iC _ k0
 have dk:n / (k:Int)=g'*n':=by rw [en,e2,h_];exact iC _ k0
 rw [dm,dn] at c1 et
 rw [dt,dg] at c2
 rw [dt,dm,dk]
 have pos:∀{u v:Int},0<u→0<u*v→0<v:=fun hu hz=>pV hu hz
 have mp:0<m':=pos (u:=(g:Int)) (by lia) (by rw [←em];lia)
 have np:0<n':=pos (u:=(g:Int)) (by lia) (by rw [←en];lia)
 have Va:0<g':=pos (u:=(k:Int)) (by lia) (by rw [←e2];lia)
 have tm:Int.gcd top m'=1:=pW fun d h1 h2=>by
  rw [et] at h1
  have z:(d:Int)∣x*n':=(Int.dvd_add_left (i9 h2 (pF ..))).mp h1
  exact pX a.lQ (r6 c1 h2 z) (i9 h2 ⟨g,by rw [em,d5]⟩)
 have tn:Int.gcd top n'=1:=pW fun d h1 h2=>by
  rw [et] at h1
  have z:(d:Int)∣y*m':=(Int.dvd_add_right (i9 h2 (pF ..))).mp h1
  exact pX b.lQ (r6 (jQ c1) h2 z) (i9 h2 ⟨g,by rw [en,d5]⟩)
 have tt:t'∣top:=⟨k,by rw [e1,d5]⟩
 refine ⟨⟨d6 mp (d6 Va np),mT (vh tm tt) (mT c2 (vh tn tt))⟩,?_⟩
 have q:(k:Int)*t'=x*n'+y*m':=by rw [←e1,et]
 have l:t'*(m*n)=(k:Int)*t'*(m'*(g'*n')*(g:Int)):=by
  rw [em,en]
  conv=>lhs;rw [show (g:Int)*n'=(k:Int)*g'*n' by rw [←e2]]
  simp only [h_,d5,yP]
 rw [l,q,em,en]
 simp only [Int.add_mul,h_,d5,yP]
def cG(x:Int):Prop:=x.natAbs≤10 ^ 300
theorem Vb:(10:Nat) ^ 300<2 ^ 2048:=by decide +kernel
theorem cG.mid(h:cG x):cC x:=dq h Vb
theorem cG.over{g:Int}(h:cG x):cG (x / g):=aq (nY x g) h
theorem cG.neg(h:cG x):cG (-x):=by unfold cG;rw [qR];exact h
theorem cG.gcd(h:cG y)(z:y≠0):cG (Int.gcd x y:Int):=by unfold cG;rw [yL];exact aq (Nat.gcd_le_right _ (iU.mpr z)) h
theorem Cm(z:y≠0):(0:Int)<(Int.gcd x y:Int):=by have:=oJ (a:=x) z;lia
def Vc:Sp:=fun vs H Q _=>∃(p q:Addr) (x m y n:Int),vs=[.ref p,.ref q]∧H p=some (.tup [.int x,.int m])∧H q=some (.tup [.int y,.int n])∧de x m∧de y n∧cG x∧cG m∧cG y∧cG n ∧
 ∀(r:Addr) (H':Hp) (u d:Int),ah H H'→H' r=some (.tup [.int u,.int d])→de u d→u*(m*n)=(x*n+y*m)*d→Q (.ref r) H'
def Vd:Sp:=fun vs H Q _=>∃(p q:Addr) (x m y n:Int),vs=[.ref p,.ref q]∧H p=some (.tup [.int x,.int m])∧H q=some (.tup [.int y,.int n])∧de x m∧de y n∧cG x∧cG m∧cG y∧cG n ∧
 ∀(r:Addr) (H':Hp) (u d:Int),ah H H'→H' r=some (.tup [.int u,.int d])→de u d→u*(m*n)=(x*n-y*m)*d→Q (.ref r) H'
def Ve:Sp:=fun vs H Q _=>∃(p q:Addr) (x m y n:Int),vs=[.ref p,.ref q]∧H p=some (.tup [.int x,.int m])∧H q=some (.tup [.int y,.int n])∧de x m∧de y n∧cG x∧cG m∧cG y∧cG n ∧
 ∀(r:Addr) (H':Hp) (u d:Int),ah H H'→H' r=some (.tup [.int u,.int d])→de u d→u*(m*n)=x*y*d→Q (.ref r) H'
theorem de.neg(h:de x m):de (-x) m:=⟨h.pos,by rw [Int.neg_gcd];exact h.lQ⟩
def zy(C:Addr)(fr:Int→Int→Int→Int→Int)(rm:Int→Int→Int):Sp:=fun vs H Q _=>∃(z:Addr) (q:Int) (v u:V),vs=[.ref z,v,u]∧fK C H z q ∧
  ((q=0∧∃(p r:Addr) (x m y n:Int),v=.ref p∧u=.ref r∧H p=some (.tup [.int x,.int m])∧H r=some (.tup [.int y,.int n])∧de x m∧de y n∧cG x∧cG m∧cG y∧cG n ∧
    ∀(r':Addr) (H':Hp) (a d:Int),ah H H'→H' r'=some (.tup [.int a,.int d])→de a d→a*(m*n)=fr x m y n*d→Q (.ref r') H') ∨
   (2≤q∧∃i j:Int,v=.int i∧u=.int j∧0≤i∧i<1000∧Q (.int (rm i j % q)) H))
def aB(p:Int):Prop:=p=0∨(2≤p∧p≤997∧iq p=true)
def Vf:Sp:=fun vs H Q _=>∃c:Int,vs=[.int c]∧∀(p:Int) (H':Hp),ah H H'→aB p→Q (.int p) H'
def Vg(C:Addr):Sp:=fun vs H Q _=>∃p:Int,vs=[.int p]∧aB p∧∀(z:Addr) (H':Hp),ah H H'→fK C H' z p→Q (.ref z) H'
inductive bZ (B:Nat) (H:Hp):Int→V→Int→Int→Prop where
 | bH {p:Addr} {x m:Int} (e:H p=some (.tup [.int x,.int m])) (l:de x m) (bx:x.natAbs≤B) (bm:m.natAbs≤B):bZ B H 0 (.ref p) x m
 | rem {q i:Int} (h0:0≤i) (h1:i<q) (h2:q≤997):bZ B H q (.int i) i 1
theorem bZ.mono{B:Nat}(h:bZ B H q v x m)(s:ah H H'):bZ B H' q v x m:=by
 cases h with
 | bH e l bx bm=>exact .bH (s _ _ e) l bx bm
 | rem h0 h1 h2=>exact .rem h0 h1 h2
theorem Ml{b:Int}(h:1≤b):∃u d:Int,a.fdiv (lowG a b)=u∧b.fdiv (lowG a b)=d∧de u d∧u.natAbs≤a.natAbs∧d.natAbs≤b.natAbs:=by
 have hp:=oJ (a:=a) (b:=b) (by lia)
 have e:lowG a b=(Int.gcd a b:Int):=by unfold lowG;rw [ao (by lia)]
 rw [e]
 refine ⟨a / (Int.gcd a b:Int),b / (Int.gcd a b:Int),yC _ (by lia),yC _ (by lia),⟨?_,vi (by lia)⟩,nY ..,nY ..⟩
 obtain ⟨b',eb⟩:=mE (a:=a) (b:=b)
 have z:b / (Int.gcd a b:Int)=b':=by
                       conv=>lhs;lhs;rw [eb]
                       exact iC _ (by lia)
 rw [z]
 exact pV (u:=(Int.gcd a b:Int)) (by lia) (by rw [←eb];lia)
theorem Cn{d T B:Int}(l:de u d)(hB:0<B)(e:u*B=T*d):d≤B∧u.natAbs≤T.natAbs:=by
 have h0:=l.pos;have hd:d∣B:=by
  have z:((d.natAbs:Nat):Int)∣B:=r6 (a:=B) (b:=d) (c:=u) (jQ l.lQ) (Int.natAbs_dvd.mpr (pG d)) ⟨T*(d / (d.natAbs:Int)),by
   have q:(d.natAbs:Int)=d:=by lia
   rw [q,Int.ediv_self (by lia),iB,d5 B u,e,d5]⟩
  exact Int.natAbs_dvd.mp z
 have hle:=uX hB hd;refine ⟨hle,?_⟩;have z:u.natAbs*B.natAbs=T.natAbs*d.natAbs:=by rw [←bz,e,bz]
 have z2:T.natAbs*d.natAbs≤T.natAbs*B.natAbs:=gW _ (by lia)
 rw [←z] at z2;exact Nat.le_of_mul_le_mul_right z2 (by lia)
theorem Mm{b:Int}(h1:2≤q)(h2:q≤997)(hp:iq q=true)(b1:1≤b)(b2:b<q):Int.gcd q b=1:=by
 have gp:0<Int.gcd q b:=qP _ (iU.mpr (by lia))
 by_cases g1:Int.gcd q b=1;·exact g1
 exfalso
 obtain ⟨k,ek⟩:=nX (a:=q) (b:=b);have hb:=uX (by lia) (mE (a:=q) (b:=b))
 generalize Int.gcd q b=g at *;have kp:0<k:=pV (u:=(g:Int)) (by lia) (by rw [←ek];lia)
 have k2:k≠1:=fun z=>by rw [z,iB] at ek;lia
 have no:∀d:Int,2≤d→d*d≤q→q % d=0→False:=fun d x y z=>by rw [L8 h2 x y z] at hp;cases hp
 by_cases c:(g:Int)≤k;·exact no g (by lia) (by rw [ek];exact qQ c (by lia)) (by rw [ek];exact Int.mul_emod_right ..)
 ·exact no k (by lia) (by rw [ek];exact Int.mul_le_mul_of_nonneg_right (by lia) (by lia)) (by rw [ek];exact Int.mul_emod_left ..)
structure oK (q b last lt now nt:Int):Prop where
 l:∃s,last=lt*b+s*q
 n:∃s,now=nt*b+s*q
 lQ:Int.gcd last now=1
 pos:1≤now
 less:now≤last
variable {nt:Int}
theorem oK.step{b last lt now:Int}(h:oK q b last lt now nt)(h1:1<now):oK q b now nt (last-last / now*now) (lt-last / now*nt)∧last-last / now*now<now:=by
 obtain ⟨⟨s,es⟩,⟨r,er⟩,c,p,le⟩:=h;have e:last-last / now*now=last % now:=by have z:=Fo last now;rw [d5] at z;lia
 have lt1:=d8 last (show 0<now by lia)
 have ge:=d4 last (show now≠0 by lia)
 have c':Int.gcd now (last % now)=1:=pW fun d x y=>pX c (by have z:=Fo last now;rw [←z];exact Int.dvd_add y (i9 x (Int.dvd_mul_right ..))) x
 have nz:last % now≠0:=fun z=>by rw [z,Int.gcd_zero_right] at c';lia
 refine ⟨⟨⟨r,er⟩,⟨s-last / now*r,?_⟩,by rw [e];exact c',by lia,by lia⟩,by lia⟩
 generalize last / now=f;rw [es,er,Int.sub_mul,Int.sub_mul,Int.mul_add,h_,h_];lia
theorem oK.done{b last lt:Int}(h:oK q b last lt 1 nt)(hq:2≤q):(nt % q*b) % q=1:=by
 obtain ⟨s,e⟩:=h.n;have z:nt*b=1+(-s)*q:=by rw [Int.neg_mul];lia
 have y:nt % q*b % q=nt*b % q:=by rw [yQ (nt % q) b,Int.emod_emod,←yQ]
 rw [y,z,Int.add_mul_emod_self_right];exact qS (by lia) (by lia)
theorem oK.start{b:Int}(h1:2≤q)(h2:q≤997)(hp:iq q=true)(b1:1≤b)(b2:b<q):oK q b q 0 b 1:=
 ⟨⟨1,by lia⟩,⟨0,by lia⟩,Mm h1 h2 hp b1 b2,b1,by lia⟩
end My
namespace L2
open PySem PySem.Spec PyProof.Rows
end L2
namespace My
open PySem L2
def Vh(N:Addr):Sp:=fun vs H Q E=>∃q b:Int,vs=[.int q,.int b]∧2≤q∧q≤997∧iq q=true∧0≤b∧b<q∧(b=0→E (.ref N) none H)∧(b≠0→∀r:Int,0≤r→r<q→(r*b) % q=1→Q (.int r) H)
def Vi(N:Addr):Sp:=fun vs H Q E=>∃q i j:Int,vs=[.int q,.int i,.int j]∧2≤q∧q≤997∧iq q=true∧0≤i∧i<q∧0≤j∧j<q∧(j=0→E (.ref N) none H)∧(j≠0→∀r:Int,0≤r→r<q→(r*j) % q=i→Q (.int r) H)
theorem Vj{q i j r:Int}(hq:2≤q)(i0:0≤i)(i1:i<q)(h:(r*j) % q=1):(i*r % q*j) % q=i:=by
 have y:i*r % q*j % q=i*(r*j) % q:=by rw [yQ (i*r % q) j,Int.emod_emod,←yQ,h_]
 rw [y,yQ,h,qS i0 i1,iB,qS i0 i1]
end My
namespace L2
open PySem PySem.Spec PyProof.Rows
structure jR (K:aJ) (x qual:Str) (st:Stmt) (i:Int) (f:Addr) (fd:FuncData):Prop where
 ex:∃(oc:Value) (od:Option Addr) (kV doc pm:Value) (an:Option Addr) (br ct:Value) (gH:Array (Option Value)) (dT:Addr) (tk:Tok) (pY:Value) (pZ:Option Addr) (n:Nat) (p3:Array (Option Value)),
  fd=PySem.W.fnOf x qual (jK st) (g8 st) (aU st) (.ref dT) kV doc pm an br ct∧K.lookup f=some ⟨oc,od,.func fd,gH⟩∧PySem.W.codeIn K br qual=true∧K.lookup dT=some ⟨pY,pZ,.seq #[.int i tk] n,p3⟩
 kp:PySem.W.keepIn K (.ref f)=true
section
variable {P:Program} {w:World} {K:aJ} {mg:dU} {base:Heap}
variable {x qual:Str} {st:Stmt} {i:Int} {f:Addr} {fd:FuncData} {ps:List Str}
theorem jR.Gf{N:List Str}{k:Nat}{sp:Sp}(F:jR K x qual st i f fd)(S:bF N ps (aU st))(len:∀vs H Q E,sp vs H Q E→vs.length=ps.length)
  (lI:∀(br:Value) (A:Around) (outer:List Env) (s:Shared) (H:Hp) (vs:List V) (Q:VK) (E:XK),dQ k (A.deeper (envOfC qual (aU st) s.heap.objs.size f br))→sp vs H Q E→
   ve (jI (e8 P w) P w K mg base N qual (aU st) f br A outer s H E) E→
   ∃t,gk (jI (e8 P w) P w K mg base N qual (aU st) f br A outer s H E) (g8 st) t∧t {nx:=fun _ H'=>Q .aY H',rt:=Q} (start N vs) H):a7 P w K mg base (e8 P w) (k+1) f fd ps sp:=by
 obtain ⟨oc,od,kV,doc,pm,an,br,ct,gH,dT,tk,pY,pZ,n,p3,rfl,lk,gF,ld⟩:=F.ex;exact FW lk gF S len fun A outer s H vs Q E hr kI=>lI br A outer s H vs Q E hr kI ⟨rfl,rfl,rfl,rfl⟩
theorem Co{dT:Addr}{oc:Value}{od an:Option Addr}{gH:Array (Option Value)}{kV doc pm br ct:Value}{tk:Tok}{pY:Value}{pZ:Option Addr}{n:Nat}{p3:Array (Option Value)}
  (l:K.lookup f=some ⟨oc,od,.func (PySem.W.fnOf x qual (jK st) (g8 st) (aU st) (.ref dT) kV doc pm an br ct),gH⟩)
  (c:PySem.W.codeIn K br qual=true) (k:PySem.W.keepIn K (.ref f)=true) (ld:K.lookup dT=some ⟨pY,pZ,.seq #[.int i tk] n,p3⟩):jR K x qual st i f (PySem.W.fnOf x qual (jK st) (g8 st) (aU st) (.ref dT) kV doc pm an br ct):=
 ⟨⟨oc,od,kV,doc,pm,an,br,ct,gH,dT,tk,pY,pZ,n,p3,rfl,l,c,ld⟩,k⟩
theorem jR.binds(F:jR K x qual st i f fd)
  (h:∀(s:Shared) (dT:Addr) (kV doc pm:Value) (an:Option Addr) (br ct:Value) (tk:Tok) (o:Obj) (n:Nat) (us:List Value),s.heap.get? dT=some o→o.data=.seq #[.int i tk] n→us.length=ps.length→
   BindsTo s (PySem.W.fnOf x qual (jK st) (g8 st) (aU st) (.ref dT) kV doc pm an br ct) ⟨us,[]⟩ (ps.zip us)):Binds K fd ps []:=by
 obtain ⟨oc,od,kV,doc,pm,an,br,ct,gH,dT,tk,pY,pZ,n,p3,rfl,lk,gF,ld⟩:=F.ex;intro s us X hl;rw [List.append_nil] at hl ⊢;exact h s dT kV doc pm an br ct tk _ n us (X _ _ ld) rfl hl
theorem jR.Vk(F:jR K x qual st i f fd)
  (h:∀(s:Shared) (dT:Addr) (kV doc pm:Value) (an:Option Addr) (br ct:Value) (tk:Tok) (o:Obj) (n:Nat) (us:List Value),s.heap.get? dT=some o→o.data=.seq #[.int i tk] n→us.length+1=ps.length→
   BindsTo s (PySem.W.fnOf x qual (jK st) (g8 st) (aU st) (.ref dT) kV doc pm an br ct) ⟨us,[]⟩ (ps.zip (us++[.int i tk]))):∃v,Vals [V.int i] [v]∧Binds K fd ps [v]:=by
 obtain ⟨oc,od,kV,doc,pm,an,br,ct,gH,dT,tk,pY,pZ,n,p3,rfl,lk,gF,ld⟩:=F.ex;refine ⟨.int i tk,.cons ⟨tk,rfl⟩ .nil,fun s us X hl=>?_⟩;exact h s dT kV doc pm an br ct tk _ n us (X _ _ ld) rfl (by simpa using hl)
theorem jR.Vl{y:Str}(F:jR K x qual st i f fd)
  (h:∀(s:Shared) (dT:Addr) (kV doc pm:Value) (an:Option Addr) (br ct:Value) (tk:Tok) (o:Obj) (n:Nat) (us ws:List Value),s.heap.get? dT=some o→o.data=.seq #[.int i tk] n→ws.length=1→us.length+1=ps.length→
   BindsTo s (PySem.W.fnOf x qual (jK st) (g8 st) (aU st) (.ref dT) kV doc pm an br ct) ⟨us,[y].zip ws⟩ (ps.zip (us++ws))) :
  ∀(s:Shared) (us ws:List Value),K.In s.heap→ws.length=1→us.length+1=ps.length→BindsTo s fd ⟨us,[y].zip ws⟩ (ps.zip (us++ws)):=by
 obtain ⟨oc,od,kV,doc,pm,an,br,ct,gH,dT,tk,pY,pZ,n,p3,rfl,lk,gF,ld⟩:=F.ex;intro s us ws X hw hl;exact h s dT kV doc pm an br ct tk _ n us ws (X _ _ ld) rfl hw hl
end
section
variable {X:Cx} {CX:jd} {k:Nat} {f C:Addr} {fd:FuncData} {ps:List Str} {y:Str} {sp:Sp} {E:XK} {m:Str} {pos apos S_:Pos} {e e' o:Expr} {ta:TE} {t tk:TA}
end
end L2
namespace My
open PySem L2
def jS(a b:Int):Int:=a.fdiv (lowG a b)
def jT(a b:Int):Int:=b.fdiv (lowG a b)
variable {a:Int}
theorem Cp{b:Int}(hb:b≠0):de (jS a b) (jT a b)∧jS a b*b=a*jT a b∧(jS a b).natAbs≤a.natAbs∧(jT a b).natAbs≤b.natAbs:=by
 have gp:=oJ (a:=a) hb;have c:=vi (a:=a) hb;obtain ⟨a',ea⟩:=nX (a:=a) (b:=b);obtain ⟨b',eb⟩:=mE (a:=a) (b:=b);unfold jS jT lowG;generalize Int.gcd a b=g at *;have g0:(g:Int)≠0:=by lia
 have ga:a / (g:Int)=a':=by rw [ea];exact iC _ g0
 have gb:b / (g:Int)=b':=by rw [eb];exact iC _ g0
 rw [ga,gb] at c;have la:a'.natAbs≤a.natAbs:=by rw [←ga];exact nY ..
 have lb:b'.natAbs≤b.natAbs:=by rw [←gb];exact nY ..
 have cr:a'*b=a*b':=by rw [ea,eb];simp only [h_,d5,yP]
 by_cases h:b<0
 ·have d1:(0-(g:Int))∣a:=⟨-a',by rw [ea,Int.zero_sub,Int.neg_mul_neg]⟩
  have d2:(0-(g:Int))∣b:=⟨-b',by rw [eb,Int.zero_sub,Int.neg_mul_neg]⟩
  rw [ak h,Bv d1,Bv d2,Int.zero_sub,Int.ediv_neg,Int.ediv_neg,ga,gb];refine ⟨⟨?_,by rw [Int.neg_gcd,Int.gcd_neg];exact c⟩,?_,?_,?_⟩
  ·have z:0 < -b':=pV (u:=(g:Int)) (by lia) (by rw [jy,←eb];lia)
   lia
  ·rw [Int.neg_mul,jy,cr]
  ·rw [qR];exact la
  ·rw [qR];exact lb
 ·rw [ao h,Bv ⟨a',ea⟩,Bv ⟨b',eb⟩,ga,gb]
  have z:0<b':=pV (u:=(g:Int)) (by lia) (by rw [←eb];lia)
  exact ⟨⟨by lia,c⟩,cr,la,lb⟩
theorem Mn(a:Int):jS a 1=a∧jT a 1=1:=by
 unfold jS jT lowG;rw [pH,ao (by decide)]
 exact ⟨Int.fdiv_one a,Int.fdiv_one 1⟩
def Vm(N:Addr):Sp:=fun vs H Q E=>∃a b:Int,vs=[.int a,.int b]∧cC b∧(b=0→E (.ref N) none H)∧(b≠0→∀(r:Addr) (H':Hp),ah H H'→H' r=some (.tup [.int (jS a b),.int (jT a b)])→Q (.ref r) H')
def mU(q b:Int):Prop:=if q=0 then b=0 else b % q=0
def vj(H:Hp)(q:Int)(v:V)(a b:Int):Prop:=
 (q=0∧∃r:Addr,v=.ref r∧H r=some (.tup [.int (jS a b),.int (jT a b)]))∨(2≤q∧∃r:Int,v=.int r∧0≤r∧r<q∧(r*(b % q)) % q=a % q)
theorem vj.mono{H H':Hp}{q:Int}{v:V}{b:Int}(h:vj H q v a b)(s:ah H H'):vj H' q v a b:=by
 rcases h with ⟨h,r,e,h2⟩ | h;·exact .inl ⟨h,r,e,s _ _ h2⟩
 ·exact .inr h
def Vn(C N:Addr):Sp:=fun vs H Q E=>∃(z:Addr) (q a b:Int),vs=[.ref z,.int a,.int b]∧fK C H z q∧aB q∧cC b ∧
 (mU q b→E (.ref N) none H)∧(¬mU q b→∀(v:V) (H':Hp),ah H H'→vj H' q v a b→Q v H')
end My
namespace L2
open PySem PySem.Spec PyProof.Rows
section
variable {X:Cx}
end
end L2
namespace My
open PySem L2
inductive cJ (H:Hp):Int→V→Int→Int→Prop where
 | bH {p:Addr} {u d t b:Int} (e:H p=some (.tup [.int u,.int d])) (l:de u d) (hb:b≠0) (h:u*b=t*d):cJ H 0 (.ref p) t b
 | rem {q r t b:Int} (q2:2≤q) (h0:0≤r) (h1:r<q) (g:Int.gcd q b=1) (h:q∣r*b-t):cJ H q (.int r) t b
variable {H H':Hp} {q t:Int} {v:V}
theorem cJ.mono{b:Int}(h:cJ H q v t b)(s:ah H H'):cJ H' q v t b:=by
 cases h with
 | bH e l hb h=>exact .bH (s _ _ e) l hb h
 | rem q2 h0 h1 g h=>exact .rem q2 h0 h1 g h
variable {B:Nat} {x m:Int}
theorem bZ.jU(h:bZ B H q v x m)(hq:aB q):cJ H q v x m:=by
 cases h with
 | bH e l bx bm=>exact .bH e l (by have:=l.pos;lia) rfl
 | rem h0 h1 h2=>
  have q2:2≤q:=(hq.resolve_left (by lia)).1
  exact .rem q2 h0 h1 (by rw [pH]) ⟨0,by lia⟩
theorem p4{u d b:Int}(l:de u d)(hb:b≠0)(e:u*b=t*d):u.natAbs≤t.natAbs∧d.natAbs≤b.natAbs:=by
 have h3:=l.pos;by_cases c:0<b
 ·obtain ⟨z1,z2⟩:=Cn l c e
  lia
 ·have e':u*(-b)=(-t)*d:=by rw [jy,e,Int.neg_mul]
  obtain ⟨z1,z2⟩:=Cn l (show 0 < -b by lia) e'
  lia
variable {a c:Int}
theorem vk{b:Int}(h:c≠0)(e:a*c=b*c):a=b:=Int.eq_of_mul_eq_mul_right h e
theorem Vo(h:Int.gcd q c=1)(d:q∣c-t):Int.gcd q t=1:=by
 refine pW fun e h1 h2=>pX h h1 ?_;have z:=Int.dvd_add (i9 h1 d) h2;rw [show c-t+t=c by lia] at z
 exact z
theorem Gp(q2:2≤q)(g:Int.gcd q c=1)(d:q∣a*c):q∣a:=by
 have qq:((q.natAbs:Nat):Int)=q:=by lia
 have z:=r6 (a:=a) (b:=q) (c:=c) (d:=q.natAbs) g (by rw [qq];exact pG q) (by rw [qq];exact d)
 rw [qq] at z;exact z
theorem vm(a q:Int):∃w,a % q+q*w=a:=⟨a / q,Fo a q⟩
section
variable {C N z:Addr} {q:Int} {v u:V} {t b t' b':Int} {H:Hp} {Q:VK} {E:XK}
theorem ahQ(hw:fK C H z q)(hq:aB q)(hv:cJ H q v t b)(hu:cJ H q u t' b')(b1:cG t)(b2:cG b)(b3:cG t')(b4:cG b')
  (k:∀(v':V) (H':Hp),ah H H'→cJ H' q v' (t*b'+t'*b) (b*b')→Q v' H'):zy C (fun x m y n=>x*n+y*m) (fun i j=>i+j) [.ref z,v,u] H Q E:=by
 refine ⟨z,q,v,u,rfl,hw,?_⟩;cases hv with
 | bH e l hb h=>
  cases hu with
  | bH e' l' dW h'=>
   rename_i p x m p' y n
   obtain ⟨c1,c2⟩:=p4 l hb h;obtain ⟨c3,c4⟩:=p4 l' dW h';refine .inl ⟨rfl,_,_,x,m,y,n,rfl,rfl,e,e',l,l',aq c1 b1,aq c2 b2,aq c3 b3,aq c4 b4,fun r' H' a d s' er la ea=>k _ H' s' (.bH er la (pI hb dW) ?_)⟩;have m0:=l.pos;have n0:=l'.pos;refine vk (c:=m*n) (pI (by lia) (by lia)) ?_
   grind
  | rem q2 h0 h1 g h=>lia
 | rem q2 h0 h1 g h=>
  cases hu with
  | bH e' l' dW h'=>lia
  | rem Gq Gr mV g' h'=>
   rename_i i j
   have q3:q≤997:=(hq.resolve_left (by lia)).2.1
   refine .inr ⟨q2,i,j,rfl,rfl,h0,by lia,k _ H (ah.refl H) (.rem q2 (d4 _ (by lia)) (d8 _ (by lia)) (mT g g') ?_)⟩
   obtain ⟨k1,e1⟩:=h;obtain ⟨k2,e2⟩:=h';obtain ⟨w,ew⟩:=vm (i+j) q;exact ⟨k1*b'+k2*b-w*(b*b'),by grind⟩
theorem Vp(hw:fK C H z q)(hq:aB q)(hv:cJ H q v t b)(hu:cJ H q u t' b')(b1:cG t)(b2:cG b)(b3:cG t')(b4:cG b')
  (k:∀(v':V) (H':Hp),ah H H'→cJ H' q v' (t*b'-t'*b) (b*b')→Q v' H'):zy C (fun x m y n=>x*n-y*m) (fun i j=>i-j) [.ref z,v,u] H Q E:=by
 refine ⟨z,q,v,u,rfl,hw,?_⟩;cases hv with
 | bH e l hb h=>
  cases hu with
  | bH e' l' dW h'=>
   rename_i p x m p' y n
   obtain ⟨c1,c2⟩:=p4 l hb h;obtain ⟨c3,c4⟩:=p4 l' dW h';refine .inl ⟨rfl,_,_,x,m,y,n,rfl,rfl,e,e',l,l',aq c1 b1,aq c2 b2,aq c3 b3,aq c4 b4,fun r' H' a d s' er la ea=>k _ H' s' (.bH er la (pI hb dW) ?_)⟩;have m0:=l.pos;have n0:=l'.pos;refine vk (c:=m*n) (pI (by lia) (by lia)) ?_
   grind
  | rem q2 h0 h1 g h=>lia
 | rem q2 h0 h1 g h=>
  cases hu with
  | bH e' l' dW h'=>lia
  | rem Gq Gr mV g' h'=>
   rename_i i j
   have q3:q≤997:=(hq.resolve_left (by lia)).2.1
   refine .inr ⟨q2,i,j,rfl,rfl,h0,by lia,k _ H (ah.refl H) (.rem q2 (d4 _ (by lia)) (d8 _ (by lia)) (mT g g') ?_)⟩
   obtain ⟨k1,e1⟩:=h;obtain ⟨k2,e2⟩:=h';obtain ⟨w,ew⟩:=vm (i-j) q;exact ⟨k1*b'-k2*b-w*(b*b'),by grind⟩
theorem Vq(hw:fK C H z q)(hq:aB q)(hv:cJ H q v t b)(hu:cJ H q u t' b')(b1:cG t)(b2:cG b)(b3:cG t')(b4:cG b')
  (k:∀(v':V) (H':Hp),ah H H'→cJ H' q v' (t*t') (b*b')→Q v' H'):zy C (fun x m y n=>x*y) (fun i j=>i*j) [.ref z,v,u] H Q E:=by
 refine ⟨z,q,v,u,rfl,hw,?_⟩;cases hv with
 | bH e l hb h=>
  cases hu with
  | bH e' l' dW h'=>
   rename_i p x m p' y n
   obtain ⟨c1,c2⟩:=p4 l hb h;obtain ⟨c3,c4⟩:=p4 l' dW h';refine .inl ⟨rfl,_,_,x,m,y,n,rfl,rfl,e,e',l,l',aq c1 b1,aq c2 b2,aq c3 b3,aq c4 b4,fun r' H' a d s' er la ea=>k _ H' s' (.bH er la (pI hb dW) ?_)⟩;have m0:=l.pos;have n0:=l'.pos;refine vk (c:=m*n) (pI (by lia) (by lia)) ?_
   grind
  | rem q2 h0 h1 g h=>lia
 | rem q2 h0 h1 g h=>
  cases hu with
  | bH e' l' dW h'=>lia
  | rem Gq Gr mV g' h'=>
   rename_i i j
   have q3:q≤997:=(hq.resolve_left (by lia)).2.1
   refine .inr ⟨q2,i,j,rfl,rfl,h0,by lia,k _ H (ah.refl H) (.rem q2 (d4 _ (by lia)) (d8 _ (by lia)) (mT g g') ?_)⟩
   obtain ⟨k1,e1⟩:=h;obtain ⟨k2,e2⟩:=h';obtain ⟨w,ew⟩:=vm (i*j) q;exact ⟨k1*j*b'+t*k2-w*(b*b'),by grind⟩
theorem Vr{b:Int}(nz:¬q∣b):¬mU q b:=fun h=>nz (by
  unfold mU at h;by_cases z:q=0;·rw [ak z] at h;rw [h];exact Int.dvd_zero q
  ·rw [ao z] at h;exact Int.dvd_of_emod_eq_zero h)
theorem Vs(h:cJ H q v t b):zx H q v=true:=by
 unfold zx;cases h with
 | bH e l hb h=>
  rw [ak rfl,Gn e]
  rename_i u d
  show (decide (1≤d) && decide (Int.gcd u d=1))=true;rw [dj l.pos,dj l.lQ];rfl
 | rem q2 h0 h1 g h=>
  rw [ao (by lia)]
  rename_i r
  show (decide (0≤r) && decide (r<q))=true;rw [dj h0,dj h1];rfl
theorem Mo{u d u' d':Int}(l:de u d)(l':de u' d')(e:u*d'=u'*d):u=u'∧d=d':=by
 have h1:=l.pos;have h2:=l'.pos;have a:=(Cn l (show 0<d' by lia) e).1
 have c:=(Cn l' (show 0<d by lia) e.symm).1
 have dd:d=d':=by lia
 subst dd;exact ⟨vk (show d≠0 by lia) e,rfl⟩
theorem Vt(hv:cJ H q v t b)(hu:cJ H q u t' b')(e:t*b'=t'*b) :
  (∃p p' x m,v=.ref p∧u=.ref p'∧H p=some (.tup [.int x,.int m])∧H p'=some (.tup [.int x,.int m]))∨(∃i:Int,v=.int i∧u=.int i):=by
 cases hv with
 | bH e1 l hb h=>
  cases hu with
  | bH e2 l' dW h'=>
   rename_i p x m p' y n
   have z:x*n=y*m:=by refine vk (c:=b*b') (pI hb dW) ?_;grind
   obtain ⟨rfl,rfl⟩:=Mo l l' z;exact .inl ⟨_,_,_,_,rfl,rfl,e1,e2⟩
  | rem q2 h0 h1 g h=>lia
 | rem q2 h0 h1 g h=>
  cases hu with
  | bH e' l' dW h'=>lia
  | rem Gq Gr mV g' h'=>
   rename_i i j
   have d:q∣(i-j)*(b*b'):=by obtain ⟨k1,e1⟩:=h;obtain ⟨k2,e2⟩:=h';exact ⟨k1*b'-k2*b,by grind⟩
   have d2:=Gp q2 (mT g g') d;have ij:i=j:=by
    obtain ⟨k,ek⟩:=d2;by_cases z:k=0;·rw [z,bU] at ek;lia
    ·exfalso
     rcases Int.lt_or_gt_of_ne z with z | z
     ·have:=qQ (show k≤-1 by lia) (show 0≤q by lia)
      lia
     ·have:=qQ (show 1≤k by lia) (show 0≤q by lia)
      lia
   subst ij;exact .inr ⟨_,rfl,rfl⟩
end
theorem bZ.bC{D:Addr}{ys:List V}(h:bZ B H q v x m)(eD:H D=some (.lst ys))(k:∀b o,b≠D→H b=some o→H' b=some o):bZ B H' q v x m:=by
 cases h with
 | bH e l bx bm=>refine .bH (k _ _ (fun z=>?_) e) l bx bm;rw [z,eD] at e;cases e
 | rem h0 h1 h2=>exact .rem h0 h1 h2
end My
namespace L2
open PySem PySem.Spec PyProof.Rows
structure mX (J:It) (xs:List V) (H1:Hp):Prop where
 go:∀i Hc,ah H1 Hc→i<xs.length→J.go i Hc
 fR:∀i Hc x H',ah H1 Hc→J.fR i Hc x H'→H'=Hc∧(i<xs.length→xs[i]?=some x)
 stop:∀i Hc,ah H1 Hc→xs.length≤i→J.stop i Hc
variable {K:aJ} {a:Addr} {xs:List V} {H1:Hp}
theorem iI(h:bP K H1 a xs):mX (u9 K a) xs H1 where
 go:=fun i Hc s hi=>⟨xs,xs[i],s.seq h,by simp [hi]⟩
 fR:=fun i Hc x H' s y=>⟨y.1,fun _=>y.2 xs (s.seq h)⟩
 stop:=fun i Hc s hi=>⟨xs,s.seq h,hi⟩
theorem oM{lo:Int}{n:Nat}:mX (pO lo n) ((List.range n).map fun i:Nat=>V.int (lo+(i:Int))) H1 where
 go:=fun i Hc s hi=>by
  have hi:i<n:=by simpa using hi
  exact hi
 fR:=fun i Hc x H' s y=>⟨y.1,fun hi=>by
  have hi:i<n:=by simpa using hi
  rw [y.2];simp [hi]⟩
 stop:=fun i Hc s hi=>by
  have hi:n≤i:=by simpa using hi
  exact hi
variable {H:Hp}
theorem dP{H':Hp}{D:Addr}{o:HO}(s:ah H H')(n:H D=none):ah H (upd H' D o):=fun b u e=>by rw [bI (gi e n)];exact s b u e
variable {te:TE} {Q:VK}
theorem Mp{J:It}{ρσ:St}{D:Addr}(js:mX J xs H1)(nD:H1 D=none)(hn:xs.length<sizeLine)
  (P:Nat→V→Hp→Prop) (mono:∀i y H H' ys,P i y H→H D=some (.lst ys)→(∀b o,b≠D→H b=some o→H' b=some o)→P i y H')
  (step:∀i x,xs[i]?=some x→∀(Hc:Hp) (R:VK),ah H1 Hc→(∃ys,Hc D=some (.lst ys))→(∀y H3,ah Hc H3→P i y H3→R y H3)→te (some x::ρσ) Hc R)
  (fin:∀ys Hc,ah H1 Hc→ys.length=xs.length→(∀i y,ys[i]?=some y→P i y Hc)→Hc D=some (.lst ys)→Q (.ref D) Hc) :
  ∃W:Nat→Nat→List V→Hp→Prop,(∃m,W 0 m [] (upd H1 D (.lst []))) ∧
   ∀i m ys Hc,W i m ys Hc→Hc D=some (.lst ys)∧((J.stop i Hc∧Q (.ref D) Hc)∨(J.go i Hc∧∀x H',J.fR i Hc x H'→
    if true=true then te (some x::ρσ) H' fun y H3=>H3 D=some (.lst ys)∧ys.length<sizeLine∧∃m',m'<m∧W (i+1) m' (ys++[y]) (upd H3 D (.lst (ys++[y]))) else ∃m',m'<m∧W (i+1) m' ys H')):=by
 refine ⟨fun i m ys Hc=>m=xs.length-i∧i≤xs.length∧Hc D=some (.lst ys)∧ah H1 Hc∧ys.length=i∧∀j y,ys[j]?=some y→P j y Hc,⟨_,rfl,eJ _,aA,dP (ah.refl H1) nD,rfl,fun j y e=>by simp at e⟩,?_⟩
 rintro i m ys Hc ⟨rfl,hi,eD,sH,el,hP⟩;refine ⟨eD,?_⟩;by_cases dr:i<xs.length
 ·refine .inr ⟨js.go i Hc sH dr,fun x H' hy=>?_⟩
  obtain ⟨rfl,hx⟩:=js.fR i Hc x H' sH hy;rw [ak rfl];refine step i x (hx dr) _ _ sH ⟨ys,eD⟩ fun y H3 s3 hp=>?_;have e3:=s3 _ _ eD;refine ⟨e3,by lia,xs.length-(i+1),by lia,rfl,dr,aA,dP (sH.trans s3) nD,by simp [el],fun j y' e=>?_⟩
  have bC:∀b o,b≠D→H3 b=some o→upd H3 D (.lst (ys++[y])) b=some o:=fun b o nb e=>by rw [bI nb];exact e
  by_cases hj:j<i
  ·have e':ys[j]?=some y':=by rw [fD (by lia)] at e;exact e
   refine mono j y' H' _ ys (hP j y' e') eD fun b o nb e=>?_;exact bC b o nb (s3 _ _ e)
  ·have hj:j=i:=by have:=(aP.mp e).1;simp at this;lia
   subst hj;have e':y'=y:=by rw [fN (by lia),el,mF] at e;simpa using e.symm
   subst e';exact mono _ _ H3 _ ys hp e3 bC
 ·have e:i=xs.length:=by lia
  subst e;exact .inl ⟨js.stop _ Hc sH (aH _),fin ys Hc sH el hP eD⟩
variable {wi:TI} {ρ:St→St} {σ:St}
theorem Mq(gL:∀R:It→Hp→Prop,(∀J H1,ah H H1→mX J xs H1→R J H1)→wi σ H R)(hn:xs.length<sizeLine)
  (P:Addr→Nat→V→Hp→Prop) (mono:∀D i y H H' ys,P D i y H→H D=some (.lst ys)→(∀b o,b≠D→H b=some o→H' b=some o)→P D i y H')
  (step:∀D i x,xs[i]?=some x→∀(Hc:Hp) (R:VK),ah H Hc→(∃ys,Hc D=some (.lst ys))→(∀y H3,ah Hc H3→P D i y H3→R y H3)→te (some x::ρ σ) Hc R)
  (fin:∀D ys Hc,ah H Hc→ys.length=xs.length→(∀i y,ys[i]?=some y→P D i y Hc)→Hc D=some (.lst ys)→Q (.ref D) Hc):jM wi ρ (fun _ H Q=>Q true H) te σ H Q:=by
 refine gL _ fun J H1 s1 js=>?_;intro D nD;exact Mp (ρσ:=ρ σ) (te:=te) (Q:=Q) js nD hn (P D) (mono D) (fun i x hx Hc R sc=>step D i x hx Hc R (s1.trans sc)) (fun ys Hc sc=>fin D ys Hc (s1.trans sc))
variable {g:TG} {D:Ends}
theorem gM(h:te σ H fun x H1=>g x σ H1 D.nx):ou te g D σ H:=h
theorem fT{a b:TS}(h:a {D with nx:=fun σ H=>b D σ H} σ H):FE a b D σ H:=h
section
variable {X:Cx} {N:List Str} {scope:Scope} {cl:List (Str×Addr)} {x:Str} {px pos:Pos} {iter elt:Expr} {ifs:List Expr} {wi:TI} {ρ:St→St} {tt:TT} {te:TE}
theorem zA{y:Str}{py zB:Pos}{i0:Nat}(B:Gg X N scope cl x ρ)(hc:X.calm=true)(hN:X.N.Nodup)(vo:X.N[i0]?=some y)(hy:Loc X.env.scope y)(hi:PI X (.Name x px) iter wi)(ht:∀s₃ H₃ fp,kK (X.bK N scope cl s₃ H₃ fp) ifs tt)(he:∀s₃ H₃ fp,PE (X.bK N scope cl s₃ H₃ fp) elt te)
  (Gs:swapsWith (.ListComp elt [⟨.Name x px,iter,ifs,0⟩] scope pos) (some (.Name y py)) zB.line X.env=pure true:=by rfl) (hf:X.fn y=true∨X.env.scope.names.lookup y=some .local:=by first | exact .inl rfl | exact .inr rfl | assumption)
  (hs:∀x,foldedSetIterable iter X.env x=pure x:=by intro _;rfl):PS X (.Assign [.Name y py] (.ListComp elt [⟨.Name x px,iter,ifs,0⟩] scope pos) zB) (ou (jM wi ρ tt te) (aT i0)):=by
 intro pins s σ H D0 I h
 have h:jM wi ρ tt te σ H (fun v H1=>D0.nx (σ.set i0 (some v)) H1):=h
 rw [exec_Assign_Name_used _ _ _ _ Gs]
 refine cR (yB (cR ?_))
 show wpAny _ X.A (do let _ ←comprehension (.ListComp elt [⟨.Name x px,iter,ifs,0⟩] scope pos) scope X.env _ (newList []) false (eval iter X.env) (some (assign (.Name y py) X.env))) _ _ s
 refine cR (cI (Q:=fun _ s'=>SP X pins D0 .next s') ?_ (fun _ s' hq=>fz (fz hq)) fun _ _ e=>e)
 refine yH (use:=some (assign (.Name y py) X.env)) rfl hs B.rS B.kind B.names (aV (hi pins s σ H _ I h) fun v s1 h1=>aV h1 fun rj s2 h2=>?_)
 obtain ⟨it,fp,tn,J,H2,rfl,I2,T,fY,f2,q2⟩:=h2
 have nD:H2 s2.heap.objs.size=none:=I2.aN.fresh (aH _)
 obtain ⟨W,⟨m0,w0⟩,turn⟩:=q2 _ nD
 refine uR (Br B.zt (by intro y hy;simp at hy) (fun h₁ gf gJ=>?_) B.kind)
 dsimp only at gf gJ ⊢
 generalize hD:s2.heap.objs.size=D at nD w0 turn gf gJ ⊢
 generalize fJ:({s2 with heap:=s2.heap.push {cls:=.type "list",dict:=none,data:=.seq ([]:List Value).toArray}}:Shared)=s3
 have I3:Inv X pins σ (upd H2 D (.lst [])) s3:=by
  subst hD fJ
  exact I2.laid (t':=s2.toks) (fun b u e=>dA _ e) (aH _) ⟨eJ _,[],_,.nil,gR _ rfl⟩
 have e3:s3.heap=s2.heap.push {cls:=.type "list",dict:=none,data:=.seq ([]:List Value).toArray}:=by rw [←fJ]
 have e9:∀b o,s2.heap.get? b=some o→s3.heap.get? b=some o:=fun b o e=>by rw [e3];exact dA _ e
 rw [←e3] at gf gJ ⊢
 have below:∀b o,s3.heap.get? b=some o→b≠s3.heap.objs.size:=fun b o e=>ft (bV e)
 have du:∀b o,s3.heap.get? b=some o→h₁.get? b=some o:=fun b o e=>gJ.extBut b o (below b o e) (dA _ e)
 have gu:∀b∈fp,∃o,s2.heap.get? b=some o∧∀v,o.data≠.cell v:=T.obj _ _ fY
 have oC:∀b∈fp,b≠D:=fun b hb z=>by
  obtain ⟨o,e,_⟩:=gu b hb
  rw [z,←hD] at e
  exact absurd (bV e) (gz _)
 have cX:∀y c,cl.lookup y=some c→X.env.cells.lookup y=some c:=fun y c e=>B.sub (y,c) (kl e)
 have oE:=I3.q_
 have eR:(X.bK N scope cl s3 (upd H2 D (.lst [])) fp).Ok:=by
  refine ⟨I.ok.mod,B.kind,I.ok.glob,I.ok.blt,aH _,fun a b c e1 e2=>I.ok.inj a b c (cX a c e1) (cX b c e2),fun y hy=>B.has y hy,(fun _ _ z _=>absurd z dB),(fun _=>I.ok.hd hc),I.ok.frames,.inl rfl,fun b hb=>⟨?_,fun y c e z=>?_⟩,fun b o e=>?_,aq I.ok.ig I3.sz,fun b o e hb=>?_,fun b hb z=>?_,I3.stack,oE⟩
  ·obtain ⟨o,e,_⟩:=gu b hb
   exact below b o (e9 b o e)
  ·exact (f2 b hb).2.2.2.2.1 y c (cX y c e) z
  ·exact I3.bs b o e
  ·rcases (f2 b hb).2.2.2.1 with z | z
   ·exact I.ok.oi b o e z
   ·exact absurd (dy (bV e) (aq I.ok.ig z)) (gz _)
  ·rcases eY.mp (I3.q8 b z) with z | z
   ·exact (f2 b hb).2.1 z
   ·exact (f2 b hb).2.2.1 z
 have IB:∀tk:Nat,Inv (X.bK N scope cl s3 (upd H2 D (.lst [])) fp) [] (none::ρ σ) (upd H2 D (.lst [])) {s3 with heap:=h₁,toks:=tk}:=fun tk=>by
  refine ⟨eR,rfl,I3.bare,Un.kept du,⟨_,gf,fun j y v e1 e2 e3=>?_⟩,fun y c e=>?_,?_,fun y c e=>I3.ja y c (cX y c e),(fun p hp=>nomatch hp),I3.aN.kept du,?_⟩
  ·cases j with
   | zero=>cases e2
   | succ j=>
    obtain ⟨i,y',a1,a2,a3,a4,a5,a6⟩:=B.rW σ j v e2
    have jN:N[j+1]?=some y:=e1
    rw [jN] at a1
    cases a1
    obtain ⟨m,hn,hl⟩:=I3.loc
    obtain ⟨u,r,l⟩:=hl i y v a2 a3 a4
    refine ⟨u,r,.inr ⟨a6,?_⟩⟩
    obtain ⟨c,ec⟩:=B.has y a6
    rcases l with ⟨k,_⟩ | ⟨_,c',jf,z⟩
    ·rcases a5 with q | q <;> (rw [k] at q;cases q)
    ·have:=cX y c ec
     rw [this] at jf
     cases jf
     obtain ⟨o,ho,hd⟩:=z
     exact ⟨c,ec,o,du _ _ ho,hd⟩
  ·obtain ⟨v,o,ho,hd⟩:=I3.cell y c (cX y c e)
   exact ⟨v,o,du _ _ ho,hd⟩
  ·exact I3.aN.fresh (aH _)
  ·show (none::ρ σ).length=N.length
   rw [cS]
   exact B.len σ I.len
 have r9:∀b o,s3.heap.get? b=some o→b≠s3.heap.objs.size:=below
 have fin:∀{σ':St} {H':Hp} {s':Shared},Inv (X.bK N scope cl s3 (upd H2 D (.lst [])) fp) [] σ' H' s'→D0.nx (σ.set i0 (some (.ref D))) H'→compPost (model X.prog X.w) X.A X.xe (some (assign (.Name y py) X.env)) (fun _ s'=>SP X pins D0 .next s') (.ref D) s3.heap.objs.size (.ok .next) s':=fun{σ' H' s'} J q=>by
  obtain ⟨m,hn,_⟩:=J.loc
  have hn:s'.heap.Ns s3.heap.objs.size m:=hn
  have JC:H' s3.heap.objs.size=none:=J.free
  have u1:Un (dh X.stack) fp (upd H2 D (.lst [])) H' s3.heap s'.heap:=by
   refine ⟨fun b o e n hb hx=>J.base.keep b o e n hb hx,fun b o e n hb hx=>J.base.slot b o e n hb hx,J.base.free,fun b o e hx=>J.base.there b o e hx,J.base.ic,J.base.gZ,J.base.ie⟩
  have IX:Inv X pins σ H' s':=I3.oq (ch:=fp) (J.os) u1 J.aN J.bare fun b hb=>by
   obtain ⟨g0,g1,g2,g3,g4,g5⟩:=f2 b hb
   exact ⟨g3,g1,g4,g5⟩
  have nl:X.env.locals≠s3.heap.objs.size:=by
   obtain ⟨m3,⟨o3,_,_,e3,_⟩,_⟩:=I3.loc
   exact r9 _ _ e3
  have nc:∀z c,X.env.cells.lookup z=some c→c≠s3.heap.objs.size:=fun z c e=>by
   obtain ⟨v3,o3,e3,_⟩:=I3.cell z c e
   exact r9 _ _ e3
  refine wpAny_assign_Name (Fz (v:=.ref D) IX hN vo hy rfl (fun jJ r_ sh=>?_) hf)
  obtain ⟨a,sh,ha⟩:=sh
  have na:s3.heap.objs.size≠a:=by
   rcases ha with rfl | e
   ·exact fun z=>nl z.symm
   ·exact fun z=>nc _ _ e z.symm
  refine ⟨m,hn.sameBut sh na,fun h' dR=>⟨σ.set i0 (some (.ref D)),H',?_,q⟩⟩
  have u2:Un (dh X.stack) [s3.heap.objs.size] H' H' jJ.heap h':=by
   refine ⟨fun b o e n hb hx=>(dR.2 b (by simpa using hx)).trans e,fun b o e n hb hx=>⟨o.slots,(dR.2 b (by simpa using hx)).trans e⟩,fun b o e n hx=>n,fun b o e hx=>⟨o,(dR.2 b (by simpa using hx)).trans e⟩,fun b xs z=>z,fun b o u z=>z,fun b ps z=>⟨#[],by simpa using z⟩⟩
  have oF:dC X.prog X.w H' h':=fun b u e=>by
   refine (r_.aN b u e).jD (fun c v hc z=>(dR.2 c fun y=>?_).trans z) (fun _ z=>z) fun _ _ z=>z
   have y':c=s3.heap.objs.size:=y
   rcases hc with hc | hc
   ·rw [←hc,y',JC] at e
    cases e
   ·rw [y',JC] at hc
    cases hc
  refine r_.oq (s':={jJ with heap:=h'}) (ch:=[s3.heap.objs.size]) rfl u2 oF r_.bare fun b hb=>?_
  have eb:b=s3.heap.objs.size:=by simpa using hb
  subst eb
  refine ⟨.inr I3.sz,fun z=>nl z.symm,fun z c e=>nc z c e,fun p hp=>?_⟩
  exact r9 _ _ (I3.pin p hp).1
 have fE:∀{H':Hp},(∀b∈fp,H' b=none)→∀b∈fp,lj (X.bK N scope cl s3 (upd H2 D (.lst [])) fp) [] H' b:=fun hn b hb=>by
  refine ⟨hn b hb,?_,?_,.inl hb,fun y c e z=>(f2 b hb).2.2.2.2.1 y c (cX y c e) z,fun p hp=>nomatch hp⟩
  ·obtain ⟨o,e,_⟩:=gu b hb
   exact below b o (e9 b o e)
  ·exact eR.oj b hb
 have loop:∀tk:Nat,codeAny (model X.prog X.w) X.A (.compLoop (.ListComp elt [⟨.Name x px,iter,ifs,0⟩] scope pos) 0 (.ref it) (.ref D) (compEnvC scope cl s3.heap.objs.size X.env))
   (compPost (model X.prog X.w) X.A X.xe (some (assign (.Name y py) X.env)) (fun _ s'=>SP X pins D0 .next s') (.ref D) s3.heap.objs.size) {s3 with heap:=h₁,toks:=tk}:=fun tk=>by
  refine Fm (fun n s'=>∃i ys o H',Inv (X.bK N scope cl s3 (upd H2 D (.lst [])) fp) [] (o::ρ σ) H' s'∧tn i s'.heap∧(∀b∈fp,H' b=none)∧W i n ys H') ?_ m0
   ⟨0,[],none,_,IB tk,T.keep _ _ _ fY fun b hb o e=>du _ _ (e9 _ _ e),fun b hb=>by rw [bI (oC b hb)];exact (f2 b hb).1,w0⟩
  rintro n s4 ⟨i,ys,o,H4,I4,jg,jh,w4⟩
  obtain ⟨Cc,oG⟩:=turn i n ys H4 w4
  rcases oG with ⟨stop,qn⟩ | ⟨go,step⟩
  ·refine cI (T.done (X.bK N scope cl s3 (upd H2 D (.lst [])) fp) rfl rfl rfl hc i [] s4 _ H4 (fun _ _=>False) I4 (fE jh) jg stop) (fun r s5 ⟨hr,I5⟩=>?_) fun _ _ z=>z.elim
   subst hr
   exact fin I5 qn
  ·refine cI (T.item (X.bK N scope cl s3 (upd H2 D (.lst [])) fp) rfl rfl rfl hc i [] s4 _ H4 (fun _ _=>False) I4 (fE jh) jg go) (fun r s5 ⟨u,hr,h5⟩=>?_) fun _ _ z=>z.elim
   subst hr
   have z:letOwnedTupleGo (.Name x px) (.ref it) u=pure ():=rfl
   rw [z] at h5
   show wpAny _ _ ((pure ():Sem Unit) >>= fun _=>assign (.Name x px) (compEnvC scope cl s3.heap.objs.size X.env) u) _ _ s5
   refine cR (cI h5 (fun _ s5 ⟨y,H5,I5,r5,y5,fF,lD⟩=>?_) fun _ _ z=>z.elim)
   have lE:=I5.pinned (fE lD) (T.obj _ _ fF)
   have pg:PG (X.bK N scope cl s3 (upd H2 D (.lst [])) fp) (.Name x px) (aT 0):=d_ (i:=0) B.nd B.n0 (.inl (km B.hx)) (.inr (km B.hx))
   have again:∀{σ7:St} {H7:Hp} {s7:Shared},Inv (X.bK N scope cl s3 (upd H2 D (.lst [])) fp) ([]++jb fp s5.heap) σ7 H7 s7→Inv (X.bK N scope cl s3 (upd H2 D (.lst [])) fp) [] σ7 H7 s7∧tn (i+1) s7.heap∧∀b∈fp,H7 b=none:=fun{σ7 H7 s7} I7=>by
    refine ⟨I7.pP,T.keep _ _ _ fF fun b hb o e=>(I7.pin (b,o) (eI _ (eI _ (kF hb e)))).1,fun b hb=>?_⟩
    obtain ⟨o,e,d⟩:=T.obj _ _ fF b hb
    exact (I7.pin (b,o) (eI _ (eI _ (kF hb e)))).2.1
   refine cI (pg _ s5 _ H5 y u (fun σ2 H6=>σ2=some y::ρ σ∧H6=H5) lE r5 ⟨rfl,rfl⟩) (fun _ s6 ⟨σ6,H6,I6,q6⟩=>?_) fun _ _ z=>z.elim
   obtain ⟨rfl,rfl⟩:=q6
   have oH:=step y _ y5
   have tests:∀{gK:TT},kK (X.bK N scope cl s3 (upd H2 D (.lst [])) fp) ifs gK→∀{R:Bool→Hp→Prop},gK (some y::ρ σ) H6 R→wpAny (model X.prog X.w) X.A
     (forIn ifs true fun c r=>if r=true then do let ok ←isTrue c (compEnvC scope cl s3.heap.objs.size X.env) (eval c (compEnvC scope cl s3.heap.objs.size X.env));pure (ForInStep.yield ok) else pure (ForInStep.yield r))
     (fun ok s7=>∃H7,Inv (X.bK N scope cl s3 (upd H2 D (.lst [])) fp) ([]++jb fp s5.heap) (some y::ρ σ) H7 s7∧R ok H7) (fun _ _=>False) s6:=fun{gK} p {R} hR=>by
    cases p with
    | nil=>exact yI ⟨_,I6,hR⟩
    | one p=>exact yJ (p _ s6 _ _ _ I6 hR)
   refine cI (tests (ht s3 _ fp) oH) (fun ok s7 ⟨H7,I7,q7⟩=>?_) fun _ _ z=>z.elim
   cases ok with
   | false=>
    obtain ⟨m',gv,w7⟩:=q7
    obtain ⟨a1,a2,a3⟩:=again I7
    exact ⟨m',gv,i+1,ys,_,H7,a1,a2,a3,w7⟩
   | true=>
    refine cI (he s3 _ fp _ s7 _ H7 _ I7 q7) (fun ev s8 ⟨z,H8,I8,r8,lK,hz,m',gv,w8⟩=>?_) fun _ _ z=>z.elim
    refine cI (mR (X:=X.bK N scope cl s3 (upd H2 D (.lst [])) fp) _ s8 _ H8 (.ref D) [z] (.ref D) [ev] (fun _ H9=>H9=upd H8 D (.lst (ys++[z]))) I8 rfl (.cons r8 .nil) ⟨D,ys,z,rfl,rfl,lK,hz,rfl⟩) (fun _ s9 ⟨_,H9,I9,_,q9⟩=>?_) fun _ _ z=>z.elim
    subst q9
    obtain ⟨a1,a2,a3⟩:=again I9
    exact ⟨m',gv,i+1,ys++[z],_,_,a1,a2,a3,w8⟩
 have start:=loop (s3.toks+([]:List (Str×Value)).length)
 have es:({s3 with heap:=h₁,toks:=s3.toks+([]:List (Str×Value)).length}:Shared)={s2 with heap:=h₁,toks:=s2.toks+([]:List (Str×Value)).length}:=by rw [←fJ]
 rw [es] at start
 exact yK start (T.self _ 0 _ _ _ (T.keep _ _ _ fY fun b hb o e=>du _ _ (e9 _ _ e)) start)
end
def vp(K:aJ)(l1 l2:Addr):It:=
  ⟨fun i H=>∃xs ys x y,bP K H l1 xs∧bP K H l2 ys∧xs[i]?=some x∧ys[i]?=some y,
   fun i H v H'=>∃T x y,H T=none∧v=.ref T∧H'=upd H T (.tup [x,y])∧∀xs ys,bP K H l1 xs→bP K H l2 ys→xs[i]?=some x∧ys[i]?=some y,
   fun i H=>∃xs ys,bP K H l1 xs∧bP K H l2 ys∧(xs.length≤i∨ys.length≤i)⟩
variable {l1 l2:Addr}
theorem Vu{P:Program}{w:World}{elts:List Expr}{k:Nat}{pos:Pos}{z TI TO i1 i2:Addr}(D:ZipApart z TI TO i1 i2 l1 l2):Turn P w K (.Tuple elts k pos) (vp K l1 l2) [z,TI,TO,i1,i2] z
  (fun i h=>IsZip h z TI TO .none∧IsPair h TI (.ref i1) (.ref i2)∧(∃a b,IsPair h TO a b)∧h.IsListIter i1 l1 i∧h.IsListIter i2 l2 i) where
 mem:=by simp
 obj:=fun i h st b hb=>by
  obtain ⟨hz,oN,⟨a,c,p5⟩,h1,h2⟩:=st;simp only [eY,qT,or_false] at hb;rcases hb with rfl | rfl | rfl | rfl | rfl;·exact ⟨_,hz,fun v z=>by cases z⟩
  ·exact ⟨_,oN,fun v z=>by cases z⟩
  ·exact ⟨_,p5,fun v z=>by cases z⟩
  ·obtain ⟨o,e,c,d⟩:=h1
   exact ⟨o,e,fun v z=>by rw [d] at z;cases z⟩
  ·obtain ⟨o,e,c,d⟩:=h2
   exact ⟨o,e,fun v z=>by rw [d] at z;cases z⟩
 keep:=fun i h h' st k=>by obtain ⟨hz,oN,⟨a,c,p5⟩,h1,h2⟩:=st;exact ⟨k _ (by simp) _ hz,k _ (by simp) _ oN,⟨a,c,k _ (by simp) _ p5⟩,h1.at fun o e=>k _ (by simp) o e,h2.at fun o e=>k _ (by simp) o e⟩
 item:=by
  intro X hP hw hK hc i pins s σ H E I hf st hg;subst hP hw hK;obtain ⟨hz,oN,⟨a,c,p5⟩,h1,h2⟩:=st;obtain ⟨xs,ys,x,y,vq,kP,hx,hy⟩:=hg;obtain ⟨av,rv,p,_⟩:=I.list vq;obtain ⟨Mr,Cq,p',_⟩:=I.list kP;obtain ⟨u,hu,ru⟩:=rv.get hx;obtain ⟨u',Vv,Vw⟩:=Cq.get hy;refine wpAny_pyNext_zip_item D hz oN p5 h1 h2 p.isList p'.isList (x:=u) (y:=u') (by simpa using hu) (by simpa using Vv) fun h' g1 g2 g3 g4 g5 g6 g7=>⟨_,rfl,?_⟩
  refine wpAny_letOwnedTupleGo_zip g1 fun zC q1 sb=>?_;have Ms:H s.heap.objs.size=none:=I.aN.fresh (aH _);have lt:∀b o,s.heap.get? b=some o→b≠s.heap.objs.size:=fun b o e=>ft (bV e);have keep:∀b o,b∉[z,TI,TO,i1,i2]→s.heap.get? b=some o→zC.get? b=some o:=fun b o nb e=>by simp only [eY,qT,or_false,not_or] at nb;exact sb.extBut _ _ nb.1 (g7 b o nb.1 nb.2.2.1 nb.2.2.2.1 nb.2.2.2.2 e)
  have Vx:z≠s.heap.objs.size:=lt _ _ hz;have pT:IsPair zC s.heap.objs.size u u':=sb.extBut _ _ Vx.symm g5;have zD:∀{b:Addr} {o:HO} (e:H b=some o),upd H s.heap.objs.size (.tup [x,y]) b=some o:=fun e=>by rw [bI (gi e Ms)];exact e
  have aN:dC X.prog X.w (upd H s.heap.objs.size (.tup [x,y])) zC:=fun b o e=>by
   by_cases hb:b=s.heap.objs.size
   ·subst hb
    rw [aA] at e;cases e;exact ⟨by show 2≤sizeLine;decide,[u,u'],.cons ru (.cons Vw .nil),⟨_,pT,rfl,_,rfl⟩⟩
   ·rw [bI hb] at e
    refine (I.aN b o e).jD (fun c v eQ q=>keep c v (fun m=>?_) q) (fun c q=>zD q) fun c xs q=>zD q;have nn:=(hf c m).1;rcases eQ with rfl | eQ;·rw [nn] at e;cases e
    ·rw [nn] at eQ;cases eQ
  have u1:Un (dh X.stack) [z,TI,TO,i1,i2] H (upd H s.heap.objs.size (.tup [x,y])) s.heap zC:=
   ⟨fun b o e n _ hx=>keep b o hx e,fun b o e n _ hx=>⟨o.slots,keep b o hx e⟩,fun b o e n hx=>by rw [bI (lt b o e)];exact n,fun b o e hx=>⟨o,keep b o hx e⟩,fun b xs e=>zD e,fun b o u e=>zD e,fun b ps e=>⟨#[],by rw [zD e];simp⟩⟩
  refine ⟨.ref s.heap.objs.size,upd H s.heap.objs.size (.tup [x,y]),I.oq (s':={s with heap:=zC}) (ch:=[z,TI,TO,i1,i2]) rfl u1 aN I.bare (fun b hb=>?_),rfl,⟨_,x,y,Ms,rfl,rfl,fun as bs ha hb=>⟨by rw [I.FD ha vq];exact hx,by rw [I.FD hb kP];exact hy⟩⟩,?_,fun b hb=>?_⟩
  ·obtain ⟨f0,f1,f2,f3,f4,f5⟩:=hf b hb
   exact ⟨f3,f1,f4,f5⟩
  ·exact ⟨q1,sb.extBut _ _ D.TIz (g7 _ _ D.TIz D.TITO D.TIi1 D.TIi2 oN),⟨_,_,sb.extBut _ _ D.TOz g2⟩,g3.extBut sb.extBut D.i1z,g4.extBut sb.extBut D.i2z⟩
  ·have nb:b≠s.heap.objs.size:=by
    simp only [eY,qT,or_false] at hb;rcases hb with rfl | rfl | rfl | rfl | rfl;·exact lt _ _ hz
    ·exact lt _ _ oN
    ·exact lt _ _ p5
    ·obtain ⟨o,e,_⟩:=h1;exact lt _ _ e
    ·obtain ⟨o,e,_⟩:=h2;exact lt _ _ e
   rw [bI nb];exact (hf b hb).1
 done:=by
  intro X hP hw hK hc i pins s σ H E I hf st hg;subst hP hw hK;obtain ⟨hz,oN,⟨a,c,p5⟩,h1,h2⟩:=st;obtain ⟨xs,ys,vq,kP,hx⟩:=hg;obtain ⟨av,rv,p,_⟩:=I.list vq;obtain ⟨Mr,Cq,p',_⟩:=I.list kP;have hl:=rv.length;have oO:=Cq.length;refine wpAny_pyNext_zip_end (I.ok.hd hc) D hz oN p5 h1 h2 p.isList p'.isList (hx.imp (fun h=>by simp;lia) fun h=>by simp;lia) fun h' g=>⟨rfl,?_⟩
  have keep:∀b o,b∉[z,TI,TO,i1,i2]→s.heap.get? b=some o→h'.get? b=some o:=fun b o nb e=>by simp only [eY,qT,or_false,not_or] at nb;exact g b o nb.1 nb.2.2.1 nb.2.2.2.1 nb.2.2.2.2 e
  have aN:dC X.prog X.w H h':=fun b o e=>by
   refine (I.aN b o e).jD (fun c v eQ q=>keep c v (fun m=>?_) q) (fun c q=>q) fun c xs q=>q;have nn:=(hf c m).1;rcases eQ with rfl | eQ;·rw [nn] at e;cases e
   ·rw [nn] at eQ;cases eQ
  have u1:Un (dh X.stack) [z,TI,TO,i1,i2] H H s.heap h':=
   ⟨fun b o e n _ hx=>keep b o hx e,fun b o e n _ hx=>⟨o.slots,keep b o hx e⟩,fun b o e n hx=>n,fun b o e hx=>⟨o,keep b o hx e⟩,fun b xs e=>e,fun b o u e=>e,fun b ps e=>⟨#[],by rw [e];simp⟩⟩
  refine I.oq (s':={s with heap:=h'}) (ch:=[z,TI,TO,i1,i2]) rfl u1 aN I.bare fun b hb=>?_;obtain ⟨f0,f1,f2,f3,f4,f5⟩:=hf b hb;exact ⟨f3,f1,f4,f5⟩
 self:=fun _ _ _ _ _ st h=>wpAny_pyIter_zip st.1 h
theorem boot_zip:bootBuiltins "zip"=some (.type "zip"):=by decide +kernel
def Vy(K:aJ)(ta:TA):TI:=fun σ H R=>ta σ H fun vs H1=>∃l1 l2,vs=[.ref l1,.ref l2]∧(∃xs,bP K H1 l1 xs)∧(∃ys,bP K H1 l2 ys)∧R (vp K l1 l2) H1
section
variable {X:Cx}
theorem mY{elts:List Expr}{k:Nat}{Ln:Pos}{a b:Expr}{ta:TA}{p pos:Pos}(hg:Gl X "zip")(hm:X.mg "zip"=none)(ha:PA X [a,b] ta)(hs:starEach [a,b] X.env=[(false,eval a X.env),(false,eval b X.env)]:=by rfl)(mO:starEach [b] X.env=[(false,eval b X.env)]:=by rfl) :
  PI X (.Tuple elts k Ln) (.Call (.Name "zip" p) [a,b] [] pos) (Vy X.K ta):=by
 intro pins s σ H R I h;refine Call_ (u5 I hg hm boot_zip (Bk (aV (ha pos pins s σ H _ I h) fun us s1 ⟨vs,H1,I1,r1,q1⟩=>?_) (by rw [hs,mO]) (by rw [mO];rfl)))
 obtain ⟨l1,l2,e,⟨xs,vq⟩,⟨ys,kP⟩,q⟩:=q1;subst e;cases r1 with
 | cons r rr=>
  cases rr with
  | cons r' rr=>
   cases rr;cases r;cases r';obtain ⟨av,rv,p1,_⟩:=I1.list vq;obtain ⟨Mr,Cq,p2,_⟩:=I1.list kP;have b1:l1<s1.heap.objs.size:=by obtain ⟨o,e,_⟩:=p1.isList;exact bV e
   have b2:l2<s1.heap.objs.size:=by obtain ⟨o,e,_⟩:=p2.isList;exact bV e
   refine call_zip_2 p1.isList p2.isList fun h' z1 z2 z3 z4 z5 z6 z7=>?_;refine wpAny_pyIter_zip (s:={s1 with heap:=h'}) z1 ?_;have D:ZipApart (s1.heap.objs.size+4) (s1.heap.objs.size+2) (s1.heap.objs.size+3) s1.heap.objs.size (s1.heap.objs.size+1) l1 l2:=by constructor <;> (intro h;have h:@Eq Nat _ _:=h;have b1:@LT.lt Nat _ l1 s1.heap.objs.size:=b1;have b2:@LT.lt Nat _ l2 s1.heap.objs.size:=b2;lia)
   refine ⟨_,_,_,_,H1,rfl,I1.kept (t':=s1.toks) z7,Vu D,⟨z1,z2,⟨_,_,z3⟩,z4,z5⟩,fun b hb=>?_,q⟩;have le:s1.heap.objs.size≤b:=by
    simp only [eY,qT,or_false] at hb;rcases hb with rfl | rfl | rfl | rfl | rfl;·exact nZ ..
    ·exact nZ ..
    ·exact nZ ..
    ·exact aH _
    ·exact nZ ..
   exact I1.FL le (I1.aN.fresh le)
end
section
variable {prog:Program} {w:World} {A:Around} {R:Result→Shared→Prop} {s:Shared}
theorem Mt{elt target iter:Expr}{ifs:List Expr}{scope:Scope}{pos:Pos}{it acc:Value}{env:Env}(I:Nat→Shared→Prop)
  (turn:∀n s,I n s→wpAny (model prog w) A (pyNext it) (fun r s₁=>match r with
   | none=>R (.ok .next) s₁
   | some v=>wpAny (model prog w) A (letOwnedTupleGo target it v) (fun _ s₁=>wpAny (model prog w) A (assign target env v) (fun _ s₂=>
     wpAny (model prog w) A (forIn ifs true fun c r=>if r=true then do let ok ←isTrue c env (eval c env);pure (ForInStep.yield ok) else pure (ForInStep.yield r)) (fun ok s₃=>
      if ok=true then wpAny (model prog w) A (eval elt env) (fun x s₄=>
       wpAny (model prog w) A (call (.builtin "list.append") [acc,x]) (fun _ s₅=>∃m,m<n∧I m s₅) (notedBy (model prog w) A env fun e s'=>R (.error e) s') s₄) (notedBy (model prog w) A env fun e s'=>R (.error e) s') s₃
      else ∃m,m<n∧I m s₃) (notedBy (model prog w) A env fun e s'=>R (.error e) s') s₂) (notedBy (model prog w) A env fun e s'=>R (.error e) s') s₁) (notedBy (model prog w) A env fun e s'=>R (.error e) s') s₁) (notedBy (model prog w) A env fun e s'=>R (.error e) s') s)
  (n:Nat) (h:I n s):codeAny (model prog w) A (.compLoop (.ListComp elt [⟨target,iter,ifs,0⟩] scope pos) 0 it acc env) R s:=by
 refine codeAny_loop rfl I (fun n s hI=>?_) n h
 show wpAny _ A ((compTurn (.ListComp elt [⟨target,iter,ifs,0⟩] scope pos) 0 it acc env).onRaise (fun x=>do noteFrame x env;theTreesLotGoes x)) _ _ s
 refine wpAny_noted ?_
 rw [compTurn_list]
 refine cR (yB (cR (cI (turn n s hI) (fun r s₁ h₁=>?_) fun _ _ h'=>h')))
 cases r with
 | none=>exact fz h₁
 | some v=>
  refine cR (cI h₁ (fun _ s₁ h₁=>?_) fun _ _ h'=>h')
  refine cR (cI h₁ (fun _ s₂ h₂=>cR (cI h₂ (fun ok s₃ h₃=>?_) fun _ _ h'=>h')) fun _ _ h'=>h')
  cases ok with
  | false=>exact fz ⟨rfl,h₃⟩
  | true=>
   exact cR (cR (cI h₃ (fun x s₄ h₄=>cR (cI h₄ (fun _ s₅ h₅=>fz (fz ⟨rfl,h₅⟩)) fun _ _ h'=>h')) fun _ _ h'=>h'))
end
def vt(K:aJ)(wi:TI)(ρ:St→St)(tt:TT)(te:TE):TE:=fun σ H Q=>wi σ H fun J H1=>∀D,H1 D=none→∃W:Nat→Nat→List V→Hp→Prop,(∃m,W 0 m [] (upd H1 D (.lst []))) ∧
 ∀i m ys Hc,W i m ys Hc→Hc D=some (.lst ys)∧((J.stop i Hc∧Q (.ref D) Hc)∨(J.go i Hc∧∀v H',J.fR i Hc v H'→∃T x1 x2,v=.ref T∧fX K H' T [x1,x2]∧tt (some x1::some x2::ρ σ) H' fun b H2=>
  if b=true then te (some x1::some x2::ρ σ) H2 fun y H3=>H3 D=some (.lst ys)∧ys.length<sizeLine∧∃m',m'<m∧W (i+1) m' (ys++[y]) (upd H3 D (.lst (ys++[y]))) else ∃m',m'<m∧W (i+1) m' ys H2))
section
variable {X:Cx} {N:List Str} {scope:Scope} {cl:List (Str×Addr)} {x y:Str} {px py pos tp:Pos} {lS:Nat} {iter elt:Expr} {ifs:List Expr} {wi:TI} {ρ:St→St} {tt:TT} {te:TE}
structure Gu (X:Cx) (N:List Str) (scope:Scope) (cl:List (Str×Addr)) (x y:Str) (ρ:St→St):Prop where
 rS:closureFor scope X.env=pure cl
 kind:scope.kind=.function
 zt:∀y∈scope.names,y.2≠.cell
 names:∀y∈scope.names,y.2=.local→scope.names.lookup y.1=some .local
 sub:∀p∈cl,X.env.cells.lookup p.1=some p.2
 has:∀y,((relabel scope X.env).names.lookup y=some .cell∨(relabel scope X.env).names.lookup y=some .free)→∃c,cl.lookup y=some c
 n0:N[0]?=some x
 n1:N[1]?=some y
 nd:N.Nodup
 hx:scope.names.lookup x=some .local
 hy:scope.names.lookup y=some .local
 rW:∀(σ:St) (j:Nat) (v:V),(ρ σ)[j]?=some (some v)→∃(i:Nat) (y:Str),N[j+1+1]?=some y∧X.N[i]?=some y∧σ[i]?=some (some v)∧oh X.env.scope y∧(X.env.kindOf y=some .cell∨X.env.kindOf y=some .free)∧((relabel scope X.env).names.lookup y=some .cell∨(relabel scope X.env).names.lookup y=some .free)
 len:∀σ:St,σ.length=X.N.length→(ρ σ).length+1+1=N.length
theorem si(is:List Nat)(h1:closureFor scope X.env=pure cl)(h:Cb X scope N.tail.tail is:=by repeat' first | exact True.intro | refine And.intro ⟨rfl,Or.inr (Or.inl rfl),.inl rfl,.inl rfl⟩ ?_)(h2:scope.kind=.function:=by rfl)(h3:∀y∈scope.names,y.2≠.cell:=by decide +kernel)(h4:∀y∈scope.names,y.2=.local→scope.names.lookup y.1=some .local:=by decide +kernel)(h5:∀p∈cl,X.env.cells.lookup p.1=some p.2:=by repeat' first | exact Bq _ | refine pE.mpr ⟨rfl,?_⟩)(h6:((relabel scope X.env).names.all fun q=>(q.2 != .cell && q.2 != .free) || (cl.lookup q.1).isSome)=true:=by rfl)(h7:N[0]?=some x:=by rfl)(Vz:N[1]?=some y:=by rfl)(h8:N.Nodup:=by decide +kernel)(h9:scope.names.lookup x=some .local:=by rfl)(VA:scope.names.lookup y=some .local:=by rfl)(hr:∀σ:St,ρ σ=is.map fun i=>σ[i]?.join:=by exact fun _=>rfl)(hl:is.length+1+1=N.length:=by rfl):Gu X N scope cl x y ρ:=
 ⟨h1,h2,h3,h4,h5,L9 h6,h7,Vz,h8,h9,VA,fun σ j v e=>by rw [hr] at e;rw [←List.getElem?_tail,←List.getElem?_tail];exact Gh h σ j v e,fun σ _=>by rw [hr,bL];exact hl⟩
theorem vv(B:Gu X N scope cl x y ρ)(hc:X.calm=true)(hi:PI X (.Tuple [.Name x px,.Name y py] lS tp) iter wi)(ht:∀s₃ H₃ fp,kK (X.bK N scope cl s₃ H₃ fp) ifs tt)(he:∀s₃ H₃ fp,PE (X.bK N scope cl s₃ H₃ fp) elt te)
  (hs:∀x,foldedSetIterable iter X.env x=pure x:=by intro _;rfl):PE X (.ListComp elt [⟨.Tuple [.Name x px,.Name y py] lS tp,iter,ifs,0⟩] scope pos) (vt X.K wi ρ tt te):=by
 intro pins s σ H Q I h
 rw [eval_ListComp]
 refine yH (use:=none) rfl hs B.rS B.kind B.names (aV (hi pins s σ H _ I h) fun v s1 h1=>aV h1 fun rj s2 h2=>?_)
 obtain ⟨it,fp,tn,J,H2,rfl,I2,T,fY,f2,q2⟩:=h2
 have nD:H2 s2.heap.objs.size=none:=I2.aN.fresh (aH _)
 obtain ⟨W,⟨m0,w0⟩,turn⟩:=q2 _ nD
 refine uR (Br B.zt (by intro y hy;simp at hy) (fun h₁ gf gJ=>?_) B.kind)
 dsimp only at gf gJ ⊢
 generalize hD:s2.heap.objs.size=D at nD w0 turn gf gJ ⊢
 generalize fJ:({s2 with heap:=s2.heap.push {cls:=.type "list",dict:=none,data:=.seq ([]:List Value).toArray}}:Shared)=s3
 have I3:Inv X pins σ (upd H2 D (.lst [])) s3:=by
  subst hD fJ
  exact I2.laid (t':=s2.toks) (fun b u e=>dA _ e) (aH _) ⟨eJ _,[],_,.nil,gR _ rfl⟩
 have e3:s3.heap=s2.heap.push {cls:=.type "list",dict:=none,data:=.seq ([]:List Value).toArray}:=by rw [←fJ]
 have e9:∀b o,s2.heap.get? b=some o→s3.heap.get? b=some o:=fun b o e=>by rw [e3];exact dA _ e
 rw [←e3] at gf gJ ⊢
 have below:∀b o,s3.heap.get? b=some o→b≠s3.heap.objs.size:=fun b o e=>ft (bV e)
 have du:∀b o,s3.heap.get? b=some o→h₁.get? b=some o:=fun b o e=>gJ.extBut b o (below b o e) (dA _ e)
 have gu:∀b∈fp,∃o,s2.heap.get? b=some o∧∀v,o.data≠.cell v:=T.obj _ _ fY
 have oC:∀b∈fp,b≠D:=fun b hb z=>by
  obtain ⟨o,e,_⟩:=gu b hb
  rw [z,←hD] at e
  exact absurd (bV e) (gz _)
 have cX:∀y c,cl.lookup y=some c→X.env.cells.lookup y=some c:=fun y c e=>B.sub (y,c) (kl e)
 have oE:=I3.q_
 have eR:(X.bK N scope cl s3 (upd H2 D (.lst [])) fp).Ok:=by
  refine ⟨I.ok.mod,B.kind,I.ok.glob,I.ok.blt,aH _,fun a b c e1 e2=>I.ok.inj a b c (cX a c e1) (cX b c e2),fun y hy=>B.has y hy,(fun _ _ z _=>absurd z dB),(fun _=>I.ok.hd hc),I.ok.frames,.inl rfl,fun b hb=>⟨?_,fun y c e z=>?_⟩,fun b o e=>?_,aq I.ok.ig I3.sz,fun b o e hb=>?_,fun b hb z=>?_,I3.stack,oE⟩
  ·obtain ⟨o,e,_⟩:=gu b hb
   exact below b o (e9 b o e)
  ·exact (f2 b hb).2.2.2.2.1 y c (cX y c e) z
  ·exact I3.bs b o e
  ·rcases (f2 b hb).2.2.2.1 with z | z
   ·exact I.ok.oi b o e z
   ·exact absurd (dy (bV e) (aq I.ok.ig z)) (gz _)
  ·rcases eY.mp (I3.q8 b z) with z | z
   ·exact (f2 b hb).2.1 z
   ·exact (f2 b hb).2.2.1 z
 have IB:∀tk:Nat,Inv (X.bK N scope cl s3 (upd H2 D (.lst [])) fp) [] (none::none::ρ σ) (upd H2 D (.lst [])) {s3 with heap:=h₁,toks:=tk}:=fun tk=>by
  refine ⟨eR,rfl,I3.bare,Un.kept du,⟨_,gf,fun j y v e1 e2 e3=>?_⟩,fun y c e=>?_,?_,fun y c e=>I3.ja y c (cX y c e),(fun p hp=>nomatch hp),I3.aN.kept du,?_⟩
  ·cases j with
   | zero=>cases e2
   | succ j=>
   cases j with
   | zero=>cases e2
   | succ j=>
    obtain ⟨i,y',a1,a2,a3,a4,a5,a6⟩:=B.rW σ j v e2
    have jN:N[j+1+1]?=some y:=e1
    rw [jN] at a1
    cases a1
    obtain ⟨m,hn,hl⟩:=I3.loc
    obtain ⟨u,r,l⟩:=hl i y v a2 a3 a4
    refine ⟨u,r,.inr ⟨a6,?_⟩⟩
    obtain ⟨c,ec⟩:=B.has y a6
    rcases l with ⟨k,_⟩ | ⟨_,c',jf,z⟩
    ·rcases a5 with q | q <;> (rw [k] at q;cases q)
    ·have:=cX y c ec
     rw [this] at jf
     cases jf
     obtain ⟨o,ho,hd⟩:=z
     exact ⟨c,ec,o,du _ _ ho,hd⟩
  ·obtain ⟨v,o,ho,hd⟩:=I3.cell y c (cX y c e)
   exact ⟨v,o,du _ _ ho,hd⟩
  ·exact I3.aN.fresh (aH _)
  ·show (none::none::ρ σ).length=N.length
   rw [cS,cS]
   exact B.len σ I.len
 have fin:∀{σ':St} {H':Hp} {s':Shared},Inv (X.bK N scope cl s3 (upd H2 D (.lst [])) fp) [] σ' H' s'→Q (.ref D) H'→compPost (model X.prog X.w) X.A X.xe none (EP X pins σ Q) (.ref D) s3.heap.objs.size (.ok .next) s':=fun{σ' H' s'} J q=>by
  obtain ⟨m,hn,_⟩:=J.loc
  refine ⟨m,hn,fun h' dR=>⟨.ref D,H',?_,rfl,q⟩⟩
  have old:∀b o,s3.heap.get? b=some o→b≠s3.heap.objs.size:=below
  have u1:Un (dh X.stack) fp (upd H2 D (.lst [])) H' s3.heap h':=by
   refine ⟨fun b o e n hb hx=>?_,fun b o e n hb hx=>?_,J.base.free,fun b o e hx=>?_,J.base.ic,J.base.gZ,J.base.ie⟩
   ·exact (dR.2 b (old b o e)).trans (J.base.keep b o e n hb hx)
   ·obtain ⟨sl,z⟩:=J.base.slot b o e n hb hx
    exact ⟨sl,(dR.2 b (old b o e)).trans z⟩
   ·obtain ⟨o',z⟩:=J.base.there b o e hx
    exact ⟨o',(dR.2 b (old b o e)).trans z⟩
  have oF:dC X.prog X.w H' h':=fun b u e=>by
   refine (J.aN b u e).jD (fun c v hc z=>(dR.2 c fun y=>?_).trans z) (fun _ z=>z) fun _ _ z=>z
   have fr:=J.free
   have y':c=s3.heap.objs.size:=y
   rcases hc with hc | hc
   ·rw [←hc,y'] at e
    exact absurd (fr.symm.trans e) (by simp)
   ·rw [y'] at hc
    exact absurd (fr.symm.trans hc) (by simp)
  refine I3.oq (s':={s' with heap:=h'}) (ch:=fp) (J.os) u1 oF J.bare fun b hb=>?_
  obtain ⟨g0,g1,g2,g3,g4,g5⟩:=f2 b hb
  exact ⟨g3,g1,g4,g5⟩
 have fE:∀{H':Hp},(∀b∈fp,H' b=none)→∀b∈fp,lj (X.bK N scope cl s3 (upd H2 D (.lst [])) fp) [] H' b:=fun hn b hb=>by
  refine ⟨hn b hb,?_,?_,.inl hb,fun y c e z=>(f2 b hb).2.2.2.2.1 y c (cX y c e) z,fun p hp=>nomatch hp⟩
  ·obtain ⟨o,e,_⟩:=gu b hb
   exact below b o (e9 b o e)
  ·exact eR.oj b hb
 have loop:∀tk:Nat,codeAny (model X.prog X.w) X.A (.compLoop (.ListComp elt [⟨.Tuple [.Name x px,.Name y py] lS tp,iter,ifs,0⟩] scope pos) 0 (.ref it) (.ref D) (compEnvC scope cl s3.heap.objs.size X.env))
   (compPost (model X.prog X.w) X.A X.xe none (EP X pins σ Q) (.ref D) s3.heap.objs.size) {s3 with heap:=h₁,toks:=tk}:=fun tk=>by
  refine Mt (fun n s'=>∃i ys o o2 H',Inv (X.bK N scope cl s3 (upd H2 D (.lst [])) fp) [] (o::o2::ρ σ) H' s'∧tn i s'.heap∧(∀b∈fp,H' b=none)∧W i n ys H') ?_ m0
   ⟨0,[],none,none,_,IB tk,T.keep _ _ _ fY fun b hb o e=>du _ _ (e9 _ _ e),fun b hb=>by rw [bI (oC b hb)];exact (f2 b hb).1,w0⟩
  rintro n s4 ⟨i,ys,o,o2,H4,I4,jg,jh,w4⟩
  obtain ⟨Cc,oG⟩:=turn i n ys H4 w4
  rcases oG with ⟨stop,qn⟩ | ⟨go,step⟩
  ·refine cI (T.done (X.bK N scope cl s3 (upd H2 D (.lst [])) fp) rfl rfl rfl hc i [] s4 _ H4 (fun _ _=>False) I4 (fE jh) jg stop) (fun r s5 ⟨hr,I5⟩=>?_) fun _ _ z=>z.elim
   subst hr
   exact fin I5 qn
  ·refine cI (T.item (X.bK N scope cl s3 (upd H2 D (.lst [])) fp) rfl rfl rfl hc i [] s4 _ H4 (fun _ _=>False) I4 (fE jh) jg go) (fun r s5 ⟨u,hr,h5⟩=>?_) fun _ _ z=>z.elim
   subst hr
   refine cI h5 (fun _ s5 ⟨y0,H5,I5,r5,y5,fF,lD⟩=>?_) fun _ _ z=>z.elim
   obtain ⟨Tt,x1,x2,e0,Gv,oH⟩:=step y0 _ y5
   subst e0
   have lE:=I5.pinned (fE lD) (T.obj _ _ fF)
   have pg:PG (X.bK N scope cl s3 (upd H2 D (.lst [])) fp) (.Tuple [.Name x px,.Name y py] lS tp) (FH X.K 2 (y7 (aT 0) (y7 (aT 1) FG))):=
    y_ (X:=X.bK N scope cl s3 (upd H2 D (.lst [])) fp) hc (mM (d_ (i:=0) B.nd B.n0 (.inl (km B.hx)) (.inr (km B.hx))) (mM (d_ (i:=1) B.nd B.n1 (.inl (km B.hy)) (.inr (km B.hy))) y8))
   have again:∀{σ7:St} {H7:Hp} {s7:Shared},Inv (X.bK N scope cl s3 (upd H2 D (.lst [])) fp) ([]++jb fp s5.heap) σ7 H7 s7→Inv (X.bK N scope cl s3 (upd H2 D (.lst [])) fp) [] σ7 H7 s7∧tn (i+1) s7.heap∧∀b∈fp,H7 b=none:=fun{σ7 H7 s7} I7=>by
    refine ⟨I7.pP,T.keep _ _ _ fF fun b hb o e=>(I7.pin (b,o) (eI _ (eI _ (kF hb e)))).1,fun b hb=>?_⟩
    obtain ⟨o,e,d⟩:=T.obj _ _ fF b hb
    exact (I7.pin (b,o) (eI _ (eI _ (kF hb e)))).2.1
   refine cI (pg _ s5 _ H5 (.ref Tt) u (fun σ2 H6=>σ2=some x1::some x2::ρ σ∧H6=H5) lE r5 ⟨Tt,_,rfl,Gv,rfl,_,_,rfl,_,_,rfl,rfl,rfl,rfl⟩) (fun _ s6 ⟨σ6,H6,I6,q6⟩=>?_) fun _ _ z=>z.elim
   obtain ⟨rfl,rfl⟩:=q6
   have tests:∀{gK:TT},kK (X.bK N scope cl s3 (upd H2 D (.lst [])) fp) ifs gK→∀{R:Bool→Hp→Prop},gK (some x1::some x2::ρ σ) H6 R→wpAny (model X.prog X.w) X.A
     (forIn ifs true fun c r=>if r=true then do let ok ←isTrue c (compEnvC scope cl s3.heap.objs.size X.env) (eval c (compEnvC scope cl s3.heap.objs.size X.env));pure (ForInStep.yield ok) else pure (ForInStep.yield r))
     (fun ok s7=>∃H7,Inv (X.bK N scope cl s3 (upd H2 D (.lst [])) fp) ([]++jb fp s5.heap) (some x1::some x2::ρ σ) H7 s7∧R ok H7) (fun _ _=>False) s6:=fun{gK} p {R} hR=>by
    cases p with
    | nil=>exact yI ⟨_,I6,hR⟩
    | one p=>exact yJ (p _ s6 _ _ _ I6 hR)
   refine cI (tests (ht s3 _ fp) oH) (fun ok s7 ⟨H7,I7,q7⟩=>?_) fun _ _ z=>z.elim
   cases ok with
   | false=>
    obtain ⟨m',gv,w7⟩:=q7
    obtain ⟨a1,a2,a3⟩:=again I7
    exact ⟨m',gv,i+1,ys,_,_,H7,a1,a2,a3,w7⟩
   | true=>
    refine cI (he s3 _ fp _ s7 _ H7 _ I7 q7) (fun ev s8 ⟨z,H8,I8,r8,lK,hz,m',gv,w8⟩=>?_) fun _ _ z=>z.elim
    refine cI (mR (X:=X.bK N scope cl s3 (upd H2 D (.lst [])) fp) _ s8 _ H8 (.ref D) [z] (.ref D) [ev] (fun _ H9=>H9=upd H8 D (.lst (ys++[z]))) I8 rfl (.cons r8 .nil) ⟨D,ys,z,rfl,rfl,lK,hz,rfl⟩) (fun _ s9 ⟨_,H9,I9,_,q9⟩=>?_) fun _ _ z=>z.elim
    subst q9
    obtain ⟨a1,a2,a3⟩:=again I9
    exact ⟨m',gv,i+1,ys++[z],_,_,_,a1,a2,a3,w8⟩
 have start:=loop (s3.toks+([]:List (Str×Value)).length)
 have es:({s3 with heap:=h₁,toks:=s3.toks+([]:List (Str×Value)).length}:Shared)={s2 with heap:=h₁,toks:=s2.toks+([]:List (Str×Value)).length}:=by rw [←fJ]
 rw [es] at start
 exact yK start (T.self _ 0 _ _ _ (T.keep _ _ _ fY fun b hb o e=>du _ _ (e9 _ _ e)) start)
end
section
variable {X:Cx}
def anyR(K:aJ):List V→Hp→VK→Prop:=fun xs H Q=>∃(p:Addr) (bs:List Bool),xs=[.ref p]∧bP K H p (bs.map V.bl)∧Q (.bl (bs.any id)) H
theorem VB(hc:X.calm=true)(hK:X.K=K:=by rfl):jc X (.builtin "any") (anyR K):=by
 intro pins s σ H xs us Q I r h;subst hK;obtain ⟨p,bs,rfl,hq,q⟩:=h;obtain ⟨u,rfl,ru⟩:=vals1 r;cases ru;obtain ⟨av,rv,pl,hz⟩:=I.list hq;have fh:p≠s.heap.objs.size:=by obtain ⟨o,e,_⟩:=pl.isList;exact ft (bV e)
 have hl:av.length=bs.length:=by rw [←rv.length,bL]
 refine call_any_walk (Bj pl.isList ?_);refine ⟨s.heap.objs.size,_,_,_,_,_,fun i=>bs.getD i false,rfl,Walks.list (A:=X.A.in1) (show X.A.in1.handled=none from I.ok.hd hc) s.heap.objs.size p fh av.toArray,⟨⟨_,gR _ rfl,rfl,rfl⟩,pl.isList.push _⟩,fun i v s' Q' E' hv oz=>?_,fun h' tk hk=>?_⟩
 ·have fH:av[i]?=some v:=by simpa using hv
  cases eb:bs[i]? with
  | none=>
   have:=rv.none_of (i:=i) (by rw [cF,eb];rfl)
   rw [this] at fH;cases fH
  | some b=>
   obtain ⟨u,hu,ru⟩:=rv.get (i:=i) (x:=V.bl b) (by rw [cF,eb];rfl)
   rw [hu] at fH;cases fH;cases ru;have e:bs.getD i false=b:=by rw [cu,eb];rfl
   have kP:Q' (bs.getD i false) s':=oz;rw [e] at kP;exact nQ kP
 ·refine ⟨.bl (bs.any id),H,I.kept fun b o e=>hk b o (fun z=>?_) (dA _ e),?_,q⟩
  ·exact absurd (bV e) (by rw [i8.mp z];exact gz _)
  ·show Value.bool _=Value.bool _
   congr 1
   rw [d7,hl];clear hk q rv pl hz hl hq
   induction bs with
   | nil=>rfl
   | cons b bs ih=>rw [cS,Fl,List.any_cons,List.any_map,List.any_cons];show (b || (List.range bs.length).any fun i=>bs.getD i false)=(b || bs.any id);rw [ih]
def VC(K:aJ):List V→Hp→VK→Prop:=fun xs H Q=>∃(p:Addr) (ns:List Int),xs=[.ref p]∧bP K H p (ns.map V.int)∧Q (.int ns.sum) H
theorem VD:∀(ns:List Int),preSum (fun i=>ns.getD i 0) ns.length=ns.sum:=by
 intro ns;have key:∀k,k≤ns.length→preSum (fun i=>ns.getD i 0) k=(ns.take k).sum:=by
  intro k
  induction k with
  | zero=>intro _;rfl
  | succ k ih=>
   intro hk;show preSum (fun i=>ns.getD i 0) k+ns.getD k 0=_;rw [ih (by lia),List.take_add_one,List.sum_append]
   have e:ns[k]?=some ns[k]:=by simp [show k<ns.length by lia]
   rw [cu,e];simp
 rw [key ns.length (aH _),Bw]
theorem VE(hc:X.calm=true)(hK:X.K=K:=by rfl):jc X (.builtin "sum") (VC K):=by
 intro pins s σ H xs us Q I r h;subst hK;obtain ⟨p,ns,rfl,hq,q⟩:=h;obtain ⟨u,rfl,ru⟩:=vals1 r;cases ru;obtain ⟨av,rv,pl,hz⟩:=I.list hq;have fh:p≠s.heap.objs.size:=by obtain ⟨o,e,_⟩:=pl.isList;exact ft (bV e)
 have hl:av.length=ns.length:=by rw [←rv.length,bL]
 refine call_sum_walkG (Bj pl.isList ?_);refine ⟨s.heap.objs.size,_,_,_,_,_,fun i=>ns.getD i 0,rfl,Walks.list (A:=X.A.in1) (show X.A.in1.handled=none from I.ok.hd hc) s.heap.objs.size p fh av.toArray,⟨⟨_,gR _ rfl,rfl,rfl⟩,pl.isList.push _⟩,?_,fun i v hv=>?_,fun h' tk t' hk=>?_⟩
 ·intro b hb
  rw [yE];simp only [eY,qT,or_false] at hb;rcases hb with rfl | rfl;·exact uT _
  ·obtain ⟨o,e,_⟩:=pl.isList
   exact yR (bV e)
 ·have fH:av[i]?=some v:=by simpa using hv
  cases eb:ns[i]? with
  | none=>
   have:=rv.none_of (i:=i) (by rw [cF,eb];rfl)
   rw [this] at fH;cases fH
  | some b=>
   obtain ⟨u,hu,ru⟩:=rv.get (i:=i) (x:=V.int b) (by rw [cF,eb];rfl)
   rw [hu] at fH;cases fH;obtain ⟨t,rfl⟩:=ru;exact ⟨t,by show Value.int b t=Value.int (ns.getD i 0) t;rw [cu,eb];rfl⟩
 ·refine ⟨.int ns.sum,H,I.kept fun b o e=>hk b o (fun z=>?_) (dA _ e),⟨t',?_⟩,q⟩
  ·exact absurd (bV e) (by rw [i8.mp z];exact gz _)
  ·congr 1
   rw [d7,hl];exact VD ns
end
theorem boot_any:bootBuiltins "any"=some (.builtin "any"):=by decide +kernel
theorem boot_sum:bootBuiltins "sum"=some (.builtin "sum"):=by decide +kernel
abbrev Cx.iZ (X:Cx) (N:List Str) (scope:Scope) (cl:List (Str×Addr)) (x:Str) (s₃:Shared) (H₃:Hp) (fp:List Addr):Cx:=
 {X with N:=N,s₀:=s₃,H₀:=H₃,env:=compEnvC scope ((x,s₃.heap.objs.size+1)::cl) s₃.heap.objs.size X.env,outer:=X.stack,stack:=X.stack,ex:=fp,fn:=fun y=>y == x,pn:=[],xe:=fun _ _=>False}
section
variable {M:Model} {A:Around} {E:cO} {s:Shared}
theorem VF{scope:Scope}{globals:Addr}{cl:List (Str×Addr)}{qual x:Str}{env:Env}{Q:Env→Shared→Prop}
  (c1:∀n,cellsFrom n scope.names cl=(x,n)::cl) (p1:∀h:Heap,pushCells h scope.names=h.push {cls:=.type "cell",data:=.cell none})
  (hQ:Q (newEnv scope s.heap.objs.size globals ((x,s.heap.objs.size+1)::cl) qual none .none (some env) builtinsNs) {s with heap:=(s.heap.push {cls:=.type "dict",data:=.dict #[]}).push {cls:=.type "cell",data:=.cell none}}) :
  wpAny M A (newFunctionEnv scope globals cl [] qual none .none (some env)) Q E s:=by
 simp only [newFunctionEnv,Option.isSome_some,if_true];refine cR (wpAny_alloc ?_);refine cR (wpAny_layCells _ (fun name kind cells=>by cases VG:kind == NameKind.cell <;> simp [VG]) _ _ _ _ ?_)
 rw [show ({s with heap:=s.heap.push {cls:=.type "dict",data:=.dict #[]}}:Shared).heap.objs.size=s.heap.objs.size+1 from yE ..,c1,p1];exact cR (fz (fz hQ))
end
section
variable {X:Cx} {N:List Str} {scope:Scope} {cl:List (Str×Addr)} {x:Str} {px pos:Pos} {iter elt:Expr} {ifs:List Expr} {wi:TI} {ρ:St→St} {tt:TT} {te:TE}
theorem Mu{names:List (Str×NameKind)}(h:(names.all fun q=>(q.2 != .cell && q.2 != .free) || ((cl.lookup q.1).isSome || q.1 == x))=true) :
  ∀y,y≠x→(names.lookup y=some .cell∨names.lookup y=some .free)→∃c,cl.lookup y=some c:=fun y hx hy=>by
 have key:∀k:NameKind,(k != .cell && k != .free)=false→names.lookup y=some k→∃c,cl.lookup y=some c:=fun k hk e=>by have z:=k9.mp h (y,k) (kl e);rw [hk,Bool.false_or,show ((y,k).1 == x)=false from pC.mpr hx,Bool.or_false] at z;exact Fh.mp z
 rcases hy with e | e;·exact key .cell rfl e
 ·exact key .free rfl e
structure VH (X:Cx) (N:List Str) (scope:Scope) (cl:List (Str×Addr)) (x:Str) (ρ:St→St):Prop where
 rS:closureFor scope X.env=pure cl
 kind:scope.kind=.function
 VI:∀n,cellsFrom n scope.names cl=(x,n)::cl
 VJ:∀h:Heap,pushCells h scope.names=h.push {cls:=.type "cell",data:=.cell none}
 names:∀y∈scope.names,y.2=.local→scope.names.lookup y.1=some .local
 sub:∀p∈cl,X.env.cells.lookup p.1=some p.2
 has:∀y,y≠x→((relabel scope X.env).names.lookup y=some .cell∨(relabel scope X.env).names.lookup y=some .free)→∃c,cl.lookup y=some c
 n0:N[0]?=some x
 nd:N.Nodup
 VL:(relabel scope X.env).names.lookup x=some .cell
 rW:∀(σ:St) (j:Nat) (v:V),(ρ σ)[j]?=some (some v)→∃(i:Nat) (y:Str),N[j+1]?=some y∧X.N[i]?=some y∧σ[i]?=some (some v)∧oh X.env.scope y∧(X.env.kindOf y=some .cell∨X.env.kindOf y=some .free)∧((relabel scope X.env).names.lookup y=some .cell∨(relabel scope X.env).names.lookup y=some .free)
 len:∀σ:St,σ.length=X.N.length→(ρ σ).length+1=N.length
theorem Mv(B:VH X N scope cl x ρ)(hc:X.calm=true)(hi:PI X (.Name x px) iter wi)(ht:∀s₃ H₃ fp,kK (X.iZ N scope cl x s₃ H₃ fp) ifs tt)(he:∀s₃ H₃ fp,PE (X.iZ N scope cl x s₃ H₃ fp) elt te)
  (hs:∀x,foldedSetIterable iter X.env x=pure x:=by intro _;rfl):PE X (.ListComp elt [⟨.Name x px,iter,ifs,0⟩] scope pos) (jM wi ρ tt te):=by
 intro pins s σ H Q I h
 rw [eval_ListComp]
 refine yH (use:=none) rfl hs B.rS B.kind B.names (aV (hi pins s σ H _ I h) fun v s1 h1=>aV h1 fun rj s2 h2=>?_)
 obtain ⟨it,fp,tn,J,H2,rfl,I2,T,fY,f2,q2⟩:=h2
 have nD:H2 s2.heap.objs.size=none:=I2.aN.fresh (aH _)
 obtain ⟨W,⟨m0,w0⟩,turn⟩:=q2 _ nD
 refine uR (VF B.VI B.VJ ?_)
 dsimp only
 generalize hD:s2.heap.objs.size=D at nD w0 turn ⊢
 generalize fJ:({s2 with heap:=s2.heap.push {cls:=.type "list",dict:=none,data:=.seq ([]:List Value).toArray}}:Shared)=s3
 have I3:Inv X pins σ (upd H2 D (.lst [])) s3:=by
  subst hD fJ
  exact I2.laid (t':=s2.toks) (fun b u e=>dA _ e) (aH _) ⟨eJ _,[],_,.nil,gR _ rfl⟩
 have e3:s3.heap=s2.heap.push {cls:=.type "list",dict:=none,data:=.seq ([]:List Value).toArray}:=by rw [←fJ]
 have e9:∀b o,s2.heap.get? b=some o→s3.heap.get? b=some o:=fun b o e=>by rw [e3];exact dA _ e
 rw [←e3]
 obtain ⟨h₁,eh⟩:∃h₁,h₁=(s3.heap.push {cls:=.type "dict",data:=.dict #[]}).push {cls:=.type "cell",data:=.cell none}:=⟨_,rfl⟩
 rw [←eh]
 have gf:h₁.Ns s3.heap.objs.size (fun _=>none):=by
  rw [eh]
  exact (Heap.Ns.new s3.heap (.type "dict")).keeps fun b o e=>dA _ e
 have VM:(s3.heap.push {cls:=.type "dict",data:=.dict #[]}).objs.size=s3.heap.objs.size+1:=yE ..
 have VN:h₁.IsCell (s3.heap.objs.size+1) none:=by
  rw [eh,←VM]
  exact ⟨_,gR _ rfl,rfl⟩
 have below:∀b o,s3.heap.get? b=some o→b≠s3.heap.objs.size:=fun b o e=>ft (bV e)
 have du:∀b o,s3.heap.get? b=some o→h₁.get? b=some o:=fun b o e=>by rw [eh];exact dA _ (dA _ e)
 have gu:∀b∈fp,∃o,s2.heap.get? b=some o∧∀v,o.data≠.cell v:=T.obj _ _ fY
 have oC:∀b∈fp,b≠D:=fun b hb z=>by
  obtain ⟨o,e,_⟩:=gu b hb
  rw [z,←hD] at e
  exact absurd (bV e) (gz _)
 have cX:∀y c,cl.lookup y=some c→X.env.cells.lookup y=some c:=fun y c e=>B.sub (y,c) (kl e)
 have Mw:∀y c,cl.lookup y=some c→c<s3.heap.objs.size:=fun y c e=>by
  obtain ⟨v,o,eo,_⟩:=I3.cell y c (cX y c e)
  exact bV eo
 have lk:∀y c,((x,s3.heap.objs.size+1)::cl).lookup y=some c→(y=x∧c=s3.heap.objs.size+1)∨(y≠x∧cl.lookup y=some c):=fun y c e=>by
  by_cases z:y=x
  ·subst z
   rw [Bx,beq_self_eq_true] at e
   exact .inl ⟨rfl,(Option.some.inj e).symm⟩
  ·rw [Bx,pC.mpr z] at e
   exact .inr ⟨z,e⟩
 have Mx:∀y c,y≠x→cl.lookup y=some c→((x,s3.heap.objs.size+1)::cl).lookup y=some c:=fun y c z e=>by
  rw [Bx,pC.mpr z]
  exact e
 have Mz:∀b∈fp,b<s3.heap.objs.size:=fun b hb=>by
  obtain ⟨o,e,_⟩:=gu b hb
  exact bV (e9 b o e)
 have oE:=I3.q_
 have eR:(X.iZ N scope cl x s3 (upd H2 D (.lst [])) fp).Ok:=by
  refine ⟨I.ok.mod,B.kind,I.ok.glob,I.ok.blt,aH _,fun a b c e1 e2=>?inj,fun y hy=>?has,(fun y c z e=>?qZ),(fun _=>I.ok.hd hc),I.ok.frames,.inl rfl,fun b hb=>⟨?_,fun y c e z=>?_⟩,fun b o e=>?_,aq I.ok.ig I3.sz,fun b o e hb=>?_,fun b hb z=>?_,I3.stack,oE⟩
  case inj=>
   rcases lk a c e1 with ⟨z1,VO⟩ | ⟨_,f1⟩ <;> rcases lk b _ e2 with ⟨z2,ec⟩ | ⟨_,MA⟩
   ·rw [z1,z2]
   ·have:=Mw _ _ MA
    rw [VO] at this
    exact absurd this (Nat.not_lt.mpr (kj _))
   ·have:=Mw _ _ f1
    rw [ec] at this
    exact absurd this (Nat.not_lt.mpr (kj _))
   ·exact I.ok.inj a b c (cX a c f1) (cX b c MA)
  case has=>
   by_cases z:y=x
   ·subst z
    exact ⟨_,by rw [show (compEnvC scope ((y,s3.heap.objs.size+1)::cl) s3.heap.objs.size X.env).cells=(y,s3.heap.objs.size+1)::cl from rfl,Bx,beq_self_eq_true]⟩
   ·obtain ⟨c,ec⟩:=B.has y z hy
    exact ⟨c,Mx y c z ec⟩
  case qZ=>
   have z:y=x:=by simpa using z
   rcases lk y c e with ⟨_,rfl⟩ | ⟨z',_⟩
   ·exact kj _
   ·exact absurd z z'
  ·obtain ⟨o,e,_⟩:=gu b hb
   exact below b o (e9 b o e)
  ·rcases lk y c e with ⟨rfl,rfl⟩ | ⟨_,e⟩
   ·rw [←z] at hb
    exact absurd (Mz _ hb) (Nat.not_lt.mpr (kj _))
   ·exact (f2 b hb).2.2.2.2.1 y c (cX y c e) z
  ·exact I3.bs b o e
  ·rcases (f2 b hb).2.2.2.1 with z | z
   ·exact I.ok.oi b o e z
   ·exact absurd (dy (bV e) (aq I.ok.ig z)) (gz _)
  ·rcases eY.mp (I3.q8 b z) with z | z
   ·exact (f2 b hb).2.1 z
   ·exact (f2 b hb).2.2.1 z
 have IB:∀tk:Nat,Inv (X.iZ N scope cl x s3 (upd H2 D (.lst [])) fp) [] (none::ρ σ) (upd H2 D (.lst [])) {s3 with heap:=h₁,toks:=tk}:=fun tk=>by
  refine ⟨eR,rfl,I3.bare,Un.kept du,⟨_,gf,fun j y v e1 e2 e3=>?_⟩,fun y c e=>?_,?_,fun y c e=>?fC,(fun p hp=>nomatch hp),I3.aN.kept du,?_⟩
  ·cases j with
   | zero=>cases e2
   | succ j=>
    obtain ⟨i,y',a1,a2,a3,a4,a5,a6⟩:=B.rW σ j v e2
    have jN:N[j+1]?=some y:=e1
    rw [jN] at a1
    cases a1
    obtain ⟨m,hn,hl⟩:=I3.loc
    obtain ⟨u,r,l⟩:=hl i y v a2 a3 a4
    refine ⟨u,r,.inr ⟨a6,?_⟩⟩
    have yx:y≠x:=fun z=>by
     have n0:=B.n0
     rw [←z] at n0
     have:=(List.getElem?_inj (aP.mp n0).1 B.nd).mp (n0.trans jN.symm)
     lia
    obtain ⟨c,ec⟩:=B.has y yx a6
    rcases l with ⟨k,_⟩ | ⟨_,c',jf,z⟩
    ·rcases a5 with q | q <;> (rw [k] at q;cases q)
    ·have:=cX y c ec
     rw [this] at jf
     cases jf
     obtain ⟨o,ho,hd⟩:=z
     exact ⟨c,Mx y c yx ec,o,du _ _ ho,hd⟩
  case fC=>
   rcases lk y c e with ⟨rfl,rfl⟩ | ⟨_,e⟩
   ·exact I3.aN.fresh (kj _)
   ·exact I3.ja y c (cX y c e)
  ·rcases lk y c e with ⟨rfl,rfl⟩ | ⟨_,e⟩
   ·exact ⟨none,VN⟩
   ·obtain ⟨v,o,ho,hd⟩:=I3.cell y c (cX y c e)
    exact ⟨v,o,du _ _ ho,hd⟩
  ·exact I3.aN.fresh (aH _)
  ·show (none::ρ σ).length=N.length
   rw [cS]
   exact B.len σ I.len
 have fin:∀{σ':St} {H':Hp} {s':Shared},Inv (X.iZ N scope cl x s3 (upd H2 D (.lst [])) fp) [] σ' H' s'→Q (.ref D) H'→compPost (model X.prog X.w) X.A X.xe none (EP X pins σ Q) (.ref D) s3.heap.objs.size (.ok .next) s':=fun{σ' H' s'} J q=>by
  obtain ⟨m,hn,_⟩:=J.loc
  refine ⟨m,hn,fun h' dR=>⟨.ref D,H',?_,rfl,q⟩⟩
  have old:∀b o,s3.heap.get? b=some o→b≠s3.heap.objs.size:=below
  have u1:Un (dh X.stack) fp (upd H2 D (.lst [])) H' s3.heap h':=by
   refine ⟨fun b o e n hb hx=>?_,fun b o e n hb hx=>?_,J.base.free,fun b o e hx=>?_,J.base.ic,J.base.gZ,J.base.ie⟩
   ·exact (dR.2 b (old b o e)).trans (J.base.keep b o e n hb hx)
   ·obtain ⟨sl,z⟩:=J.base.slot b o e n hb hx
    exact ⟨sl,(dR.2 b (old b o e)).trans z⟩
   ·obtain ⟨o',z⟩:=J.base.there b o e hx
    exact ⟨o',(dR.2 b (old b o e)).trans z⟩
  have oF:dC X.prog X.w H' h':=fun b u e=>by
   refine (J.aN b u e).jD (fun c v hc z=>(dR.2 c fun y=>?_).trans z) (fun _ z=>z) fun _ _ z=>z
   have fr:=J.free
   have y':c=s3.heap.objs.size:=y
   rcases hc with hc | hc
   ·rw [←hc,y'] at e
    exact absurd (fr.symm.trans e) (by simp)
   ·rw [y'] at hc
    exact absurd (fr.symm.trans hc) (by simp)
  refine I3.oq (s':={s' with heap:=h'}) (ch:=fp) (J.os) u1 oF J.bare fun b hb=>?_
  obtain ⟨g0,g1,g2,g3,g4,g5⟩:=f2 b hb
  exact ⟨g3,g1,g4,g5⟩
 have fE:∀{H':Hp},(∀b∈fp,H' b=none)→∀b∈fp,lj (X.iZ N scope cl x s3 (upd H2 D (.lst [])) fp) [] H' b:=fun hn b hb=>by
  refine ⟨hn b hb,?_,?_,.inl hb,fun y c e z=>?sc,fun p hp=>nomatch hp⟩
  case sc=>
   rcases lk y c e with ⟨rfl,rfl⟩ | ⟨_,e⟩
   ·rw [←z] at hb
    exact absurd (Mz _ hb) (Nat.not_lt.mpr (kj _))
   ·exact (f2 b hb).2.2.2.2.1 y c (cX y c e) z
  ·obtain ⟨o,e,_⟩:=gu b hb
   exact below b o (e9 b o e)
  ·exact eR.oj b hb
 have loop:∀tk:Nat,codeAny (model X.prog X.w) X.A (.compLoop (.ListComp elt [⟨.Name x px,iter,ifs,0⟩] scope pos) 0 (.ref it) (.ref D) (compEnvC scope ((x,s3.heap.objs.size+1)::cl) s3.heap.objs.size X.env))
   (compPost (model X.prog X.w) X.A X.xe none (EP X pins σ Q) (.ref D) s3.heap.objs.size) {s3 with heap:=h₁,toks:=tk}:=fun tk=>by
  refine Fm (fun n s'=>∃i ys o H',Inv (X.iZ N scope cl x s3 (upd H2 D (.lst [])) fp) [] (o::ρ σ) H' s'∧tn i s'.heap∧(∀b∈fp,H' b=none)∧W i n ys H') ?_ m0
   ⟨0,[],none,_,IB tk,T.keep _ _ _ fY fun b hb o e=>du _ _ (e9 _ _ e),fun b hb=>by rw [bI (oC b hb)];exact (f2 b hb).1,w0⟩
  rintro n s4 ⟨i,ys,o,H4,I4,jg,jh,w4⟩
  obtain ⟨Cc,oG⟩:=turn i n ys H4 w4
  rcases oG with ⟨stop,qn⟩ | ⟨go,step⟩
  ·refine cI (T.done (X.iZ N scope cl x s3 (upd H2 D (.lst [])) fp) rfl rfl rfl hc i [] s4 _ H4 (fun _ _=>False) I4 (fE jh) jg stop) (fun r s5 ⟨hr,I5⟩=>?_) fun _ _ z=>z.elim
   subst hr
   exact fin I5 qn
  ·refine cI (T.item (X.iZ N scope cl x s3 (upd H2 D (.lst [])) fp) rfl rfl rfl hc i [] s4 _ H4 (fun _ _=>False) I4 (fE jh) jg go) (fun r s5 ⟨u,hr,h5⟩=>?_) fun _ _ z=>z.elim
   subst hr
   have z:letOwnedTupleGo (.Name x px) (.ref it) u=pure ():=rfl
   rw [z] at h5
   show wpAny _ _ ((pure ():Sem Unit) >>= fun _=>assign (.Name x px) (compEnvC scope ((x,s3.heap.objs.size+1)::cl) s3.heap.objs.size X.env) u) _ _ s5
   refine cR (cI h5 (fun _ s5 ⟨y,H5,I5,r5,y5,fF,lD⟩=>?_) fun _ _ z=>z.elim)
   have lE:=I5.pinned (fE lD) (T.obj _ _ fF)
   have pg:PG (X.iZ N scope cl x s3 (upd H2 D (.lst [])) fp) (.Name x px) (aT 0):=d_ (i:=0) B.nd B.n0 (.inr B.VL) (.inl (by show (x == x)=true;simp))
   have again:∀{σ7:St} {H7:Hp} {s7:Shared},Inv (X.iZ N scope cl x s3 (upd H2 D (.lst [])) fp) ([]++jb fp s5.heap) σ7 H7 s7→Inv (X.iZ N scope cl x s3 (upd H2 D (.lst [])) fp) [] σ7 H7 s7∧tn (i+1) s7.heap∧∀b∈fp,H7 b=none:=fun{σ7 H7 s7} I7=>by
    refine ⟨I7.pP,T.keep _ _ _ fF fun b hb o e=>(I7.pin (b,o) (eI _ (eI _ (kF hb e)))).1,fun b hb=>?_⟩
    obtain ⟨o,e,d⟩:=T.obj _ _ fF b hb
    exact (I7.pin (b,o) (eI _ (eI _ (kF hb e)))).2.1
   refine cI (pg _ s5 _ H5 y u (fun σ2 H6=>σ2=some y::ρ σ∧H6=H5) lE r5 ⟨rfl,rfl⟩) (fun _ s6 ⟨σ6,H6,I6,q6⟩=>?_) fun _ _ z=>z.elim
   obtain ⟨rfl,rfl⟩:=q6
   have oH:=step y _ y5
   have tests:∀{gK:TT},kK (X.iZ N scope cl x s3 (upd H2 D (.lst [])) fp) ifs gK→∀{R:Bool→Hp→Prop},gK (some y::ρ σ) H6 R→wpAny (model X.prog X.w) X.A
     (forIn ifs true fun c r=>if r=true then do let ok ←isTrue c (compEnvC scope ((x,s3.heap.objs.size+1)::cl) s3.heap.objs.size X.env) (eval c (compEnvC scope ((x,s3.heap.objs.size+1)::cl) s3.heap.objs.size X.env));pure (ForInStep.yield ok) else pure (ForInStep.yield r))
     (fun ok s7=>∃H7,Inv (X.iZ N scope cl x s3 (upd H2 D (.lst [])) fp) ([]++jb fp s5.heap) (some y::ρ σ) H7 s7∧R ok H7) (fun _ _=>False) s6:=fun{gK} p {R} hR=>by
    cases p with
    | nil=>exact yI ⟨_,I6,hR⟩
    | one p=>exact yJ (p _ s6 _ _ _ I6 hR)
   refine cI (tests (ht s3 _ fp) oH) (fun ok s7 ⟨H7,I7,q7⟩=>?_) fun _ _ z=>z.elim
   cases ok with
   | false=>
    obtain ⟨m',gv,w7⟩:=q7
    obtain ⟨a1,a2,a3⟩:=again I7
    exact ⟨m',gv,i+1,ys,_,H7,a1,a2,a3,w7⟩
   | true=>
    refine cI (he s3 _ fp _ s7 _ H7 _ I7 q7) (fun ev s8 ⟨z,H8,I8,r8,lK,hz,m',gv,w8⟩=>?_) fun _ _ z=>z.elim
    refine cI (mR (X:=X.iZ N scope cl x s3 (upd H2 D (.lst [])) fp) _ s8 _ H8 (.ref D) [z] (.ref D) [ev] (fun _ H9=>H9=upd H8 D (.lst (ys++[z]))) I8 rfl (.cons r8 .nil) ⟨D,ys,z,rfl,rfl,lK,hz,rfl⟩) (fun _ s9 ⟨_,H9,I9,_,q9⟩=>?_) fun _ _ z=>z.elim
    subst q9
    obtain ⟨a1,a2,a3⟩:=again I9
    exact ⟨m',gv,i+1,ys++[z],_,_,a1,a2,a3,w8⟩
 have start:=loop s3.toks
 have es:({s3 with heap:=h₁,toks:=s3.toks}:Shared)={s2 with heap:=h₁}:=by rw [←fJ]
 rw [es] at start
 exact yK start (T.self _ 0 _ _ _ (T.keep _ _ _ fY fun b hb o e=>du _ _ (e9 _ _ e)) start)
end
def sj(K:aJ)(H:Hp):Nat→V→V→Prop
 | 0,v,u=>v=u∧f_ v=true
 | n+1,v,u=>(v=u∧f_ v=true)∨∃a b xs ys,v=.ref a∧u=.ref b∧((bP K H a xs∧bP K H b ys)∨(fX K H a xs∧fX K H b ys))∧xs.length=ys.length∧∀(j:Nat) (x y:V),xs[j]?=some x→ys[j]?=some y→sj K H n x y
theorem Cr{v:V}(h:f_ v=true):gc v v=true:=by
 cases v with
 | aY=>rfl
 | bl b=>show (b == b)=true;simp
 | int i=>show (i == i)=true;simp
 | str x=>show (x == x)=true;simp
 | _=>cases h
theorem all_range(n:Nat):(List.range n).all (fun _=>true)=true:=by simp
section
variable {X:Cx} {pins:bM} {σ:St} {H:Hp} {s:Shared}
theorem zE(I:Inv X pins σ H s):∀(n:Nat) (A:Around) (v u:V) (a b:Value),sj X.K H n v u→RelV v a→RelV u b→A.units+n<cLine→SeqAt.EqAt A s a b true
 | 0,A,v,u,a,b,h,ra,rb,hu=>by obtain ⟨rfl,hf⟩:=h;have z:=rF (A:=A) (s:=s) ra rb hf hf;rw [Cr hf] at z;exact z
 | n+1,A,v,u,a,b,h,ra,rb,hu=>by
  rcases h with ⟨rfl,hf⟩ | ⟨p,q,xs,ys,rfl,rfl,hs,hl,hi⟩
  ·have z:=rF (A:=A) (s:=s) ra rb hf hf
   rw [Cr hf] at z;exact z
  ·cases ra
   cases rb;by_cases pq:p=q
   ·subst pq
    exact SeqAt.EqAt.same _
   rcases hs with ⟨h1,h2⟩ | ⟨h1,h2⟩
   ·obtain ⟨us,r1,t1,_⟩:=I.list h1
    obtain ⟨vs,r2,t2,_⟩:=I.list h2;have l1:=r1.length;have l2:=r2.length;have z:=SeqAt.RcAt.lists (A:=A) (e:=fun _=>true) t1.isList t2.isList (by simp;lia) (by lia) (fun j z1 z2=>by
     have zF:j<us.length:=by simpa using z1
     have zG:j<vs.length:=by simpa using z2
     obtain ⟨x,ex⟩:∃x,xs[j]?=some x:=⟨xs[j],by simp [show j<xs.length by lia]⟩
     obtain ⟨y,ey⟩:∃y,ys[j]?=some y:=⟨ys[j],by simp [show j<ys.length by lia]⟩
     obtain ⟨x',ko,rx⟩:=r1.get ex;obtain ⟨y',lT,ry⟩:=r2.get ey;have e1:us.toArray[j]=x':=by simpa using (aP.mp ko).2
     have e2:vs.toArray[j]=y':=by simpa using (aP.mp lT).2
     rw [e1,e2];exact zE I n A.in1 x y x' y' (hi j x y ex ey) rx ry (by rw [pJ];lia))
    rw [all_range] at z;exact By pq z
   ·obtain ⟨us,r1,t1,_⟩:=I.tuple h1
    obtain ⟨vs,r2,t2,_⟩:=I.tuple h2;have l1:=r1.length;have l2:=r2.length;have z:=SeqAt.RcAt.tuples (A:=A) (e:=fun _=>true) t1 t2 (by lia) (fun j z1 z2=>by
     have zF:j<us.length:=by simpa using z1
     have zG:j<vs.length:=by simpa using z2
     obtain ⟨x,ex⟩:∃x,xs[j]?=some x:=⟨xs[j],by simp [show j<xs.length by lia]⟩
     obtain ⟨y,ey⟩:∃y,ys[j]?=some y:=⟨ys[j],by simp [show j<ys.length by lia]⟩
     obtain ⟨x',ko,rx⟩:=r1.get ex;obtain ⟨y',lT,ry⟩:=r2.get ey;have e1:us.toArray[j]=x':=by simpa using (aP.mp ko).2
     have e2:vs.toArray[j]=y':=by simpa using (aP.mp lT).2
     rw [e1,e2];exact zE I n A.in1 x y x' y' (hi j x y ex ey) rx ry (by rw [pJ];lia))
    have e3:(us.toArray.size == vs.toArray.size)=true:=by simp;lia
    rw [all_range,e3] at z;exact By pq z
end
section
variable {X:Cx}
def Gw(K:aJ)(n:Nat)(r:Bool):R2:=fun x y H Q=>∃a b xs ys,x=.ref a∧y=.ref b∧bP K H a xs∧bP K H b ys∧xs.length=ys.length∧(∀(j:Nat) (x y:V),xs[j]?=some x→ys[j]?=some y→sj K H n x y)∧Q (.bl r) H
variable {n:Nat}
theorem MD(hu:X.A.units+64<cLine)(hn:n<60:=by decide):cT X (compareOp .Eq) (Gw X.K n true):=by
 intro pins s σ H x y v u Q I rx ry h;obtain ⟨a,b,xs,ys,rfl,rfl,h1,h2,hl,hi,q⟩:=h;cases rx;cases ry;obtain ⟨us,r1,t1,_⟩:=I.list h1;obtain ⟨vs,r2,t2,_⟩:=I.list h2;have l1:=r1.length;have l2:=r2.length;refine SeqAt.eq_listAt (e:=fun _=>true) t1.isList t2.isList (by simp;lia) (by lia) (fun j z1 z2=>?_) ?_
 ·have zF:j<us.length:=by simpa using z1
  have zG:j<vs.length:=by simpa using z2
  obtain ⟨x,ex⟩:∃x,xs[j]?=some x:=⟨xs[j],by simp [show j<xs.length by lia]⟩
  obtain ⟨y,ey⟩:∃y,ys[j]?=some y:=⟨ys[j],by simp [show j<ys.length by lia]⟩
  obtain ⟨x',ko,rx⟩:=r1.get ex;obtain ⟨y',lT,ry⟩:=r2.get ey;have e1:us.toArray[j]=x':=by simpa using (aP.mp ko).2
  have e2:vs.toArray[j]=y':=by simpa using (aP.mp lT).2
  rw [e1,e2];exact zE I n X.A.in1 x y x' y' (hi j x y ex ey) rx ry (by rw [pJ];lia)
 ·rw [all_range]
  exact ⟨.bl true,H,I,rfl,q⟩
theorem ME(hu:X.A.units+64<cLine)(hn:n<60:=by decide):cT X (compareOp .NotEq) (Gw X.K n false):=by
 intro pins s σ H x y v u Q I rx ry h;obtain ⟨a,b,xs,ys,rfl,rfl,h1,h2,hl,hi,q⟩:=h;cases rx;cases ry;obtain ⟨us,r1,t1,_⟩:=I.list h1;obtain ⟨vs,r2,t2,_⟩:=I.list h2;have l1:=r1.length;have l2:=r2.length;refine SeqAt.RcNeAt.lists (e:=fun _=>true) t1.isList t2.isList (by simp;lia) (by lia) (fun j z1 z2=>?_) _ _ _ _ ?_
 ·have zF:j<us.length:=by simpa using z1
  have zG:j<vs.length:=by simpa using z2
  obtain ⟨x,ex⟩:∃x,xs[j]?=some x:=⟨xs[j],by simp [show j<xs.length by lia]⟩
  obtain ⟨y,ey⟩:∃y,ys[j]?=some y:=⟨ys[j],by simp [show j<ys.length by lia]⟩
  obtain ⟨x',ko,rx⟩:=r1.get ex;obtain ⟨y',lT,ry⟩:=r2.get ey;have e1:us.toArray[j]=x':=by simpa using (aP.mp ko).2
  have e2:vs.toArray[j]=y':=by simpa using (aP.mp lT).2
  rw [e1,e2];exact zE I n X.A.in1 x y x' y' (hi j x y ex ey) rx ry (by rw [pJ];lia)
 ·rw [all_range]
  exact ⟨.bl false,H,I,rfl,q⟩
end
section
variable {X:Cx} {N:List Str} {scope:Scope} {cl:List (Str×Addr)} {x:Str} {px pos:Pos} {iter elt:Expr} {ifs:List Expr} {wi:TI} {ρ:St→St} {tt:TT} {te:TE}
end
structure Cs (J:It) (zs:List (V×V)) (H1:Hp):Prop where
 go:∀i Hc,ah H1 Hc→i<zs.length→J.go i Hc
 fR:∀i Hc v H',ah H1 Hc→J.fR i Hc v H'→∃T x y,v=.ref T∧Hc T=none∧H'=upd Hc T (.tup [x,y])∧(i<zs.length→zs[i]?=some (x,y))
 stop:∀i Hc,ah H1 Hc→zs.length≤i→J.stop i Hc
variable {ys:List V}
theorem p6{b:Addr}(h1:bP K H1 a xs)(h2:bP K H1 b ys):Cs (vp K a b) (xs.zip ys) H1 where
 go:=fun i Hc s hi=>by
  have hi:i<min xs.length ys.length:=by simpa using hi
  exact ⟨xs,ys,xs[i],ys[i],s.seq h1,s.seq h2,by simp [show i<xs.length by lia],by simp [show i<ys.length by lia]⟩
 fR:=fun i Hc v H' s y=>by obtain ⟨T,x,y,nT,ev,eH,hx⟩:=y;obtain ⟨e1,e2⟩:=hx xs ys (s.seq h1) (s.seq h2);exact ⟨T,x,y,ev,nT,eH,fun _=>by rw [k_];exact ⟨e1,e2⟩⟩
 stop:=fun i Hc s hi=>by
  have hi:min xs.length ys.length≤i:=by simpa using hi
  exact ⟨xs,ys,s.seq h1,s.seq h2,by lia⟩
theorem VP{zs:List (V×V)}(gL:∀R:It→Hp→Prop,(∀J H1,ah H H1→Cs J zs H1→R J H1)→wi σ H R)(hn:zs.length<sizeLine)
  (P:Nat→V→Prop)
  (step:∀i x y,zs[i]?=some (x,y)→∀(Hc:Hp) (R:VK),ah H Hc→(∀v H3,ah Hc H3→P i v→R v H3)→te (some x::some y::ρ σ) Hc R)
  (fin:∀D vs Hc,ah H Hc→vs.length=zs.length→(∀(i:Nat) (v:V),vs[i]?=some v→P i v)→Hc D=some (.lst vs)→Q (.ref D) Hc):vt K wi ρ (fun _ H Q=>Q true H) te σ H Q:=by
 refine gL _ fun J H1 s1 js=>?_;intro D nD;refine ⟨fun i m vs Hc=>m=zs.length-i∧i≤zs.length∧Hc D=some (.lst vs)∧ah H1 Hc∧vs.length=i∧∀(j:Nat) (v:V),vs[j]?=some v→P j v,⟨_,rfl,eJ _,aA,dP (ah.refl H1) nD,rfl,fun j y e=>by simp at e⟩,?_⟩
 rintro i m vs Hc ⟨rfl,hi,eD,sH,el,hP⟩;refine ⟨eD,?_⟩;by_cases dr:i<zs.length
 ·refine .inr ⟨js.go i Hc sH dr,fun v H' hy=>?_⟩
  obtain ⟨T,x,y,ev,nT,eH,hx⟩:=js.fR i Hc v H' sH hy;subst ev eH;refine ⟨T,x,y,rfl,.of aA,?_⟩;dsimp only;rw [ak rfl];have sT:ah Hc (upd Hc T (.tup [x,y])):=fun b o e=>by rw [bI (gi e nT)];exact e
  refine step i x y (hx dr) _ _ (s1.trans (sH.trans sT)) fun w H3 s3 hp=>?_;have e3:=s3 _ _ (sT _ _ eD);refine ⟨e3,by lia,zs.length-(i+1),by lia,rfl,dr,aA,dP (sH.trans (sT.trans s3)) nD,by simp [el],fun j v' e=>?_⟩
  by_cases hj:j<i;·exact hP j v' (by rw [fD (by lia)] at e;exact e)
  ·have hj:j=i:=by have:=(aP.mp e).1;simp at this;lia
   subst hj;have e':v'=w:=by rw [fN (by lia),el,mF] at e;simpa using e.symm
   subst e';exact hp
 ·have e:i=zs.length:=by lia
  subst e;exact .inl ⟨js.stop _ Hc sH (aH _),fin D vs Hc (s1.trans sH) el hP eD⟩
theorem iu(gL:∀R:It→Hp→Prop,(∀J H1,ah H H1→mX J xs H1→R J H1)→wi σ H R)(hn:xs.length<sizeLine)
  (P:Addr→Nat→V→Hp→Prop) (mono:∀D i y H H' ys,P D i y H→H D=some (.lst ys)→(∀b o,b≠D→H b=some o→H' b=some o)→P D i y H')
  (step:∀D i x,xs[i]?=some x→∀(Hc:Hp) (R:VK),ah H Hc→(∃ys,Hc D=some (.lst ys))→(∀y H3,ah Hc H3→P D i y H3→R y H3)→te (some x::ρ σ) Hc R)
  (fin:∀D ys Hc,H D=none→ah H Hc→ys.length=xs.length→(∀(i:Nat) (y:V),ys[i]?=some y→P D i y Hc)→Hc D=some (.lst ys)→Q (.ref D) Hc):jM wi ρ (fun _ H Q=>Q true H) te σ H Q:=by
 refine gL _ fun J H1 s1 js=>?_;intro D nD;have hD:H D=none:=by
  cases e:H D with
  | none=>rfl
  | some o=>rw [s1 _ _ e] at nD;cases nD
 exact Mp (ρσ:=ρ σ) (te:=te) (Q:=Q) js nD hn (P D) (mono D) (fun i x hx Hc R sc=>step D i x hx Hc R (s1.trans sc)) (fun ys Hc sc=>fin D ys Hc hD (s1.trans sc))
theorem Gx{tb:TS}(Pv:Nat→St→Hp→Prop)(h0:Pv 0 σ H)(hl:∀i σ H,Pv i σ H→bP K H l1 xs∧bP K H l2 ys)
  (hs:∀(i:Nat) (x y:V) σ H T,(xs.zip ys)[i]?=some (x,y)→Pv i σ H→H T=none→g (.ref T) σ (upd H T (.tup [x,y])) fun σ2 H2=>tb {D with nx:=Pv (i+1),ct:=Pv (i+1),bk:=D.nx} σ2 H2) (hd:∀σ H,Pv (xs.zip ys).length σ H→D.nx σ H) :
  ∃W:Nat→Nat→St→Hp→Prop,(∃m,W 0 m σ H)∧∀i m σ H,W i m σ H→
   ((vp K l1 l2).stop i H∧D.nx σ H)∨((vp K l1 l2).go i H∧∃N:St→Hp→Prop,(∀σ' H',N σ' H'→∃m',m'<m∧W (i+1) m' σ' H')∧∀x H',(vp K l1 l2).fR i H x H'→g x σ H' fun σ2 H2=>tb {D with nx:=N,ct:=N,bk:=D.nx} σ2 H2):=by
 refine ⟨fun i m σ H=>m=(xs.zip ys).length-i∧i≤(xs.zip ys).length∧Pv i σ H,⟨(xs.zip ys).length,by simp,eJ _,h0⟩,?_⟩
 rintro i m σ H ⟨rfl,hi,p⟩;obtain ⟨q1,q2⟩:=hl i σ H p;have js:=p6 q1 q2;by_cases dr:i<(xs.zip ys).length
 ·refine .inr ⟨js.go i H (ah.refl H) dr,Pv (i+1),fun σ' H' p'=>⟨(xs.zip ys).length-(i+1),by lia,rfl,dr,p'⟩,fun v H' hy=>?_⟩
  obtain ⟨T,x,y,rfl,nT,rfl,hx⟩:=js.fR i H v H' (ah.refl H) hy;exact hs i x y σ H T (hx dr) p nT
 ·have e:i=(xs.zip ys).length:=by lia
  subst e;exact .inl ⟨js.stop _ H (ah.refl H) (aH _),hd σ H p⟩
section
variable {X:Cx} {K:aJ}
theorem p7(hK:X.K=K:=by rfl):vc X (LJ K):=by subst hK;exact bG
theorem p8(hK:X.K=K:=by rfl):vc X (LI K):=by subst hK;exact dc
def VQ(K:aJ):List V→Hp→VK→Prop:=fun xs H Q=>∃p ys,xs=[.ref p]∧(bP K H p ys∨fX K H p ys)∧Q (.int (ys.length:Int)) H
theorem VR(hK:X.K=K:=by rfl):jc X (.builtin "len") (VQ K):=by subst hK;exact dN
theorem VS{tg l:Expr}{tl:TE}(hl:PE X l tl)(hK:X.K=K:=by rfl):PI X tg l (BQ K tl):=by subst hK;exact e7 hl
def MF(K:aJ):List V→Hp→VK→Prop:=fun xs H Q=>∃p ys,xs=[.ref p]∧(bP K H p ys∨fX K H p ys)∧∀l,H l=none→Q (.ref l) (upd H l (.lst ys))
theorem Gy(hK:X.K=K:=by rfl):jc X (.type "list") (MF K):=by subst hK;exact B5
end
end L2
namespace My
open PySem L2
variable {te:TE} {σ:St} {H:Hp} {Q:VK}
theorem Gz{r:List V→Hp→VK→Prop}(h:te σ H fun x H1=>r [x] H1 Q):B0 r (rC te BZ) σ H Q:=h
variable {D:Ends}
theorem lU(h:te σ H D.rt):K3 te D σ H:=h
theorem MG{t:TA}(h:te σ H fun x H1=>t σ H1 fun xs H2=>(x::xs).length≤sizeLine∧∀p,H2 p=none→Q (.ref p) (upd H2 p (.tup (x::xs)))):Lr (rC te t) σ H Q:=h
def mZ(ts us:List Int):Int:=(List.zipWith (· * ·) ts us).sum
variable {i:Nat}
theorem VT{ts us:List Int}{x y:V}(h:((ts.map V.int).zip (us.map V.int))[i]?=some (x,y)):∃t u:Int,x=.int t∧y=.int u∧ts[i]?=some t∧us[i]?=some u:=by rw [k_] at h;obtain ⟨h1,h2⟩:=h;rw [cF] at h1 h2;obtain ⟨t,e1,e2⟩:=Option.map_eq_some_iff.mp h1;obtain ⟨u,e3,e4⟩:=Option.map_eq_some_iff.mp h2;exact ⟨t,u,e2.symm,e4.symm,e1,e3⟩
theorem p9{vs:List V}{ws:List Int}(hl:vs.length=ws.length)(h:∀(i:Nat) (v:V),vs[i]?=some v→∃w,ws[i]?=some w∧v=.int w):vs=ws.map V.int:=by
 refine List.ext_getElem? fun i=>?_;rw [cF];by_cases hi:i<vs.length
 ·obtain ⟨w,e1,e2⟩:=h i vs[i] (by simp [hi])
  rw [e1,show vs[i]?=some vs[i] by simp [hi],e2]
  rfl
 ·rw [yS (by lia),yS (by lia)]
  rfl
def MH(H0 H:Hp)(v:V)(ts:List Int)(B:Int):Prop:=∃tp l:Addr,v=.ref tp∧H tp=some (.tup [.ref l,.int B])∧H l=some (.lst (ts.map V.int))∧H0 l=none
variable {m:Int}
theorem VU{b:Int}(hb:1≤b)(hm:1≤m):1≤b / (Int.gcd b m:Int)*m∧m∣b / (Int.gcd b m:Int)*m∧b∣b / (Int.gcd b m:Int)*m∧(b / (Int.gcd b m:Int)*m).natAbs≤b.natAbs*m.natAbs:=by
 have gp:=oJ (a:=b) (b:=m) (by lia)
 obtain ⟨b',eb⟩:=nX (a:=b) (b:=m);obtain ⟨m',em⟩:=mE (a:=b) (b:=m);generalize Int.gcd b m=g at *;have g0:(g:Int)≠0:=by lia
 have gb:b / (g:Int)=b':=by rw [eb];exact iC _ g0
 rw [gb];have b0:0<b':=pV (u:=(g:Int)) (by lia) (by rw [←eb];lia)
 have mp:0<b'*m:=d6 b0 (by lia)
 refine ⟨by lia,pF ..,⟨m',?_⟩,?_⟩
 ·rw [em,eb]
  simp only [h_,d5,yP]
 ·rw [bz]
  refine d9 _ ?_;rw [←gb];exact nY ..
variable {α:Type}
theorem pick{β:Type}{xs:List α}{R:Nat→α→β→Prop}(h:∀(i:Nat) (x:α),xs[i]?=some x→∃w,R i x w):∃ws:List β,ws.length=xs.length∧∀(i:Nat) (x:α) (w:β),xs[i]?=some x→ws[i]?=some w→R i x w:=by
 refine ⟨List.ofFn fun i:Fin xs.length=>Classical.choose (h i.1 xs[i.1] (by simp)),by simp,fun i x w hx hw=>?_⟩
 have hi:i<xs.length:=(aP.mp hx).1;have ex:xs[i]=x:=(aP.mp hx).2;rw [List.getElem?_ofFn,dif_pos hi] at hw;have hw:=Option.some.inj hw;rw [←hw];have z:=Fp (h i xs[i] (by simp [hi]))
 rw [←ex];exact z
variable {q:Int}
theorem lV{b c:Int}(hq:aB q)(h1:¬q∣b)(h2:¬q∣c):¬q∣b*c:=fun h=>by
 rcases hq with rfl | ⟨q2,q3,q4⟩
 ·have z:=kn.mp h
  rcases Bz.mp z with z | z;·exact h1 (by rw [z];exact pG 0)
  ·exact h2 (by rw [z];exact pG 0)
 ·have k1:=d4 c (show q≠0 by lia)
  have k2:=d8 c (show 0<q by lia)
  have k3:c % q≠0:=fun z=>h2 (Int.dvd_of_emod_eq_zero z);have g:=Mm q2 q3 q4 (show 1≤c % q by lia) k2
  obtain ⟨w,ew⟩:=vm c q;exact h1 (Gp q2 (Vo g ⟨-w,by rw [jy];lia⟩) h)
variable {H':Hp} {v:V} {t:Int}
theorem cJ.bC{b:Int}{D:Addr}{ys:List V}(h:cJ H q v t b)(eD:H D=some (.lst ys))(k:∀b o,b≠D→H b=some o→H' b=some o):cJ H' q v t b:=by
 cases h with
 | bH e l hb h=>refine .bH (k _ _ (fun z=>?_) e) l hb h;rw [z,eD] at e;cases e
 | rem q2 h0 h1 g h=>exact .rem q2 h0 h1 g h
def p_(H:Hp)(q:Int)(a:Addr)(tb:aD):Prop:=∃vs:List V,H a=some (.lst vs)∧vs.length=tb.length∧∀(i:Nat) (v:V) (p:Int×Int),vs[i]?=some v→tb[i]?=some p→cJ H q v p.1 p.2
def bu:List (Int×Int)→List (Int×Int)→Int×Int→Int×Int
 | p::ps,r::rs,acc=>bu ps rs (acc.1*p.2*r.2+p.1*r.1*acc.2,acc.2*p.2*r.2)
 | _,_,acc=>acc
theorem MI{B C:Int}:∀{ps rs:aD} {ts us:List Int} {S:Int} {acc:Int×Int},ts.length=ps.length→us.length=rs.length→
  (∀(i:Nat) (p:Int×Int) (t:Int),ps[i]?=some p→ts[i]?=some t→t*p.2=p.1*B)→(∀(i:Nat) (p:Int×Int) (t:Int),rs[i]?=some p→us[i]?=some t→t*p.2=p.1*C)→
  S*acc.2=acc.1*(B*C)→(S+mZ ts us)*(bu ps rs acc).2=(bu ps rs acc).1*(B*C)
 | p::ps,r::rs,t::ts,u::us,S,acc,hl,oO,h1,h2,e=>by
  have a:=h1 0 p t rfl rfl;have b:=h2 0 r u rfl rfl
  have z:=MI (ps:=ps) (rs:=rs) (ts:=ts) (us:=us) (S:=S+t*u) (acc:=(acc.1*p.2*r.2+p.1*r.1*acc.2,acc.2*p.2*r.2)) (by simpa using hl) (by simpa using oO)
   (fun i q v x y=>h1 (i+1) q v (by simpa using x) (by simpa using y)) (fun i q v x y=>h2 (i+1) q v (by simpa using x) (by simpa using y)) (by dsimp only;obtain ⟨a1,a2⟩:=acc;dsimp only at e ⊢;grind)
  have d:mZ (t::ts) (u::us)=t*u+mZ ts us:=by unfold mZ;simp
  rw [d,←Int.add_assoc];exact z
 | [],rs,ts,us,S,acc,hl,oO,h1,h2,e=>by
  have:ts=[]:=BA.mp (by simpa using hl)
  subst this;have d:mZ [] us=0:=by unfold mZ;simp
  have f:bu [] rs acc=acc:=by unfold bu;rfl
  rw [d,yT,f];exact e
 | p::ps,[],ts,us,S,acc,hl,oO,h1,h2,e=>by
  have:us=[]:=BA.mp (by simpa using oO)
  subst this;have d:mZ ts []=0:=by unfold mZ;simp
  have f:bu (p::ps) [] acc=acc:=by unfold bu;rfl
  rw [d,yT,f];exact e
def aF(q:Int)(b:Int):Prop:=(q=0→1≤b)∧(q≠0→b=1)
theorem MJ{q:Int}:∀{ps rs:aD} {acc:Int×Int},(∀p∈ps,aF q p.2)→(∀p∈rs,aF q p.2)→aF q acc.2→aF q (bu ps rs acc).2
 | p::ps,r::rs,acc,h1,h2,h3=>by
  unfold bu;refine MJ (fun x hx=>h1 x (gg _ hx)) (fun x hx=>h2 x (gg _ hx)) ?_;have a:=h1 p gB;have b:=h2 r gB;refine ⟨fun z=>?_,fun z=>?_⟩
  ·have x1:=a.1 z
   have x2:=b.1 z;have x3:=h3.1 z;have:=d6 (d6 (show 0<acc.2 by lia) (show 0<p.2 by lia)) (show 0<r.2 by lia)
   dsimp only;lia
  ·dsimp only
   rw [h3.2 z,a.2 z,b.2 z];rfl
 | [],rs,acc,h1,h2,h3=>by rw [show bu [] rs acc=acc by unfold bu;rfl];exact h3
 | p::ps,[],acc,h1,h2,h3=>by rw [show bu (p::ps) [] acc=acc by unfold bu;rfl];exact h3
variable {B:Nat} {x:Int}
theorem bZ.bot(h:bZ B H q v x m)(hq:aB q):aF q m:=by
 cases h with
 | bH e l bx bm=>exact ⟨fun _=>l.pos,fun z=>absurd rfl z⟩
 | rem h0 h1 h2=>exact ⟨fun _=>by lia,fun _=>rfl⟩
theorem VV{c:TT}{t u:TS}(h:c σ H fun b H1=>if b=true then t D σ H1 else u D σ H1):u7 c t u D σ H:=h
theorem VW{Q:Bool→Hp→Prop}(h:te σ H fun x H1=>∃c,x=.bl c∧Q c H1):tB te σ H Q:=h
theorem MK{vs:List V}{b:Bool}(h:∀(i:Nat) (v:V),vs[i]?=some v→v=.bl b):vs=(List.replicate vs.length b).map V.bl:=by
 refine List.ext_getElem? fun i=>?_;rw [cF];by_cases hi:i<vs.length
 ·rw [show vs[i]?=some vs[i] by simp [hi],h i vs[i] (by simp [hi])]
  simp [hi]
 ·rw [yS (by lia),yS (by simp;lia)]
  rfl
theorem VX(n:Nat):(List.replicate n false).any id=false:=by simp
theorem VY(n:Nat):(List.replicate n true).all id=true:=by simp
theorem ML:∀(ps rs:aD) (i:Nat) (acc:Int×Int) (p r:Int×Int),ps[i]?=some p→rs[i]?=some r→
  bu (ps.take (i+1)) (rs.take (i+1)) acc=((bu (ps.take i) (rs.take i) acc).1*p.2*r.2+p.1*r.1*(bu (ps.take i) (rs.take i) acc).2,(bu (ps.take i) (rs.take i) acc).2*p.2*r.2)
 | x::ps,y::rs,0,acc,p,r,h1,h2=>by cases h1;cases h2;simp [bu]
 | x::ps,y::rs,i+1,acc,p,r,h1,h2=>by
  have z:=ML ps rs i (acc.1*x.2*y.2+x.1*y.1*acc.2,acc.2*x.2*y.2) p r (by simpa using h1) (by simpa using h2)
  simp only [List.take_succ_cons,bu];exact z
 | [],rs,i,acc,p,r,h1,h2=>by simp at h1
 | x::ps,[],i,acc,p,r,h1,h2=>by simp at h2
theorem VZ(ps rs:aD)(acc:Int×Int)(n:Nat)(h:min ps.length rs.length≤n):bu (ps.take n) (rs.take n) acc=bu ps rs acc:=by
 induction ps generalizing rs acc n with
 | nil=>simp [bu]
 | cons p ps ih=>
  cases rs with
  | nil=>simp [bu]
  | cons r rs=>
   cases n with
   | zero=>simp at h
   | succ n=>simp only [List.take_succ_cons,bu];exact ih rs _ n (by simp at h;lia)
theorem sk{r:R2}{ta tb:TE}(h:ta σ H fun x H1=>tb σ H1 fun y H2=>r x y H2 Q):lF r ta tb σ H Q:=h
def V0:Sp:=fun vs H Q _=>∃(q:Int) (a:Addr) (tb:aD) (n:Int),vs=[.int q,.ref a,.int n]∧p_ H q a tb∧(tb.length:Int)=n∧tb.length≤40∧(∀p∈tb,cC p.2)∧∀H',ah H H'→Q (.bl true) H'
theorem V3{b:Int}(h:cJ H q v t b)(bb:cC b):Thing H v:=by
 cases h with
 | bH e l hb h=>exact UP e (.int _) (.int _) (fun i e=>by have e:=V.int.inj e;rw [←e];exact dq (p4 l hb h).2 bb)
 | rem q2 h0 h1 g h=>exact UO
variable {n:Nat}
theorem oP(h:((List.range n).map fun i:Nat=>V.int (0+(i:Int)))[i]?=some v):i<n∧v=.int (i:Int):=by
 have a_:i<n:=by have:=(aP.mp h).1;simpa using this
 refine ⟨a_,?_⟩;rw [cF] at h;simp [a_] at h;exact h.symm
theorem none_of{b:Addr}(s:ah H H')(h:H' b=none):H b=none:=by
 cases e:H b with
 | none=>rfl
 | some o=>rw [s _ _ e] at h;cases h
variable {K:aJ} {t' b':Int}
theorem zH{u:V}{b:Int}(hv:cJ H q v t b)(hu:cJ H q u t' b')(e:t*b'=t'*b)(n:Nat):sj K H (n+1) v u:=by
 rcases Vt hv hu e with ⟨p,p',x,m,rfl,rfl,e1,e2⟩ | ⟨i,rfl,rfl⟩
 ·refine .inr ⟨p,p',_,_,rfl,rfl,.inr ⟨.of e1,.of e2⟩,rfl,fun j x y h1 h2=>?_⟩
  rw [h1] at h2;cases h2;have hf:f_ x=true:=by
   match j,h1 with
   | 0,h1=>cases h1;rfl
   | 1,h1=>cases h1;rfl
   | j+2,h1=>cases h1
  cases n with
  | zero=>exact ⟨rfl,hf⟩
  | succ n=>exact .inl ⟨rfl,hf⟩
 ·exact .inl ⟨rfl,rfl⟩
theorem zI{t:TA}(h:te σ H fun x H1=>t σ H1 fun xs H2=>(x::xs).length≤sizeLine∧∀p,H2 p=none→Q (.ref p) (upd H2 p (.lst (x::xs)))):Ls (rC te t) σ H Q:=h
def lX(H:Hp)(q:Int)(r:Addr)(M:Nat)(g:Nat→Int×Int):Prop:=∃ws:List V,H r=some (.lst ws)∧ws.length=M∧∀(j:Nat) (w:V),ws[j]?=some w→cJ H q w (g j).1 (g j).2
variable {r:Addr} {M:Nat} {g:Nat→Int×Int}
theorem lX.mono(h:lX H q r M g)(s:ah H H'):lX H' q r M g:=by obtain ⟨ws,e,l,k⟩:=h;exact ⟨ws,s _ _ e,l,fun j w hw=>(k j w hw).mono s⟩
theorem lX.bC{D:Addr}{zs:List V}(h:lX H q r M g)(n:r≠D)(eD:H D=some (.lst zs))(k:∀b o,b≠D→H b=some o→H' b=some o):lX H' q r M g:=by obtain ⟨ws,e,l,f⟩:=h;exact ⟨ws,k _ _ n e,l,fun j w hw=>(f j w hw).bC eD k⟩
def zJ(H0 H:Hp)(q:Int)(a:Addr)(N M:Nat)(f:Nat→Nat→Int×Int):Prop:=∃vs:List V,H a=some (.lst vs)∧vs.length=N∧∀(i:Nat) (v:V),vs[i]?=some v→∃r:Addr,v=.ref r∧r≠a∧H0 r=none∧lX H q r M (f i)
def oQ(x y:Int×Int):Int×Int:=(x.1*y.1,x.2*y.2)
def o1:Int×Int:=(0,1)
def cellOf(aa af:aG)(k u i j:Nat):Int×Int:=oQ ((aa.getD (i / k) []).getD (j / u) o1) ((af.getD (i % k) []).getD (j % u) o1)
theorem getD_at{α:Type}{xs:List α}{d:α}(hi:i<xs.length):xs.getD i d=xs[i]:=by
 rw [cu,show xs[i]?=some xs[i] by simp [hi]]
 rfl
variable {k:Nat}
theorem iJ(h:i<n*k):i / k<n:=Nat.div_lt_of_lt_mul (by rw [iT];exact h)
theorem gN(h:i<n*k):i % k<k:=Nat.mod_lt _ (by
 rcases Nat.eq_zero_or_pos k with z | z;·rw [z,Nat.mul_zero] at h;lia
 ·exact z)
variable {c j:Nat}
theorem lY(h:j<k):(c*k+j) / k=c:=by rw [iT,Nat.mul_add_div (by lia),Nat.div_eq_of_lt h,Nat.add_zero]
theorem m4(h:j<k):(c*k+j) % k=j:=by rw [iT,Nat.mul_add_mod,Nat.mod_eq_of_lt h]
theorem Ct(h:te σ H fun _ H1=>D.nx σ H1):K0 te D σ H:=h
def V4(H:Hp)(q:Int)(a:Addr)(ps:aD):Prop:=∃vs:List V,H a=some (.lst vs)∧vs.length=ps.length∧∀(i:Nat) (v:V) (p:Int×Int),vs[i]?=some v→ps[i]?=some p→bZ (10 ^ 60) H q v p.1 p.2
def aO(q:Int)(p t:Int×Int):Prop:=q∣p.1*t.2-t.1*p.2
theorem aO.refl(p:Int×Int):aO q p p:=⟨0,by rw [Int.sub_self,bU]⟩
variable {p:Int×Int}
theorem aO.symm{t:Int×Int}(h:aO q p t):aO q t p:=by obtain ⟨k,e⟩:=h;exact ⟨-k,by rw [jy];lia⟩
theorem aO.cancel{b:Int}(ok:aF q b)(h:q∣b*x):q∣x:=by
 by_cases z:q=0
 ·subst z
  have h0:=kn.mp h;have b1:=ok.1 rfl;rcases Bz.mp h0 with e | e;·lia
  ·rw [e];exact pG 0
 ·rw [ok.2 z,mG] at h
  exact h
theorem aO.trans{t s:Int×Int}(h1:aO q p t)(h2:aO q t s)(ok:aF q t.2):aO q p s:=by obtain ⟨k1,e1⟩:=h1;obtain ⟨k2,e2⟩:=h2;refine aO.cancel ok ⟨k1*s.2+k2*p.2,?_⟩;grind
def ag:Nat→(Nat→Int)→Int
 | 0,_=>0
 | n+1,f=>f 0+ag n fun i=>f (i+1)
theorem cm:∀{n:Nat} {f g:Nat→Int},(∀i,i<n→f i=g i)→ag n f=ag n g
 | 0,f,g,_=>rfl
 | n+1,f,g,h=>by unfold ag;rw [h 0 (by lia),cm fun i hi=>h (i+1) (by lia)]
theorem m5:∀(n:Nat) (f g:Nat→Int),ag n (fun i=>f i+g i)=ag n f+ag n g
 | 0,f,g=>rfl
 | n+1,f,g=>by show f 0+g 0+ag n (fun i=>f (i+1)+g (i+1))=(f 0+ag n fun i=>f (i+1))+(g 0+ag n fun i=>g (i+1));rw [m5 n];lia
theorem a8(c:Int):∀(n:Nat) (f:Nat→Int),c*ag n f=ag n fun i=>c*f i
 | 0,f=>by unfold ag;rw [bU]
 | n+1,f=>by unfold ag;rw [Int.mul_add,a8 c n]
theorem e_:∀(n:Nat),ag n (fun _=>0)=0
 | 0=>rfl
 | n+1=>by unfold ag;rw [e_ n];rfl
theorem vw:∀(n m:Nat) (F:aC),ag n (fun i=>ag m fun j=>F i j)=ag m fun j=>ag n fun i=>F i j
 | 0,m,F=>by show (0:Int)=_;rw [show (fun j=>ag 0 fun i=>F i j)=fun _=>(0:Int) from rfl,e_]
 | n+1,m,F=>by show (ag m fun j=>F 0 j)+ag n (fun i=>ag m fun j=>F (i+1) j)=ag m fun j=>F 0 j+ag n fun i=>F (i+1) j;rw [vw n m,←m5]
theorem kS:∀(n j:Nat) (f:Nat→Int),j<n→ag n (fun i=>if i=j then f i else 0)=f j
 | n+1,0,f,_=>by
  show (if (0:Nat)=0 then f 0 else 0)+ag n (fun i=>if i+1=0 then f (i+1) else 0)=f 0
  rw [ak rfl,show (fun i=>if i+1=0 then f (i+1) else 0)=fun _=>(0:Int) from funext fun i=>ao (by lia),e_]
  lia
 | n+1,j+1,f,h=>by
  show (if (0:Nat)=j+1 then f 0 else 0)+ag n (fun i=>if i+1=j+1 then f (i+1) else 0)=f (j+1)
  rw [ao (by lia),show (fun i=>if i+1=j+1 then f (i+1) else 0)=fun i=>if i=j then (fun i=>f (i+1)) i else 0 from funext fun i=>by by_cases z:i=j <;> simp [z],kS n j (fun i=>f (i+1)) (by lia)]
  lia
theorem GA{q D1 D2:Int}:∀(n:Nat) (ps rs:aD) (f g:Nat→Int) (acc:Int×Int) (S:Int),ps.length=n→rs.length=n→(∀i,i<n→aO q (ps.getD i o1) (f i,D1))→(∀i,i<n→aO q (rs.getD i o1) (g i,D2))→
  aO q acc (S,D1*D2)→aO q (bu ps rs acc) (S+ag n (fun i=>f i*g i),D1*D2)
 | 0,ps,rs,f,g,acc,S,h1,h2,_,_,h=>by
  have:ps=[]:=BA.mp h1;subst this;rw [show bu [] rs acc=acc by unfold bu;rfl]
  show aO q acc (S+0,_);rw [yT];exact h
 | n+1,p::ps,r::rs,f,g,acc,S,h1,h2,hp,hr,h=>by
  have a:=hp 0 (by lia)
  have b:=hr 0 (by lia)
  have z:=GA (D1:=D1) (D2:=D2) n ps rs (fun i=>f (i+1)) (fun i=>g (i+1)) (acc.1*p.2*r.2+p.1*r.1*acc.2,acc.2*p.2*r.2) (S+f 0*g 0) (by simpa using h1) (by simpa using h2)
   (fun i hi=>by simpa using hp (i+1) (by lia)) (fun i hi=>by simpa using hr (i+1) (by lia)) (by obtain ⟨k1,e1⟩:=a;obtain ⟨k2,e2⟩:=b;obtain ⟨k3,e3⟩:=h;simp only [List.getD_cons_zero] at e1 e2;refine ⟨p.2*r.2*k3+acc.2*(p.1*D1*k2+g 0*r.2*k1),?_⟩;dsimp only at e1 e2 e3 ⊢;grind)
  unfold bu;show aO q _ (S+(f 0*g 0+ag n fun i=>f (i+1)*g (i+1)),_);rw [←Int.add_assoc];exact z
variable {ps:aD}
theorem MM{D1 D2:Int}{rs:aD}{f g:Nat→Int}(h1:ps.length=n)(h2:rs.length=n)(hp:∀i,i<n→aO q (ps.getD i o1) (f i,D1))(hr:∀i,i<n→aO q (rs.getD i o1) (g i,D2)) :
  aO q (bu ps rs (0,1)) (ag n (fun i=>f i*g i),D1*D2):=by
 have z:=GA (D1:=D1) (D2:=D2) n ps rs f g (0,1) 0 h1 h2 hp hr ⟨0,by simp⟩
 rw [n5] at z;exact z
theorem GB{q:Int}:∀(xs:aD),(∀p∈xs,aF q p.2)→(q=0∨q≠0)→∃D:Int,aF q D∧∀p∈xs,p.2∣D
 | [],_,_=>⟨1,⟨fun _=>by decide,fun _=>rfl⟩,fun p hp=>by simp at hp⟩
 | x::xs,h,hq=>by
  obtain ⟨D,h1,h2⟩:=GB xs (fun p hp=>h p (gg _ hp)) hq;have hx:=h x gB;refine ⟨x.2*D,⟨fun z=>?_,fun z=>?_⟩,fun p hp=>?_⟩
  ·have:=d6 (show 0<x.2 by have:=hx.1 z;lia) (show 0<D by have:=h1.1 z;lia)
   lia
  ·rw [hx.2 z,h1.2 z];rfl
  ·rcases eY.mp hp with e | e
   ·rw [e];exact Int.dvd_mul_right ..
   ·exact i9 (h2 p e) (pF ..)
def Cu(D:Int)(p:Int×Int):Int:=p.1*(D / p.2)
theorem MN{D:Int}(h:p.2∣D)(ok:aF q p.2):aO q p (Cu D p,D):=by
 obtain ⟨c,e⟩:=h;refine ⟨0,?_⟩;rw [bU];unfold Cu;dsimp only;by_cases z:p.2=0
 ·rw [z,gX] at e
  rw [e,z];simp
 ·rw [e,iC _ z]
  grind
theorem cJ.Cv{b:Int}(h:cJ H q v t b)(e:aO q (t,b) (t',b'))(ok:aF q b'):cJ H q v t' b':=by
 cases h with
 | bH e1 l hb h=>
  rename_i p x m
  have b0:=ok.1 rfl;have e:=kn.mp e;refine .bH e1 l (by lia) (vk (c:=b) hb ?_)
  dsimp only at e;grind
 | rem q2 h0 h1 g h=>
  rename_i r
  have b0:=ok.2 (by lia)
  subst b0;refine .rem q2 h0 h1 (by rw [pH]) (Gp q2 g ?_)
  obtain ⟨k,ek⟩:=h;obtain ⟨k2,GC⟩:=e;dsimp only at GC;exact ⟨k+k2,by grind⟩
theorem MO{b:Int}(h:cJ H q v t b)(hq:aB q)(bt:t.natAbs≤B)(bb:b.natAbs≤B):∃xm:Int×Int,bZ B H q v xm.1 xm.2∧aO q xm (t,b):=by
 cases h with
 | bH e l hb h=>
  rename_i p x m
  obtain ⟨c1,c2⟩:=p4 l hb h;exact ⟨(x,m),.bH e l (aq c1 bt) (aq c2 bb),⟨0,by dsimp only;rw [h];lia⟩⟩
 | rem q2 h0 h1 g h=>
  rename_i r
  obtain ⟨k,ek⟩:=h;have q3:q≤997:=by rcases hq with z | ⟨_,z,_⟩ <;> lia
  exact ⟨(r,1),.rem h0 h1 q3,⟨k,by dsimp only;rw [iB];exact ek⟩⟩
def jV(n i:Nat):List (Int×Int):=(List.range n).map fun j=>if j=i then ((1:Int),(1:Int)) else ((0:Int),(1:Int))
theorem qa(hB:1≤B){a:Int}(h:vj H q v a 1)(hq:aB q)(ha:a=0∨a=1):bZ B H q v a 1:=by
 rcases h with ⟨rfl,r,rfl,e⟩ | ⟨q2,r,rfl,r0,r1,er⟩
 ·rw [(Mn a).1,(Mn a).2] at e
  exact .bH e ⟨by decide,pH ..⟩ (by rcases ha with rfl | rfl <;> simp [hB]) (by simpa using hB)
 ·have q3:q≤997:=by rcases hq with z | ⟨_,z,_⟩ <;> lia
  rw [qS (show (0:Int)≤1 by decide) (show (1:Int)<q by lia),iB,qS r0 r1] at er
  have ea:a % q=a:=qS (by lia) (by lia)
  rw [ea] at er;subst er;exact .rem r0 r1 q3
theorem Cw(hq:aB q):¬mU q 1:=fun h=>by
 unfold mU at h;rcases hq with rfl | ⟨q2,q3,q4⟩;·rw [ak rfl] at h;lia
 ·rw [ao (by lia),qS (by lia) (by lia)] at h;lia
theorem aF.mul{a b:Int}(h1:aF q a)(h2:aF q b):aF q (a*b):=⟨fun z=>by
  have:=d6 (show 0<a by have:=h1.1 z;lia) (show 0<b by have:=h2.1 z;lia)
  lia,fun z=>by rw [h1.2 z,h2.2 z];rfl⟩
theorem aF.one:aF q 1:=⟨fun _=>by decide,fun _=>rfl⟩
theorem V5(hb:∀p∈ps,aF q p.2):∃(D:Int) (A:Nat→Int),aF q D∧∀j,j<ps.length→aO q (ps.getD j o1) (A j,D):=by obtain ⟨D,h1,h2⟩:=GB ps hb (Classical.em _);refine ⟨D,fun j=>Cu D (ps.getD j o1),h1,fun j hj=>?_⟩;dsimp only;rw [getD_at hj];exact MN (h2 _ (aQ hj)) (hb _ (aQ hj))
theorem V6{aa:aG}{N:Nat}(hb:∀ps∈aa,∀p∈ps,aF q p.2)(hN:aa.length=N)(hM:∀ps∈aa,ps.length=M):∃(D:Int) (A:aC),aF q D∧∀i j,i<N→j<M→aO q ((aa.getD i []).getD j o1) (A i j,D):=by
 obtain ⟨D,h1,h2⟩:=GB aa.flatten (fun p hp=>by obtain ⟨ps,a,b⟩:=BB.mp hp;exact hb ps a p b) (Classical.em _)
 refine ⟨D,fun i j=>Cu D ((aa.getD i []).getD j o1),h1,fun i j hi hj=>?_⟩;have a_:i<aa.length:=by lia
 dsimp only;rw [getD_at a_];have di:j<aa[i].length:=by rw [hM _ (aQ a_)];exact hj
 rw [getD_at di];exact MN (h2 _ (BB.mpr ⟨_,aQ a_,aQ di⟩)) (hb _ (aQ a_) _ (aQ di))
theorem bZ.both(h:bZ B H q v x m)(b1:1000≤B):x.natAbs≤B∧m.natAbs≤B:=by
 cases h with
 | bH e l bx bm=>exact ⟨bx,bm⟩
 | rem h0 h1 h2=>exact ⟨by lia,by show Int.natAbs 1≤B;lia⟩
theorem GD(hj:j<n):(jV n i).getD j o1=((if j=i then 1 else 0:Int),(1:Int)):=by
 unfold jV;rw [getD_at (by simpa using hj),jz,yU]
 by_cases z:j=i <;> simp [z]
theorem qc:(jV n i).length=n:=by simp [jV]
theorem zK(k m:Nat)(A:Nat→Int)(B:aC)(R:Nat→Int):(ag k fun j=>(ag m fun l=>A l*B l j)*R j)=ag m fun l=>A l*ag k fun j=>B l j*R j:=by
 have e1:(fun j=>(ag m fun l=>A l*B l j)*R j)=fun j=>ag m fun l=>A l*(B l j*R j):=funext fun j=>by rw [d5,a8];exact cm fun l _=>by rw [d5,h_]
 rw [e1,vw];exact cm fun l _=>(a8 ..).symm
def aI(B:Nat)(H:Hp)(q:Int)(a:Addr)(ps:aD):Prop:=∃vs:List V,H a=some (.lst vs)∧vs.length=ps.length∧∀(i:Nat) (v:V) (p:Int×Int),vs[i]?=some v→ps[i]?=some p→bZ B H q v p.1 p.2
variable {a:Addr}
theorem aI.mono(h:aI B H q a ps)(s:ah H H'):aI B H' q a ps:=by obtain ⟨vs,e,l,k⟩:=h;exact ⟨vs,s _ _ e,l,fun i v p h1 h2=>(k i v p h1 h2).mono s⟩
variable {B':Nat}
theorem bZ.weak(h:bZ B H q v x m)(hb:B≤B'):bZ B' H q v x m:=by
 cases h with
 | bH e l bx bm=>exact .bH e l (aq bx hb) (aq bm hb)
 | rem h0 h1 h2=>exact .rem h0 h1 h2
theorem aI.weak(h:aI B H q a ps)(hb:B≤B'):aI B' H q a ps:=by obtain ⟨vs,e,l,k⟩:=h;exact ⟨vs,e,l,fun i v p h1 h2=>(k i v p h1 h2).weak hb⟩
theorem V7(hq:aB q){b:Addr}(h1:aI B H q a ps)(h2:aI B' H q b ps)(n:Nat):sj K H (n+2) (.ref a) (.ref b):=by
 obtain ⟨vs,e1,l1,f1⟩:=h1;obtain ⟨us,e2,l2,f2⟩:=h2;refine .inr ⟨a,b,vs,us,rfl,rfl,.inl ⟨.of e1,.of e2⟩,by lia,fun j x y hx hy=>?_⟩
 have hj:j<ps.length:=by rw [←l1];exact (aP.mp hx).1
 exact zH ((f1 j x ps[j] hx (by simp [hj])).jU hq) ((f2 j y ps[j] hy (by simp [hj])).jU hq) rfl n
theorem V8(hq:aB q){b:Addr}{R:VK}{r:Bool}(h1:aI B H q a ps)(h2:aI B' H q b ps)(k:R (.bl r) H):Gw K 1 r (.ref a) (.ref b) H R:=by
 obtain ⟨vs,e1,l1,f1⟩:=h1;obtain ⟨us,e2,l2,f2⟩:=h2;refine ⟨a,b,vs,us,rfl,rfl,.of e1,.of e2,by lia,fun j x y hx hy=>?_,k⟩
 have hj:j<ps.length:=by rw [←l1];exact (aP.mp hx).1
 exact zH ((f1 j x ps[j] hx (by simp [hj])).jU hq) ((f2 j y ps[j] hy (by simp [hj])).jU hq) rfl 0
theorem V9(xs:List V)(k:Nat)(h:k≤xs.length):ip xs none (some (k:Int))=xs.take k:=by
 have e:HT.fI xs.length xs.length (some (k:Int))=k:=by rw [HT.zh];lia
 unfold ip;rw [e,show HT.fI xs.length 0 none=0 from rfl,List.drop_zero,Nat.sub_zero]
end My
namespace L2
open PySem PySem.Spec PyProof.Rows
def V_(K:aJ):R2:=fun x y H Q=>∃a b xs,x=.ref a∧y=.ref b∧bP K H a xs∧H b=some (.lst [])∧(∀v∈xs,∃i,v=.int i)∧Q (.bl (!xs.isEmpty)) H
theorem Wa{X:Cx}(hu:X.A.units+64<cLine):cT X (compareOp .NotEq) (V_ X.K):=by
 intro pins s σ H x y v u Q I rx ry h;obtain ⟨a,b,xs,rfl,rfl,h1,h2,_,q⟩:=h;cases rx;cases ry;obtain ⟨us,r1,t1,_⟩:=I.list h1;obtain ⟨vs,r2,t2,_⟩:=I.list (bP.of h2);have l1:=r1.length;have l2:=r2.length;cases xs with
 | nil=>
  refine SeqAt.RcNeAt.lists (e:=fun _=>true) t1.isList t2.isList (by simp at l1 l2 ⊢;lia) (by lia) (fun j z1 z2=>?_) _ _ _ _ ?_
  ·simp at l1
   have:us=[]:=BA.mp l1.symm;subst this;simp at z1
  ·rw [all_range]
   exact ⟨.bl false,H,I,rfl,q⟩
 | cons w ws=>
  refine SeqAt.RcNeAt.lists_lengths t1.isList t2.isList ?_ (by lia) _ _ _ _ ⟨.bl true,H,I,rfl,q⟩
  simp at l1 l2 ⊢;lia
end L2
namespace My
open PySem L2
def mulQ(q:Int)(p r:Int×Int):Int×Int:=if q=0 then (jS (p.1*r.1) (p.2*r.2),jT (p.1*r.1) (p.2*r.2)) else (p.1*r.1 % q,1)
theorem aI.cat{B:Nat}{H:Hp}{q:Int}{r:Addr}{vs us:List V}{ps rs:aD}(e:H r=some (.lst (vs++us)))(l1:vs.length=ps.length)(l2:us.length=rs.length)(f1:∀(i:Nat) (v:V) (p:Int×Int),vs[i]?=some v→ps[i]?=some p→bZ B H q v p.1 p.2)(f2:∀(i:Nat) (v:V) (p:Int×Int),us[i]?=some v→rs[i]?=some p→bZ B H q v p.1 p.2):aI B H q r (ps++rs):=by
 refine ⟨vs++us,e,by simp [l1,l2],fun i v p h1 h2=>?_⟩
 by_cases hi:i<vs.length
 ·rw [fD hi] at h1
  rw [fD (by lia)] at h2
  exact f1 i v p h1 h2
 ·rw [fN (by lia)] at h1
  rw [fN (by lia),←l1] at h2
  exact f2 _ v p h1 h2
end My
namespace L2
open PySem PySem.Spec PyProof.Rows
theorem Cy{K:aJ}{wi:TI}{ρ:St→St}{te:TE}{σ:St}{H:Hp}{Q:VK}{Z:List (V×V)→Hp→Prop}(gL:∀R:It→Hp→Prop,(∀J H1 zs,ah H H1→Cs J zs H1→zs.length<sizeLine→Z zs H1→R J H1)→wi σ H R)
  (P:Addr→Nat→V→Hp→Prop) (mono:∀D i y H H' ys,P D i y H→H D=some (.lst ys)→(∀b o,b≠D→H b=some o→H' b=some o)→P D i y H')
  (step:∀zs H1,Z zs H1→ah H H1→∀D i x y,zs[i]?=some (x,y)→∀(Hc:Hp) (R:VK),ah H1 Hc→(∃ys,Hc D=some (.lst ys))→(∀v H3,ah Hc H3→P D i v H3→R v H3)→te (some x::some y::ρ σ) Hc R)
  (fin:∀zs H1,Z zs H1→ah H H1→∀D vs Hc,H D=none→ah H1 Hc→vs.length=zs.length→(∀(i:Nat) (v:V),vs[i]?=some v→P D i v Hc)→Hc D=some (.lst vs)→Q (.ref D) Hc):vt K wi ρ (fun _ H Q=>Q true H) te σ H Q:=by
 refine gL _ fun J H1 zs s1 js hn hZ=>?_;intro D nD;have hD:H D=none:=by
  cases e:H D with
  | none=>rfl
  | some o=>rw [s1 _ _ e] at nD;cases nD
 refine ⟨fun i m vs Hc=>m=zs.length-i∧i≤zs.length∧Hc D=some (.lst vs)∧ah H1 Hc∧vs.length=i∧∀(j:Nat) (v:V),vs[j]?=some v→P D j v Hc,⟨_,rfl,eJ _,aA,dP (ah.refl H1) nD,rfl,fun j y e=>by simp at e⟩,?_⟩
 rintro i m vs Hc ⟨rfl,hi,eD,sH,el,hP⟩;refine ⟨eD,?_⟩;by_cases dr:i<zs.length
 ·refine .inr ⟨js.go i Hc sH dr,fun v H' hy=>?_⟩
  obtain ⟨T,x,y,ev,nT,eH,hx⟩:=js.fR i Hc v H' sH hy;subst ev eH;refine ⟨T,x,y,rfl,.of aA,?_⟩;dsimp only;rw [ak rfl];have sT:ah Hc (upd Hc T (.tup [x,y])):=fun b o e=>by rw [bI (gi e nT)];exact e
  refine step zs H1 hZ s1 D i x y (hx dr) _ _ (sH.trans sT) ⟨vs,sT _ _ eD⟩ fun w H3 s3 hp=>?_;have e3:=s3 _ _ (sT _ _ eD);have bC:∀b o,b≠D→H3 b=some o→upd H3 D (.lst (vs++[w])) b=some o:=fun b o nb e=>by rw [bI nb];exact e
  refine ⟨e3,by lia,zs.length-(i+1),by lia,rfl,dr,aA,dP (sH.trans (sT.trans s3)) nD,by simp [el],fun j v' e=>?_⟩
  by_cases hj:j<i;·exact mono D j v' Hc _ vs (hP j v' (by rw [fD (by lia)] at e;exact e)) eD fun b o nb e=>bC b o nb (s3 _ _ (sT _ _ e))
  ·have hj:j=i:=by have:=(aP.mp e).1;simp at this;lia
   subst hj;have e':v'=w:=by rw [fN (by lia),el,mF] at e;simpa using e.symm
   subst e';exact mono D _ _ H3 _ vs hp e3 bC
 ·have e:i=zs.length:=by lia
  subst e;exact .inl ⟨js.stop _ Hc sH (aH _),fin zs H1 hZ s1 D vs Hc hD sH el hP eD⟩
end L2
namespace My
open PySem L2
end My
namespace L2
open PySem PySem.Spec PyProof.Rows
section
variable {X:Cx}
end
end L2
namespace My
open PySem L2
theorem m6:∀(n:Nat) (f:Nat→Int),ag (n+1) f=ag n f+f n
 | 0,f=>by show f 0+0=0+f 0;lia
 | n+1,f=>by show f 0+ag (n+1) (fun i=>f (i+1))=(f 0+ag n fun i=>f (i+1))+f (n+1);rw [m6 n];lia
def qd(q T D:Int):Int×Int:=if q=0 then (jS T D,jT T D) else (T % q,1)
variable {q T D:Int}
theorem Wb(ok:aF q D):aO q (qd q T D) (T,D):=by
 unfold qd aO;by_cases z:q=0
 ·subst z
  have hD:=ok.1 rfl;have e:=(Cp (a:=T) (show D≠0 by lia)).2.1
  rw [ak rfl];exact ⟨0,by dsimp only;rw [e];lia⟩
 ·rw [ao z,ok.2 z]
  obtain ⟨w,ew⟩:=vm T q;exact ⟨-w,by dsimp only;rw [jy];lia⟩
def Canon(q:Int)(p:Int×Int):Prop:=(q=0→de p.1 p.2)∧(q≠0→p.2=1∧0≤p.1∧p.1<q)
variable {B:Nat} {m:Int}
theorem bZ.canon{H:Hp}{v:V}{x:Int}(h:bZ B H q v x m):Canon q (x,m):=by
 cases h with
 | bH e l bx bm=>exact ⟨fun _=>l,fun z=>absurd rfl z⟩
 | rem h0 h1 h2=>exact ⟨fun z=>by lia,fun _=>⟨rfl,h0,h1⟩⟩
variable {p r:Int×Int}
theorem Cz(hq:aB q)(h1:Canon q p)(h2:Canon q r)(e:aO q p r):p=r:=by
 obtain ⟨x,m⟩:=p;obtain ⟨y,n⟩:=r;unfold aO at e;dsimp only at e;by_cases z:q=0
 ·subst z
  have l1:=h1.1 rfl;have l2:=h2.1 rfl;have e:=kn.mp e;obtain ⟨a,b⟩:=Mo l1 l2 (show x*n=y*m by lia)
  dsimp only at a b;rw [a,b]
 ·obtain ⟨a1,a2,a3⟩:=h1.2 z
  obtain ⟨b1,b2,b3⟩:=h2.2 z;dsimp only at a1 a2 a3 b1 b2 b3;subst a1 b1;rw [iB,iB] at e;obtain ⟨k,ek⟩:=e;have:k=0:=by
   rcases Int.lt_trichotomy k 0 with h | h | h
   ·have:=qQ (show k≤-1 by lia) (show 0≤q by lia)
    lia
   ·exact h
   ·have:=qQ (show 1≤k by lia) (show 0≤q by lia)
    lia
  rw [this,bU] at ek;rw [show x=y by lia]
theorem Wc(hq:aB q)(ok:aF q D):Canon q (qd q T D):=by
 unfold qd;refine ⟨fun z=>?_,fun z=>?_⟩
 ·rw [ak z]
  exact (Cp (a:=T) (show D≠0 by have:=ok.1 z;lia)).1
 ·rw [ao z]
  have q2:0<q:=by rcases hq with h | h <;> lia
  exact ⟨rfl,d4 _ z,d8 _ q2⟩
theorem MP(hq:aB q)(ok:aF q D)(b1:1000≤B)(bt:T.natAbs≤B)(bd:D.natAbs≤B):(qd q T D).1.natAbs≤B∧(qd q T D).2.natAbs≤B:=by
 unfold qd;by_cases z:q=0
 ·rw [ak z]
  have hD:=ok.1 z;obtain ⟨u,d,e1,e2,l,l1,l2⟩:=Ml (a:=T) hD;unfold jS jT;dsimp only;rw [e1,e2];exact ⟨aq l1 bt,aq l2 bd⟩
 ·rw [ao z]
  have q2:0<q∧q≤997:=by rcases hq with h | h <;> lia
  have:=d4 T z;have:=d8 T q2.1;exact ⟨by dsimp only;lia,by dsimp only;lia⟩
theorem Canon.bot(h:Canon q p):aF q p.2:=⟨fun z=>(h.1 z).pos,fun z=>(h.2 z).1⟩
theorem qe(hq:aB q)(h1:Canon q p)(h2:Canon q r):Canon q (mulQ q p r)∧aO q (mulQ q p r) (p.1*r.1,p.2*r.2):=by have e:mulQ q p r=qd q (p.1*r.1) (p.2*r.2):=rfl;rw [e];exact ⟨Wc hq (h1.bot.mul h2.bot),Wb (h1.bot.mul h2.bot)⟩
theorem aF.nz{b:Int}(hq:aB q)(h:aF q b):¬q∣b:=fun hd=>by
 by_cases z:q=0
 ·subst z
  have:=h.1 rfl;have:=kn.mp hd;lia
 ·rw [h.2 z] at hd
  have q2:2≤q:=by rcases hq with h | h <;> lia
  have:=uX (by decide) hd
  lia
theorem lcm_dvd{b:Int}(hb:1≤b)(hm:1≤m)(h1:b∣D)(h2:m∣D):b / (Int.gcd b m:Int)*m∣D:=by
 have gp:=oJ (a:=b) (b:=m) (by lia)
 obtain ⟨b',eb⟩:=nX (a:=b) (b:=m)
 have g0:(Int.gcd b m:Int)≠0:=by lia
 have gb:b / (Int.gcd b m:Int)=b':=by
  conv=>lhs;lhs;rw [eb]
  exact iC _ g0
 have z:((Int.lcm b m:Nat):Int)∣D:=Int.coe_lcm_dvd h1 h2
 have e:((Int.lcm b m:Nat):Int)=b'*m:=by
  have h:=Int.gcd_mul_lcm b m
  have h2:((Int.gcd b m:Nat):Int)*((Int.lcm b m:Nat):Int)=((b*m).natAbs:Int):=by
   rw [←pK,h,bz]
  have bm:0<b*m:=d6 (by lia) (by lia)
  have h3:((b*m).natAbs:Int)=b*m:=by lia
  rw [h3] at h2
  refine lg g0 ?_
  rw [h2,←h_,←eb]
 rw [gb,←e]
 exact z
structure GF (q:Int) (ps:aD) (ts:List Int) (b D:Int) (B:Nat):Prop where
 len:ts.length=ps.length
 ok:aF q b
 dvd:b∣D
 each:∀i,i<ps.length→ts.getD i 0*(ps.getD i o1).2=(ps.getD i o1).1*b∧(ts.getD i 0).natAbs≤B*D.natAbs
theorem MQ{b:Int}(h:b∣D)(hD:D≠0):b.natAbs≤D.natAbs:=Nat.le_of_dvd (iU.mpr hD) (Fq.mpr h)
end My
namespace L2
open PySem PySem.Spec PyProof.Rows
section
variable {X:Cx} {tg:Expr}
end
theorem Wd{X:Cx}{K:aJ}{e:Expr}{f:Str}{pos:Pos}{ta:TE}(he:PE X e ta)(hb:attributeBase e f X.env (eval e X.env)=eval e X.env)(hK:X.K=K:=by rfl):PE X (.Attribute e f pos) (Lm K ta f):=by subst hK;exact lH he hb
end L2
namespace My
open PySem L2
def Cg(q a b:Int):Prop:=q∣a-b
variable {q:Int}
theorem Cg.refl(a:Int):Cg q a a:=⟨0,by lia⟩
variable {a:Int}
theorem Cg.of_eq{b:Int}(h:a=b):Cg q a b:=h▸Cg.refl a
theorem Cg.symm{b:Int}(h:Cg q a b):Cg q b a:=by obtain ⟨k,e⟩:=h;exact ⟨-k,by rw [jy];lia⟩
theorem Cg.trans{b c:Int}(h1:Cg q a b)(h2:Cg q b c):Cg q a c:=by obtain ⟨k,e⟩:=h1;obtain ⟨l,e'⟩:=h2;exact ⟨k+l,by rw [Int.mul_add];lia⟩
variable {d:Int}
theorem Cg.add{b c:Int}(h1:Cg q a b)(h2:Cg q c d):Cg q (a+c) (b+d):=by obtain ⟨k,e⟩:=h1;obtain ⟨l,e'⟩:=h2;exact ⟨k+l,by rw [Int.mul_add];lia⟩
theorem Cg.sub{b c:Int}(h1:Cg q a b)(h2:Cg q c d):Cg q (a-c) (b-d):=by obtain ⟨k,e⟩:=h1;obtain ⟨l,e'⟩:=h2;exact ⟨k-l,by rw [Int.mul_sub];lia⟩
theorem Cg.mulL{b:Int}(c:Int)(h:Cg q a b):Cg q (c*a) (c*b):=by obtain ⟨k,e⟩:=h;exact ⟨c*k,by rw [←Int.mul_sub,e];grind⟩
theorem Cg.mulR{b:Int}(c:Int)(h:Cg q a b):Cg q (a*c) (b*c):=by rw [d5 a,d5 b];exact h.mulL c
theorem zL(q a:Int):Cg q (a % q) a:=⟨-(a / q),by have:=Int.mul_ediv_add_emod a q;rw [jy];lia⟩
theorem Cg.nz{b:Int}(h:Cg q a b)(n:¬q∣b):¬q∣a:=fun d=>n (by
 have:b=a-(a-b):=by lia
 rw [this];exact Int.dvd_sub d h)
theorem cU{q:Int}:∀{n:Nat} {f g:Nat→Int},(∀i,i<n→Cg q (f i) (g i))→Cg q (ag n f) (ag n g)
 | 0,_,_,_=>Cg.refl _
 | n+1,f,g,h=>by unfold ag;exact (h 0 (by lia)).add (cU fun i hi=>h (i+1) (by lia))
theorem oR{α:Type}{xs:List α}{k:Nat}{d:α}(h:xs.length≤k):xs.getD k d=d:=by rw [cu,yS h];rfl
theorem We{wi:TI}{ρ:St→St}{te:TE}{σ:St}{H:Hp}{Q:VK}{ts:List Int}(g:Int→Int)(hn:ts.length≤500)
  (gL:∀R:It→Hp→Prop,(∀J H1,ah H H1→mX J (ts.map V.int) H1→R J H1)→wi σ H R)
  (step:∀t∈ts,∀(Hc:Hp) (R:VK),ah H Hc→(∀H3,ah Hc H3→R (.int (g t)) H3)→te (some (.int t)::ρ σ) Hc R)
  (fin:∀D Hc,H D=none→ah H Hc→Hc D=some (.lst ((ts.map g).map V.int))→Q (.ref D) Hc):jM wi ρ (fun _ H Q=>Q true H) te σ H Q:=by
 refine iu (xs:=ts.map V.int) gL (by rw [bL];exact dO (by lia)) (fun _ i y _=>∃t,ts[i]?=some t∧y=.int (g t)) (fun _ _ _ _ _ _ h _ _=>h) ?_ ?_
 ·intro D i v hi Hc R sc _ kc
  rw [cF] at hi;cases e:ts[i]? with
  | none=>rw [e] at hi;cases hi
  | some t=>rw [e] at hi;cases hi;exact step t (pD e) Hc R sc fun H3 s3=>kc _ H3 s3 ⟨t,e,rfl⟩
 ·intro D ys Hc nD sc dY hP eD
  have ey:ys=(ts.map g).map V.int:=p9 (by rw [dY,bL,bL]) fun i v e=>by obtain ⟨t,e1,e2⟩:=hP i v e;exact ⟨g t,by rw [cF,e1];rfl,e2⟩
  rw [ey] at eD;exact fin D Hc nD sc eD
def bS(j:Nat)(v:aC):Nat→Nat→Int:=fun i=>if i<j then v i else v (i+1)
def sgn(j:Nat):Int:=if j % 2=0 then 1 else -1
theorem GG(j:Nat):sgn (j+1)=-sgn j:=by
 unfold sgn;by_cases h:j % 2=0;·rw [ak h,ao (by lia)]
 ·rw [ao h,ak (by lia)];rfl
def aK:List Nat→(Nat→Nat→Int)→Int
 | [],_=>1
 | c::cs,v=>ag (cs.length+1) fun j=>sgn j*v j c*aK cs (bS j v)
theorem zM(c:Nat)(cs:List Nat)(v:aC):aK (c::cs) v=ag (cs.length+1) fun j=>sgn j*v j c*aK cs (bS j v):=rfl
variable {j:Nat}
theorem Wf{l:Nat}(h:l≤j)(v:aC):bS l (bS (j+1) v)=bS j (bS l v):=by
 funext i
 unfold bS;by_cases h1:i<l;·rw [ak h1,ak (by lia),ak (by lia),ak h1]
 ·rw [ao h1]
  by_cases h2:i<j;·rw [ak h2,ao h1,ak (by lia)]
  ·rw [ao h2,ao (by lia),ao (by lia)]
theorem MR(n:Nat)(f:Nat→Int):ag n (fun i=>-f i)=-ag n f:=by
 have:=a8 (-1) n f;rw [show (fun i=>-f i)=fun i=>-1*f i from funext fun i=>by lia,←this]
 lia
theorem Wg(n:Nat)(F:aC):(ag (n+1) fun j=>ag n fun l=>F j l)=(ag n fun j=>ag (j+1) fun l=>F (j+1) l)+ag n fun l=>ag (l+1) fun j=>F j l:=by
 induction n with
 | zero=>rfl
 | succ n ih=>
  rw [m6 (n+1) fun j=>ag (n+1) fun l=>F j l];have e1:(ag (n+1) fun j=>ag (n+1) fun l=>F j l)=(ag (n+1) fun j=>ag n fun l=>F j l)+ag (n+1) fun j=>F j n:=by rw [←m5];exact cm fun j _=>m6 n _
  rw [e1,ih,m6 n fun j=>ag (j+1) fun l=>F (j+1) l,m6 n fun l=>ag (l+1) fun j=>F j l];lia
theorem MS(a b:Nat)(cs:List Nat)(v:aC):aK (a::b::cs) v=-aK (b::a::cs) v:=by
 have ex:∀x y:Nat,aK (x::y::cs) v=(ag (cs.length+1) fun j=>ag (j+1) fun l=>sgn (j+1)*sgn l*(v (j+1) x*v l y)*aK cs (bS j (bS l v)))-ag (cs.length+1) fun j=>ag (j+1) fun l=>sgn (j+1)*sgn l*(v l x*v (j+1) y)*aK cs (bS j (bS l v)):=fun x y=>by
  have e0:aK (x::y::cs) v=ag (cs.length+2) fun j=>ag (cs.length+1) fun l=>sgn j*v j x*(sgn l*bS j v l y*aK cs (bS l (bS j v))):=by rw [zM,cS];refine cm fun j _=>?_;rw [zM,a8]
  rw [e0,Wg (cs.length+1)];rw [Int.sub_eq_add_neg,←MR]
  congr 1
  ·refine cm fun j _=>cm fun l hl=>?_
   rw [Wf (by lia),show bS (j+1) v l y=v l y by unfold bS;rw [ak (by lia)]]
   grind
  ·refine cm fun l _=>?_
   rw [←MR];refine cm fun j hj=>?_;rw [show bS j v l y=v (l+1) y by unfold bS;rw [ao (by lia)],GG]
   grind
 rw [ex a b,ex b a];have f:∀x y:Nat,(ag (cs.length+1) fun j=>ag (j+1) fun l=>sgn (j+1)*sgn l*(v l x*v (j+1) y)*aK cs (bS j (bS l v)))=ag (cs.length+1) fun j=>ag (j+1) fun l=>sgn (j+1)*sgn l*(v (j+1) y*v l x)*aK cs (bS j (bS l v)):=fun x y=>cm fun j _=>cm fun l _=>by rw [d5 (v l x)]
 rw [f a b,f b a];lia
theorem vx(c:Nat):∀(cs:List Nat) (v:aC),c∈cs→aK (c::cs) v=0
 | b::cs,v,h=>by
  by_cases e:c=b
  ·subst e
   have:=MS c c cs v;lia
  ·have h':c∈cs:=by
    rcases eY.mp h with z | z;·exact absurd z e
    ·exact z
   rw [MS,zM];rw [show (fun j=>sgn j*v j b*aK (c::cs) (bS j v))=fun _=>0 from funext fun j=>by rw [vx c cs _ h',bU],e_]
   rfl
def aW(e:Nat→Int)(R:aC):Nat→Nat→Int
 | 0=>e
 | i+1=>R i
theorem MT(e:Nat→Int)(R:aC):bS 0 (aW e R)=R:=by
 funext i
 unfold bS;rw [ao (by lia)]
 rfl
theorem MU(i:Nat)(e:Nat→Int)(R:aC):bS (i+1) (aW e R)=aW e (bS i R):=by
 funext j
 unfold bS;cases j with
 | zero=>rw [ak (by lia)];rfl
 | succ j=>
  by_cases h:j<i
  ·rw [ak (by lia)]
   show R j=if j<i then R j else R (j+1)
   rw [ak h]
  ·rw [ao (by lia)]
   show R (j+1)=if j<i then R j else R (j+1)
   rw [ao h]
theorem qf(k:Nat)(C:List Nat)(e:Nat→Int)(R:aC):aK (k::C) (aW e R)=aK C R*e k+ag C.length fun i=>R i k*(-(sgn i)*aK C (aW e (bS i R))):=by
 rw [zM,ag];have e0:sgn 0*aW e R 0 k*aK C (bS 0 (aW e R))=aK C R*e k:=by rw [MT];show 1*e k*aK C R=_;rw [mG,d5]
 rw [e0]
 congr 1
 refine cm fun i _=>?_;rw [MU,GG];show -sgn i*R i k*_=_;grind
def qg(C:List Nat)(R:aC):Prop:=∀x:Nat→Int,(∀c∈C,(ag C.length fun i=>R i c*x i)=0)→∀k,(ag C.length fun i=>R i k*x i)=0
theorem Wh(R:aC):qg [] R:=fun _ _ _=>rfl
variable {C:List Nat} {R:aC} {h:Nat→Int} {c:Nat}
theorem Wi(sp:qg C R)(d0:aK C R≠0)(p0:aK (c::C) (aW h R)≠0):qg (c::C) (aW h R):=by
 intro x hx k;have ex:∀k,(ag (c::C).length fun i=>aW h R i k*x i)=h k*x 0+ag C.length fun i=>R i k*x (i+1):=fun k=>rfl;have hz:∀k,aK C R*(h k*x 0+ag C.length fun i=>R i k*x (i+1))-x 0*aK (k::C) (aW h R)=ag C.length fun i=>R i k*(aK C R*x (i+1)-x 0*(-(sgn i)*aK C (aW h (bS i R)))):=fun k=>by
  rw [qf,show (fun i=>R i k*(aK C R*x (i+1)-x 0*(-(sgn i)*aK C (aW h (bS i R)))))=fun i=>aK C R*(R i k*x (i+1)) + -(x 0)*(R i k*(-(sgn i)*aK C (aW h (bS i R)))) from funext fun i=>by grind,m5,←a8,←a8]
  grind
 have z:=sp _ fun c' eQ=>by rw [←hz c',←ex c',hx c' (gg _ eQ),vx c' C _ eQ];simp
 have z1:∀k,aK C R*(h k*x 0+ag C.length fun i=>R i k*x (i+1))=x 0*aK (k::C) (aW h R):=fun k=>by have:=hz k;rw [z k] at this;omega
 have x0:x 0=0:=by
  have e:=z1 c;rw [←ex c,hx c gB,bU] at e;rcases Bz.mp e.symm with h | h;·exact h
  ·exact absurd h p0
 have e:=z1 k;rw [x0,gX] at e;rw [ex k,x0];rcases Bz.mp e with h | h;·exact absurd h d0
 ·exact h
theorem GH(sp:qg C R)(e h:Nat→Int)(c k:Nat) :
  aK C R*aK (k::c::C) (aW e (aW h R))=aK (c::C) (aW h R)*aK (k::C) (aW e R)-aK (c::C) (aW e R)*aK (k::C) (aW h R):=by
 have two:∀k,aK (k::c::C) (aW e (aW h R))=aK (c::C) (aW h R)*e k-aK (c::C) (aW e R)*h k+ag C.length fun i=>R i k*(sgn i*aK (c::C) (aW e (aW h (bS i R)))):=fun k=>by
  rw [qf,cS,ag];have e0:aW h R 0 k*(-(sgn 0)*aK (c::C) (aW e (bS 0 (aW h R))))=-(aK (c::C) (aW e R)*h k):=by rw [MT];show h k*(-1*_)=_;grind
  rw [e0,show (fun i=>aW h R (i+1) k*(-(sgn (i+1))*aK (c::C) (aW e (bS (i+1) (aW h R)))))=fun i=>R i k*(sgn i*aK (c::C) (aW e (aW h (bS i R)))) from funext fun i=>by rw [MU,GG,Int.neg_neg];rfl]
  lia
 have hz:∀k,aK C R*aK (k::c::C) (aW e (aW h R))-(aK (c::C) (aW h R)*aK (k::C) (aW e R)-aK (c::C) (aW e R)*aK (k::C) (aW h R))=ag C.length fun i=>R i k*(aK C R*(sgn i*aK (c::C) (aW e (aW h (bS i R))))-aK (c::C) (aW h R)*(-(sgn i)*aK C (aW e (bS i R)))+aK (c::C) (aW e R)*(-(sgn i)*aK C (aW h (bS i R)))):=fun k=>by
  rw [two k,qf k C e R,qf k C h R];rw [show (fun i=>R i k*(aK C R*(sgn i*aK (c::C) (aW e (aW h (bS i R))))-aK (c::C) (aW h R)*(-(sgn i)*aK C (aW e (bS i R)))+aK (c::C) (aW e R)*(-(sgn i)*aK C (aW h (bS i R)))))=fun i=>(aK C R*(R i k*(sgn i*aK (c::C) (aW e (aW h (bS i R))))) + -(aK (c::C) (aW h R))*(R i k*(-(sgn i)*aK C (aW e (bS i R)))))+aK (c::C) (aW e R)*(R i k*(-(sgn i)*aK C (aW h (bS i R)))) from funext fun i=>by grind,m5,m5,←a8,←a8,←a8]
  grind
 have z:=sp _ fun c' eQ=>by rw [←hz c',vx c' (c::C) _ (gg _ eQ),vx c' C _ eQ,vx c' C _ eQ];simp
 have:=hz k;rw [z k] at this;omega
def g9(c:Nat):Nat→Int:=fun k=>if k=c then -1 else 0
def iK(C:List Nat)(R:aC)(f:Nat→Int):Nat→Int:=fun k=>aK (k::C) (aW f R)
def jW(C:List Nat)(R:aC)(c:Nat):Nat→Int:=fun k=>aK (k::C) (aW (g9 c) R)-aK C R*g9 c k
theorem Wj(R:aC)(f:Nat→Int)(k:Nat):iK [] R f k=f k:=by show aK [k] (aW f R)=f k;rw [qf];show 1*f k+0=f k;lia
theorem Wk(R:aC)(c':Nat)(h:c∈C):jW C R c' c=if c=c' then aK C R else 0:=by
 unfold jW;rw [vx c C _ h];unfold g9
 split <;> lia
theorem MV{e:Nat→Int}:∀{C:List Nat} (S:aC),C≠[]→(∀x∈C,e x=0)→aK C (aW e S)=0
 | x::C,S,_,h=>by
  rw [qf,h x gB,bU,n5];cases C with
  | nil=>rfl
  | cons y C=>rw [show (fun i=>S i x*(-(sgn i)*aK (y::C) (aW e (bS i S))))=fun _=>0 from funext fun i=>by rw [MV (bS i S) (by simp) fun z hz=>h z (gg _ hz)];simp,e_]
theorem Wl(R:aC)(h:c∉C)(k:Nat):iK C R (g9 c) k=aK C R*g9 c k:=by
 unfold iK;rw [qf];have z:(ag C.length fun i=>R i k*(-(sgn i)*aK C (aW (g9 c) (bS i R))))=0:=by
  cases C with
  | nil=>rfl
  | cons y C=>
   rw [show (fun i=>R i k*(-(sgn i)*aK (y::C) (aW (g9 c) (bS i R))))=fun _=>0 from funext fun i=>by
    rw [MV (e:=g9 c) (C:=y::C) (bS i R) (by simp) fun z hz=>ao fun(e:z=c)=>h (by rw [←e];exact hz)]
    simp,e_]
 rw [z,yT]
theorem MW(sp:qg C R)(f h:Nat→Int)(c k:Nat):iK C R h c*iK C R f k-iK C R f c*iK C R h k=aK C R*iK (c::C) (aW h R) f k:=(GH sp f h c k).symm
theorem MX(sp:qg C R)(h:Nat→Int){c':Nat}(ne:c≠c')(k:Nat):iK C R h c*jW C R c' k-jW C R c' c*iK C R h k=aK C R*jW (c::C) (aW h R) c' k:=by have e:=GH sp (g9 c') h c k;have z:g9 c' c=0:=ao ne;unfold jW iK;rw [z,bU,Int.sub_zero,Int.mul_sub (aK C R),e];grind
theorem Wm(sp:qg C R)(d0:aK C R≠0)(h:Nat→Int)(nc:c∉C)(k:Nat):jW (c::C) (aW h R) c k=iK C R h k:=by
 have e:=GH sp (g9 c) h c k;have u:=Wl R nc;unfold iK at u;rw [u k,u c,show g9 c c=-1 from ak rfl] at e;unfold jW iK;have:aK C R*(aK (k::c::C) (aW (g9 c) (aW h R))-aK (c::C) (aW h R)*g9 c k)=aK C R*aK (k::C) (aW h R):=by rw [Int.mul_sub,e];grind
 exact lg d0 this
def bA:Nat→Nat
 | 0=>1
 | n+1=>(n+1)*bA n
theorem GI{M:Nat}:∀(n:Nat) (f:Nat→Int),(∀i,i<n→(f i).natAbs≤M)→(ag n f).natAbs≤n*M
 | 0,_,_=>by show (0:Int).natAbs≤_;simp
 | n+1,f,h=>by rw [m6,gT];exact aq (Int.natAbs_add_le ..) (Nat.add_le_add (GI n f fun i hi=>h i (by lia)) (h n (by lia)))
def a9:Nat→(Nat→Nat)→Nat
 | 0,_=>1
 | n+1,g=>a9 n g*g n
def kT(j:Nat)(g:Nat→Nat):Nat→Nat:=fun i=>if i<j then g i else g (i+1)
def zN(x:Nat)(g:Nat→Nat):Nat→Nat
 | 0=>x
 | i+1=>g i
theorem lZ:∀{n:Nat} {f g:Nat→Nat},(∀i,i<n→f i=g i)→a9 n f=a9 n g
 | 0,_,_,_=>rfl
 | n+1,f,g,h=>by show a9 n f*f n=a9 n g*g n;rw [lZ fun i hi=>h i (by lia),h n (by lia)]
theorem GJ:∀(n j:Nat) (g:Nat→Nat),j≤n→a9 n (kT j g)*g j=a9 (n+1) g
 | 0,j,g,h=>by
  have:j=0:=by lia
  subst this;rfl
 | n+1,j,g,h=>by
  by_cases e:j=n+1
  ·subst e
   show a9 (n+1) (kT (n+1) g)*g (n+1)=a9 (n+1) g*g (n+1);rw [lZ fun i hi=>by unfold kT;rw [ak hi]]
  ·have ih:=GJ n j g (by lia)
   show a9 n (kT j g)*kT j g n*g j=a9 (n+1) g*g (n+1);have:kT j g n=g (n+1):=by unfold kT;rw [ao (by lia)]
   rw [this,Nat.mul_right_comm,ih]
theorem zO:∀(n x:Nat) (g:Nat→Nat),a9 (n+1) (zN x g)=x*a9 n g
 | 0,x,g=>by show 1*x=x*1;lia
 | n+1,x,g=>by show a9 (n+1) (zN x g)*g n=x*(a9 n g*g n);rw [zO n x g,jA]
theorem MY(j:Nat):(sgn j).natAbs=1:=by unfold sgn;split <;> rfl
theorem CA:∀(C:List Nat) (v:aC) (g:Nat→Nat),(∀i c,(v i c).natAbs≤g i)→(aK C v).natAbs≤bA C.length*a9 C.length g
 | [],_,_,_=>by show (1:Int).natAbs≤1*1;decide
 | c::C,v,g,h=>by
  rw [zM];refine aq (GI (M:=bA C.length*a9 (C.length+1) g) _ _ fun j hj=>?_) (ki ?_)
  ·rw [bz,bz,MY,Nat.one_mul]
   have d:=CA C (bS j v) (kT j g) fun i c'=>by
    unfold bS kT
    split
    ·exact h _ _
    ·exact h _ _
   refine aq (aZ (h j c) d) (ki ?_);rw [←GJ C.length j g (by lia),qU,iT (g j)]
  ·rw [cS,bA,jA]
variable {g:Nat→Nat}
theorem Wn(h:∀i c,(R i c).natAbs≤g i)(c k:Nat):(jW C R c k).natAbs≤C.length*(bA C.length*a9 C.length g):=by
 have e:jW C R c k=ag C.length fun i=>R i k*(-(sgn i)*aK C (aW (g9 c) (bS i R))):=by unfold jW;rw [qf];lia
 rw [e];refine GI _ _ fun i hi=>?_;rw [bz,bz,qR,MY,Nat.one_mul];have d:=CA C (aW (g9 c) (bS i R)) (zN 1 (kT i g)) fun j c'=>by
  cases j with
  | zero=>
   show (g9 c c').natAbs≤1;unfold g9
   split <;> decide
  | succ j=>
   show (bS i R j c').natAbs≤kT i g j;unfold bS kT
   split
   ·exact h _ _
   ·exact h _ _
 refine aq (aZ (h i k) d) (ki ?_);obtain ⟨m,em⟩:∃m,C.length=m+1:=⟨C.length-1,by lia⟩
 rw [em,zO,Nat.one_mul,←GJ m i g (by lia),qU,iT (g i)]
theorem GK:∀{n:Nat} {g:Nat→Nat},(∀i,1≤g i)→1≤a9 n g
 | 0,_,_=>aH _
 | n+1,g,h=>aZ (GK h) (h n)
theorem MZ:∀n,1≤bA n
 | 0=>aH _
 | n+1=>aZ (by lia:1≤n+1) (MZ n)
theorem zP:∀{m n:Nat},m≤n→bA m≤bA n
 | m,n,h=>by
  by_cases e:m=n;·rw [e];exact aH _
  ·obtain ⟨n',rfl⟩:∃n',n=n'+1:=⟨n-1,by lia⟩
   exact aq (zP (by lia)) (fO _ (by lia))
def setG(g:Nat→Nat)(r x:Nat):Nat→Nat:=fun i=>if i=r then x else g i
theorem vy:∀(n r:Nat) (g:Nat→Nat),r<n→a9 n (setG g r 1)*g r=a9 n g
 | 0,_,_,h=>by lia
 | n+1,r,g,h=>by
  show a9 n (setG g r 1)*setG g r 1 n*g r=a9 n g*g n;by_cases e:r=n
  ·subst e
   rw [show setG g r 1 r=1 from ak rfl,Nat.mul_one,show a9 r (setG g r 1)=a9 r g from lZ fun i hi=>ao (by lia)]
  ·rw [show setG g r 1 n=g n from ao (fun z=>e z.symm),Nat.mul_right_comm,vy n r g (by lia)]
def jX(r n:Nat)(g:Nat→Nat):Nat:=a9 (n-r) fun i=>g (r+i)
variable {r n:Nat}
theorem Wo(h:r<n)(g:Nat→Nat):jX r n g=g r*jX (r+1) n g:=by
 unfold jX;obtain ⟨m,e⟩:∃m,n-r=m+1:=⟨n-r-1,by lia⟩
 rw [e,show n-(r+1)=m by lia,←zO]
 refine lZ fun i _=>?_;cases i with
 | zero=>rfl
 | succ i=>show g (r+(i+1))=g (r+1+i);congr 1;lia
def jk(g:Nat→Nat)(r s:Nat):Nat→Nat:=fun i=>if i=s then g r else if i=r then g s else g i
variable {s:Nat}
theorem Wq(hr:r<n)(hs:r≤s)(sn:s<n)(g:Nat→Nat):jX r n (jk g r s)=jX r n g:=by
 by_cases e:s=r
 ·subst e
  have:jk g s s=g:=funext fun i=>by unfold jk;split <;> simp_all
  rw [this]
 ·unfold jX
  have h1:=vy (n-r) 0 (fun i=>g (r+i)) (by lia)
  have h2:=vy (n-r) (s-r) (setG (fun i=>g (r+i)) 0 1) (by lia)
  have k1:=vy (n-r) 0 (fun i=>jk g r s (r+i)) (by lia)
  have k2:=vy (n-r) (s-r) (setG (fun i=>jk g r s (r+i)) 0 1) (by lia)
  have a1:setG (fun i=>g (r+i)) 0 1 (s-r)=g s:=by
   show (if s-r=0 then 1 else g (r+(s-r)))=g s
   rw [ao (by lia),show r+(s-r)=s by lia]
  have b1:setG (fun i=>jk g r s (r+i)) 0 1 (s-r)=g r:=by
   show (if s-r=0 then 1 else jk g r s (r+(s-r)))=g r
   rw [ao (by lia),show r+(s-r)=s by lia]
   exact ak rfl
  have b2:jk g r s (r+0)=g s:=by unfold jk;rw [ao (by lia),ak (by lia)]
  have c:setG (setG (fun i=>jk g r s (r+i)) 0 1) (s-r) 1=setG (setG (fun i=>g (r+i)) 0 1) (s-r) 1:=funext fun i=>by
   unfold setG jk;by_cases z1:i=s-r;·rw [ak z1,ak z1]
   ·rw [ao z1,ao z1]
    by_cases z2:i=0;·rw [ak z2,ak z2]
    ·rw [ao z2,ao z2]
     dsimp only;rw [ao (by lia),ao (by lia)]
  rw [←h1,←k1,←h2,←k2,c,a1,b1];rw [b2,show r+0=r from rfl,Nat.mul_right_comm]
def Made(q:Int)(n:Nat)(A:aC)(f:Nat→Int):Prop:=∃(e:Int) (x:Nat→Int),¬q∣e∧∀k,Cg q (e*f k) (ag n fun t=>x t*A t k)
theorem vz(hq:aB q):¬q∣1:=fun h=>by
 rcases hq with rfl | ⟨h2,_⟩
 ·have:=kn.mp h
  lia
 ·have:=uX (by decide) h
  lia
variable {t:Nat}
theorem Wr(ht:t<n)(f:Nat→Int):(ag n fun i=>(if i=t then 1 else 0)*f i)=f t:=by
 have e:(fun i=>(if i=t then (1:Int) else 0)*f i)=fun i=>if i=t then f i else 0:=funext fun i=>by
  by_cases h:i=t;·rw [ak h,ak h,mG]
  ·rw [ao h,ao h,gX]
 rw [e,kS n t f ht]
theorem vA(hq:aB q)(ht:t<n)(A:aC):Made q n A (A t):=
 ⟨1,fun i=>if i=t then 1 else 0,vz hq,fun k=>Cg.of_eq (by rw [Wr ht fun i=>A i k];lia)⟩
variable {A:aC} {f:Nat→Int} {u:Int}
theorem CB(hq:aB q){g:Nat→Int}{b:Int}(nu:¬q∣u)(hf:Made q n A f)(hg:Made q n A g)(e:∀k,Cg q (u*h k) (a*f k-b*g k)):Made q n A h:=by
 obtain ⟨e1,x,n1,h1⟩:=hf;obtain ⟨e2,y,n2,h2⟩:=hg;refine ⟨e1*e2*u,fun t=>a*e2*x t-b*e1*y t,lV hq (lV hq n1 n2) nu,fun k=>?_⟩;have z1:=(e k).mulL (e1*e2);have z2:=(h1 k).mulL (a*e2);have z3:=(h2 k).mulL (b*e1);have z4:=z2.sub z3;rw [show (fun t=>(a*e2*x t-b*e1*y t)*A t k)=fun t=>a*e2*(x t*A t k) + -(b*e1)*(y t*A t k) from funext fun t=>by grind,m5,←a8,←a8]
 refine (Cg.of_eq (by grind)).trans (z1.trans ((Cg.of_eq ?_).trans (z4.trans (Cg.of_eq ?_))))
 ·grind
 ·grind
structure dZ (q:Int) (n:Nat) (A M:aC) (L:List Nat) (cur:Nat):Prop where
 len:L.length≤n
 lt:∀c∈L,c<cur
 up:L.Pairwise (· < ·)
 lead:∀j,j<L.length→¬q∣M j (L.getD j 0)
 off:∀i j,i<n→j<L.length→i≠j→Cg q (M i (L.getD j 0)) 0
 low:∀i k,i<n→L.length≤i→k<cur→Cg q (M i k) 0
 so:∀j k,j<L.length→k<L.getD j 0→Cg q (M j k) 0
 qh:∀i,i<n→Made q n A (M i)
 ofM:∀t,t<n→Made q n M (A t)
theorem dZ.start(hq:aB q)(n:Nat)(A:aC):dZ q n A A [] 0:=
 ⟨eJ _,fun _ h=>by simp at h,.nil,fun _ h=>by simp at h,fun _ _ _ h=>by simp at h,fun _ _ _ _ h=>by lia,fun _ _ h=>by simp at h,fun i hi=>vA hq hi A,fun i hi=>vA hq hi A⟩
variable {M:aC} {L:List Nat} {cur:Nat}
theorem dZ.skip(h:dZ q n A M L cur)(z:∀i,i<n→L.length≤i→Cg q (M i cur) 0):dZ q n A M L (cur+1):=
 ⟨h.len,fun c hc=>yR (h.lt c hc),h.up,h.lead,h.off,fun i k hi hl hk=>by
  by_cases e:k=cur;·rw [e];exact z i hi hl
  ·exact h.low i k hi hl (by lia),h.so,h.qh,h.ofM⟩
theorem M3(hq:aB q)(n:Nat)(A:aC):Made q n A fun _=>0:=
 ⟨1,fun _=>0,vz hq,fun k=>Cg.of_eq (by rw [show (fun t=>(0:Int)*A t k)=fun _=>0 from funext fun t=>gX _,e_];rfl)⟩
theorem M4{q:Int}(hq:aB q){n:Nat}{A:aC}(y:Nat→Int)(g:aC):∀m,(∀i,i<m→Made q n A (g i))→Made q n A fun k=>ag m fun i=>y i*g i k
 | 0,_=>M3 hq n A
 | m+1,h=>CB hq (u:=1) (a:=1) (b:=-(y m)) (vz hq) (M4 hq y g m fun i hi=>h i (by lia)) (h m (by lia)) fun k=>Cg.of_eq (by rw [m6];grind)
theorem M5(hq:aB q){m:Nat}{B:aC}(h:∀i,i<m→Made q n A (B i))(hf:Made q m B f):Made q n A f:=by obtain ⟨e,y,ne,hy⟩:=hf;exact CB hq (u:=e) (a:=1) (b:=0) ne (M4 hq y B m h) (M3 hq n A) fun k=>(hy k).trans (Cg.of_eq (by grind))
theorem fi{x:Int}(hq:aB q)(nu:¬q∣u)(h:Cg q (u*x) 0):Cg q x 0:=by unfold Cg at h ⊢;rw [Int.sub_zero] at h ⊢;exact gE fun nx=>lV hq nu nx h
variable {M':aC}
theorem dZ.swap(hq:aB q)(h:dZ q n A M L cur)(hs:L.length≤s)(sn:s<n)(e1:M' L.length=M s)(e2:M' s=M L.length)(e3:∀i,i≠L.length→i≠s→M' i=M i):dZ q n A M' L cur:=by
 have rn:L.length<n:=by lia
 have up:∀i,i<n→∃i',i'<n∧M' i=M i'∧(i<L.length→i'=i)∧(L.length≤i→L.length≤i'):=fun i hi=>by
  by_cases z1:i=L.length;·exact ⟨s,sn,by rw [z1,e1],fun _=>by lia,fun _=>hs⟩
  ·by_cases z2:i=s
   ·exact ⟨L.length,rn,by rw [z2,e2],fun _=>by lia,fun _=>aH _⟩
   ·exact ⟨i,hi,e3 i z1 z2,fun _=>rfl,fun z=>z⟩
 have dn:∀i,i<n→∃i',i'<n∧M i=M' i':=fun i hi=>by
  by_cases z1:i=L.length;·exact ⟨s,sn,by rw [z1,e2]⟩
  ·by_cases z2:i=s
   ·exact ⟨L.length,rn,by rw [z2,e1]⟩
   ·exact ⟨i,hi,(e3 i z1 z2).symm⟩
 refine ⟨h.len,h.lt,h.up,fun j hj=>?_,fun i j hi hj ne=>?_,fun i k hi hl hk=>?_,fun j k hj hk=>?_,fun i hi=>?_,fun t ht=>?_⟩
 ·rw [e3 j (by lia) (by lia)]
  exact h.lead j hj
 ·obtain ⟨i',h1,h2,h3,h4⟩:=up i hi
  rw [h2];refine h.off i' j h1 hj fun z=>?_;by_cases y:i<L.length;·have:=h3 y;lia
  ·have:=h4 (by lia);lia
 ·obtain ⟨i',h1,h2,h3,h4⟩:=up i hi
  rw [h2];exact h.low i' k h1 (h4 hl) hk
 ·rw [e3 j (by lia) (by lia)]
  exact h.so j k hj hk
 ·obtain ⟨i',h1,h2,_⟩:=up i hi
  rw [h2];exact h.qh i' h1
 ·refine M5 hq (fun i hi=>?_) (h.ofM t ht)
  obtain ⟨i',h1,h2⟩:=dn i hi;rw [h2];exact vA hq h1 M'
theorem dZ.step(hq:aB q)(h:dZ q n A M L c)(rn:L.length<n)(nu:¬q∣u)(np:¬q∣M L.length c)(eh:M' L.length=M L.length)
  (e:∀i k,i<n→i≠L.length→Cg q (u*M' i k) (M L.length c*M i k-M i c*M L.length k)):dZ q n A M' (L++[c]) (c+1):=by
 have g1:∀j,j<L.length→(L++[c]).getD j 0=L.getD j 0:=fun j hj=>by rw [cu,fD hj,←cu]
 have g2:(L++[c]).getD L.length 0=c:=by rw [cu,fN (aH _),mF];rfl
 have CD:∀i,i<n→i≠L.length→Cg q (M' i c) 0:=fun i hi ne=>fi hq nu ((e i c hi ne).trans (Cg.of_eq (by grind)))
 have Ws:(L++[c]).length=L.length+1:=by simp
 refine ⟨by lia,fun c' eQ=>?_,?_,fun j hj=>?_,fun i j hi hj ne=>?_,fun i k hi hl hk=>?_,fun j k hj hk=>?_,fun i hi=>?_,fun t ht=>?_⟩
 ·rcases kh.mp eQ with z | z
  ·exact yR (h.lt c' z)
  ·rw [i8.mp z];lia
 ·rw [List.pairwise_append]
  exact ⟨h.up,List.pairwise_singleton ..,fun a ha b hb=>by rw [i8.mp hb];exact h.lt a ha⟩
 ·by_cases z:j=L.length
  ·rw [z,g2,eh];exact np
  ·rw [g1 j (by lia)]
   intro d;have w:=e j (L.getD j 0) (by lia) z
   have o:=(h.off L.length j rn (by lia) (Ne.symm z)).mulL (M j c)
   have w2:=w.trans ((Cg.refl (M L.length c*M j (L.getD j 0))).sub o);rw [bU,Int.sub_zero] at w2;exact w2.nz (lV hq np (h.lead j (by lia))) (i9 d (pF ..))
 ·by_cases z:j=L.length
  ·rw [z,g2]
   exact CD i hi (by lia)
  ·rw [g1 j (by lia)]
   by_cases y:i=L.length
   ·rw [y,eh]
    exact h.off L.length j rn (by lia) (Ne.symm z)
   ·have w:=e i (L.getD j 0) hi y
    have zQ:=(h.off i j hi (by lia) ne).mulL (M L.length c)
    have o2:=(h.off L.length j rn (by lia) (Ne.symm z)).mulL (M i c)
    exact fi hq nu (w.trans ((zQ.sub o2).trans (Cg.of_eq (by simp))))
 ·rw [Ws] at hl
  by_cases z:k=c;·rw [z];exact CD i hi (by lia)
  ·have w:=e i k hi (by lia)
   have zQ:=(h.low i k hi (by lia) (by lia)).mulL (M L.length c)
   have o2:=(h.low L.length k rn (aH _) (by lia)).mulL (M i c)
   exact fi hq nu (w.trans ((zQ.sub o2).trans (Cg.of_eq (by simp))))
 ·by_cases z:j=L.length
  ·rw [z,g2] at hk
   rw [z,eh];exact h.low L.length k rn (aH _) hk
  ·rw [g1 j (by lia)] at hk
   have di:j<L.length:=by lia
   have hc:L.getD j 0<c:=h.lt _ (by rw [getD_at di];exact aQ _)
   have w:=e j k (by lia) z
   have zQ:=(h.so j k di hk).mulL (M L.length c);have o2:=(h.low L.length k rn (aH _) (by lia)).mulL (M j c)
   exact fi hq nu (w.trans ((zQ.sub o2).trans (Cg.of_eq (by simp))))
 ·by_cases z:i=L.length
  ·rw [z,eh];exact h.qh _ rn
  ·exact CB hq nu (h.qh i hi) (h.qh _ rn) fun k=>e i k hi z
 ·refine M5 hq (fun i hi=>?_) (h.ofM t ht)
  by_cases z:i=L.length;·rw [z,←eh];exact vA hq rn M'
  ·refine CB hq (u:=M L.length c) (a:=u) (b:=-(M i c)) np (vA hq hi M') (vA hq rn M') fun k=>?_
   have w:=e i k hi z;have w2:=(Cg.refl (M i c*M L.length k)).add w.symm;rw [eh];exact (Cg.of_eq (by grind)).trans (w2.trans (Cg.of_eq (by grind)))
theorem GL{q:Int}{f:Nat→Int}{m:Nat}:∀{n:Nat},m≤n→(∀i,m≤i→i<n→Cg q (f i) 0)→Cg q (ag n f) (ag m f)
 | n,h,z=>by
  by_cases e:n=m;·rw [e];exact Cg.refl _
  ·obtain ⟨n',rfl⟩:∃n',n=n'+1:=⟨n-1,by lia⟩
   rw [m6];have a:=(GL (n:=n') (by lia) fun i h1 h2=>z i h1 (by lia)).add (z n' (by lia) (by lia))
   rw [yT] at a;exact a
theorem dZ.done{W:Nat}(h:dZ q n A M L W)(ht:t<n) :
  ∃(e:Int) (y:Nat→Int),¬q∣e∧(∀k,k<W→Cg q (e*A t k) (ag L.length fun j=>y j*M j k))∧∀j,j<L.length→Cg q (e*A t (L.getD j 0)) (y j*M j (L.getD j 0)):=by
 obtain ⟨e,y,ne,hy⟩:=h.ofM t ht;have sm:∀k,k<W→Cg q (e*A t k) (ag L.length fun j=>y j*M j k):=fun k hk=>(hy k).trans (GL h.len fun i h1 h2=>by have:=(h.low i k h2 h1 hk).mulL (y i);rw [bU] at this;exact this)
 refine ⟨e,y,ne,sm,fun j hj=>?_⟩;have hc:L.getD j 0<W:=h.lt _ (by rw [getD_at hj];exact aQ _)
 refine (sm _ hc).trans ?_;have z:Cg q (ag L.length fun i=>y i*M i (L.getD j 0)) (ag L.length fun i=>if i=j then y i*M i (L.getD j 0) else 0):=cU fun i hi=>by
  by_cases e:i=j;·rw [ak e];exact Cg.refl _
  ·rw [ao e]
   have:=(h.off i j (dy hi h.len) hj e).mulL (y i);rw [bU] at this;exact this
 rw [kS L.length j (fun i=>y i*M i (L.getD j 0)) hj] at z;exact z
structure gO (P n:Nat) (M:aC) (C:List Nat) (R:aC) (g G:Nat→Nat):Prop where
 sp:qg C R
 d0:aK C R≠0
 oS:∀j,j<C.length→M j=jW C R (C.reverse.getD j 0)
 aY:∀i,C.length≤i→i<n→∃f,(∀k,(f k).natAbs≤G i)∧M i=iK C R f
 len:C.length≤n
 bR:∀i k,(R i k).natAbs≤g i
 pos:∀i,1≤G i
 zR:a9 C.length g*jX C.length n G≤P
variable {P:Nat} {G:Nat→Nat}
theorem gO.start(A:aC)(hb:∀i k,(A i k).natAbs≤G i)(pos:∀i,1≤G i)(hP:a9 n G≤P):gO P n A [] (fun _ _=>0) (fun _=>1) G:=
 ⟨Wh _,by show (1:Int)≠0;decide,fun j hj=>by simp at hj,fun i _ _=>⟨A i,hb i,funext fun k=>(Wj _ (A i) k).symm⟩,eJ _,fun _ _=>by simp,pos,by show 1*jX 0 n G≤P;unfold jX;rw [Nat.one_mul];refine aq (ki (lZ fun i _=>?_)) hP;rw [uY]⟩
theorem gO.swap(h:gO P n M C R g G)(hs:C.length≤s)(sn:s<n)(e1:M' C.length=M s)(e2:M' s=M C.length)(e3:∀i,i≠C.length→i≠s→M' i=M i):gO P n M' C R g (jk G C.length s):=by
 refine ⟨h.sp,h.d0,fun j hj=>?_,fun i hi hn=>?_,h.len,h.bR,fun i=>?_,?_⟩;·rw [e3 j (by lia) (by lia)];exact h.oS j hj
 ·unfold jk
  by_cases z1:i=s;·rw [ak z1,z1,e2];exact h.aY _ (aH _) (by lia)
  ·rw [ao z1]
   by_cases z2:i=C.length;·rw [ak z2,z2,e1];exact h.aY s hs sn
   ·rw [ao z2,e3 i z2 z1];exact h.aY i hi hn
 ·unfold jk
  split
  ·exact h.pos _
  ·split
   ·exact h.pos _
   ·exact h.pos _
 ·rw [Wq (by lia) hs sn]
  exact h.zR
variable {i:Nat}
theorem gO.Wt(h:gO P n M C R g G)(rn:C.length<n)(nc:c∉C)(hi:i<n)(ne:i≠C.length) :
  ∃g:Nat→Int,∀k,M C.length c*M i k-M i c*M C.length k=aK C R*g k:=by
 obtain ⟨f,_,ef⟩:=h.aY _ (aH _) rn;by_cases z:i<C.length
 ·have e:=h.oS i z
  have ne':c≠C.reverse.getD i 0:=fun e=>nc (by
   rw [e];have hl:i<C.reverse.length:=by simpa using z
   rw [getD_at hl];exact BC.mp (aQ hl))
  refine ⟨jW (c::C) (aW f R) (C.reverse.getD i 0),fun k=>?_⟩;rw [e,ef];exact MX h.sp f ne' k
 ·obtain ⟨f',_,GN⟩:=h.aY i (by lia) hi
  refine ⟨iK (c::C) (aW f R) f',fun k=>?_⟩;rw [GN,ef];exact MW h.sp f' f c k
theorem gO.step(h:gO P n M C R g G)(rn:C.length<n)(nc:c∉C)(np:M C.length c≠0)(eh:M' C.length=M C.length)
  (e:∀i k,i<n→i≠C.length→aK C R*M' i k=M C.length c*M i k-M i c*M C.length k):∃R' g',gO P n M' (c::C) R' g' G∧aK (c::C) R'=M C.length c:=by
 obtain ⟨f,bf,ef⟩:=h.aY _ (aH _) rn;have ep:aK (c::C) (aW f R)=M C.length c:=by rw [ef];rfl
 have hp:aK (c::C) (aW f R)≠0:=by rw [ep];exact np
 refine ⟨aW f R,zN (G C.length) g,⟨Wi h.sp h.d0 hp,hp,fun j hj=>?_,fun i hi hn=>?_,rn,fun i k=>?_,h.pos,?_⟩,ep⟩
 ·rw [List.reverse_cons]
  by_cases z:j=C.length
  ·have g:(C.reverse++[c]).getD j 0=c:=by
    rw [z,cu,fN (by simp)]
    simp
   rw [g,z,eh,ef];exact funext fun k=>(Wm h.sp h.d0 f nc k).symm
  ·have di:j<C.length:=by simp at hj;lia
   have hl:j<C.reverse.length:=by simpa using di
   have g:(C.reverse++[c]).getD j 0=C.reverse.getD j 0:=by rw [cu,fD hl,←cu]
   rw [g];have ne':c≠C.reverse.getD j 0:=fun e=>nc (by rw [e,getD_at hl];exact BC.mp (aQ hl))
   funext k
   have w:=e j k (by lia) z
   rw [h.oS j di,ef,MX h.sp f ne' k] at w;exact lg h.d0 w
 ·have ne:i≠C.length:=by simp at hi;lia
  obtain ⟨f',Wu,GN⟩:=h.aY i (by simp at hi;lia) hn
  refine ⟨f',Wu,funext fun k=>?_⟩;have w:=e i k hn ne;rw [GN,ef,MW h.sp f' f c k] at w;exact lg h.d0 w
 ·cases i with
  | zero=>exact bf k
  | succ i=>exact h.bR i k
 ·rw [cS,zO,jA,qU,←Wo rn]
  exact h.zR
theorem M6(h:∀i,1≤g i):1≤jX r n g:=GK fun i=>h (r+i)
theorem M7(h:∀i,1≤g i)(hi:r≤i)(hn:i<n):g i≤jX r n g:=by
 unfold jX;rw [←vy (n-r) (i-r) (fun j=>g (r+j)) (by lia)]
 rw [show r+(i-r)=i by lia]
 exact fO _ (GK fun j=>by
  unfold setG
  split
  ·exact aH _
  ·exact h _)
theorem gO.bd(h:gO P n M C R g G)(hi:i<n)(k:Nat):(M i k).natAbs≤n*(bA n*P):=by
 by_cases z:i<C.length
 ·rw [h.oS i z]
  refine aq (Wn h.bR _ k) (aZ h.len (aZ (zP h.len) ?_));exact aq (ia _ (M6 h.pos)) h.zR
 ·obtain ⟨f,bf,ef⟩:=h.aY i (by lia) hi
  rw [ef];have d:=CA (k::C) (aW f R) (zN (G i) g) fun j c=>by
   cases j with
   | zero=>exact bf c
   | succ j=>exact h.bR j c
  rw [cS,zO] at d;refine aq d (aq (aZ (zP (show C.length+1≤n by lia)) ?_) (fO _ (by lia)))
  rw [iT];exact aq (gW _ (M7 h.pos (by lia) hi)) h.zR
theorem gO.M8(h:gO P n M C R g G)(n0:1≤n):(aK C R).natAbs≤n*(bA n*P):=by refine aq (CA C R g h.bR) (aq (aZ (zP h.len) ?_) (fO _ n0));exact aq (ia _ (M6 h.pos)) h.zR
theorem gO.lead(h:gO P n M C R g G)(hj:j<C.length):M j (C.reverse.getD j 0)=aK C R:=by
 have hl:j<C.reverse.length:=by simpa using hj
 rw [h.oS j hj,Wk _ _ (by rw [getD_at hl];exact BC.mp (aQ hl)),ak rfl]
structure oT (q:Int) (n:Nat):Prop where
 zS:n≤40
 l4:q=0→n≤4
def Wv(C:Addr):Sp:=fun vs H Q _=>∃(z:Addr) (q:Int) (n i:Nat),vs=[.ref z,.int (n:Int),.int (i:Int)]∧fK C H z q∧aB q∧n≤40∧i<n∧∀(r:Addr) (H':Hp),ah H H'→H r=none→V4 H' q r (jV n i)→Q (.ref r) H'
end My
namespace L2
open PySem PySem.Spec PyProof.Rows
def Ww(K:aJ):R2:=fun x y H Q=>∃(a b:Addr) (xs ys:List Int),x=.ref a∧y=.ref b∧bP K H a (xs.map V.int)∧bP K H b (ys.map V.int)∧Q (.bl (!decide (xs=ys))) H
theorem Wx{xs ys:List Int}(h:xs.length=ys.length):((List.range xs.length).all fun j=>gc (.int (xs.getD j 0)) (.int (ys.getD j 0)))=decide (xs=ys):=by
 by_cases e:xs=ys
 ·subst e
  rw [dj rfl,k9];intro j _;exact Cr rfl
 ·rw [fq e]
  cases z:((List.range xs.length).all fun j=>gc (.int (xs.getD j 0)) (.int (ys.getD j 0))) with
  | false=>rfl
  | true=>refine absurd (uZ h fun j h1 h2=>?_) e;have:=k9.mp z j (fe.mpr h1);have this:(xs.getD j 0 == ys.getD j 0)=true:=this;rw [mD,cu,cu] at this;simpa [h1,h2] using this
theorem Wy{X:Cx}(hu:X.A.units+64<cLine):cT X (compareOp .NotEq) (Ww X.K):=by
 intro pins s σ H x y v u Q I rx ry h;obtain ⟨a,b,xs,ys,rfl,rfl,h1,h2,q⟩:=h;cases rx;cases ry;obtain ⟨us,r1,t1,_⟩:=I.list h1;obtain ⟨vs,r2,t2,_⟩:=I.list h2;have l1:=r1.length;have l2:=r2.length;rw [bL] at l1 l2;by_cases hl:xs.length=ys.length
 ·refine SeqAt.RcNeAt.lists (e:=fun j=>gc (.int (xs.getD j 0)) (.int (ys.getD j 0))) t1.isList t2.isList (by simp;lia) (by lia) (fun j z1 z2=>?_) _ _ _ _ ?_
  ·have zF:j<us.length:=by simpa using z1
   have zG:j<vs.length:=by simpa using z2
   have ex:(xs.map V.int)[j]?=some (.int (xs.getD j 0)):=by rw [cF,cu];simp [show j<xs.length by lia]
   have ey:(ys.map V.int)[j]?=some (.int (ys.getD j 0)):=by rw [cF,cu];simp [show j<ys.length by lia]
   obtain ⟨x',ko,rx⟩:=r1.get ex;obtain ⟨y',lT,ry⟩:=r2.get ey;have e1:us.toArray[j]=x':=by simpa using (aP.mp ko).2
   have e2:vs.toArray[j]=y':=by simpa using (aP.mp lT).2
   rw [e1,e2];exact rF rx ry rfl rfl
  ·rw [show us.toArray.size=xs.length by simp;lia,Wx hl]
   exact ⟨.bl (!decide (xs=ys)),H,I,rfl,q⟩
 ·rw [fq (fun e=>hl (by rw [e]))] at q
  refine SeqAt.RcNeAt.lists_lengths t1.isList t2.isList ?_ (by lia) _ _ _ _ ⟨.bl true,H,I,rfl,q⟩
  simp;lia
end L2
namespace My
open PySem L2
def M9(H:Hp)(a:Addr)(n W:Nat)(M:aC):Prop:=∃vs:List V,H a=some (.lst vs)∧vs.length=n∧∀(i:Nat) (v:V),vs[i]?=some v→∃x:Addr,v=.ref x∧H x=some (.lst (((List.range W).map (M i)).map V.int))
def jY(H:Hp)(a l:Addr)(n W:Nat)(M:aC):Prop:=∃vs:List V,H a=some (.lst vs)∧vs.length=n∧a≠l∧∀(i:Nat) (v:V),vs[i]?=some v→∃x:Addr,v=.ref x∧x≠a∧x≠l∧H x=some (.lst (((List.range W).map (M i)).map V.int))
variable {H H':Hp} {a l:Addr} {n W:Nat} {M:aC}
theorem jY.mono(h:jY H a l n W M)(s:ah H H'):jY H' a l n W M:=by obtain ⟨vs,e,l,ne,k⟩:=h;exact ⟨vs,s _ _ e,l,ne,fun i v hv=>by obtain ⟨x,e1,n1,n2,e2⟩:=k i v hv;exact ⟨x,e1,n1,n2,s _ _ e2⟩⟩
theorem jY.rows(h:jY H a l n W M):M9 H a n W M:=by obtain ⟨vs,e,l,ne,k⟩:=h;exact ⟨vs,e,l,fun i v hv=>by obtain ⟨x,e1,n1,n2,e2⟩:=k i v hv;exact ⟨x,e1,e2⟩⟩
theorem jY.off(h:jY H a l n W M)(o:HO):jY (upd H l o) a l n W M:=by obtain ⟨vs,e,l,ne,k⟩:=h;exact ⟨vs,by rw [bI ne];exact e,l,ne,fun i v hv=>by obtain ⟨x,e1,n1,n2,e2⟩:=k i v hv;exact ⟨x,e1,n1,n2,by rw [bI n2];exact e2⟩⟩
variable {c:Nat}
theorem qi(hc:c<W)(f:Nat→Int):da (((List.range W).map f).map V.int) (c:Int)=some (.int (f c)):=cK (by simp [hc])
def bT(M:aC)(r s:Nat):Nat→Nat→Int:=fun i=>if i=s then M r else if i=r then M s else M i
def Wz:Sp:=fun vs H Q _=>∃(a:Addr) (n W r c:Nat) (M:aC),vs=[.ref a,.int (r:Int),.int (c:Int)]∧M9 H a n W M∧r≤n∧n≤100∧c<W∧(∀s,r≤s→s<n→M s c≠0→Q (.int (s:Int)) H)∧((∀s,r≤s→s<n→M s c=0)→Q .aY H)
def WC:Sp:=fun vs H Q _=>∃(a l:Addr) (n W r s:Nat) (M:aC),vs=[.ref a,.int (r:Int),.int (s:Int)]∧jY H a l n W M∧(∃o,H l=some o)∧r<n∧s<n∧∀(b:Addr) (H':Hp),ah H H'→H b=none→jY H' b l n W (bT M r s)→Q (.ref b) H'
def WD(C:Addr):Sp:=fun vs H Q _=>∃(z a b:Addr) (q last:Int) (W c:Nat) (f g e:Nat→Int),vs=[.ref z,.ref a,.ref b,.int (c:Int),.int last]∧fK C H z q∧aB q∧H a=some (.lst (((List.range W).map f).map V.int))∧H b=some (.lst (((List.range W).map g).map V.int))∧c<W∧W≤100∧(∀k,k<W→cC (f k)∧cC (g k))∧cC last∧last≠0 ∧
 (q=0→∀k,k<W→g c*f k-f c*g k=last*e k)∧(q≠0→∀k,k<W→e k=(g c*f k-f c*g k) % q)∧∀(r:Addr) (H':Hp),ah H H'→H r=none→H' r=some (.lst (((List.range W).map e).map V.int))→Q (.ref r) H'
theorem GO(W:Nat)(f g:Nat→Int)(h:Int→Int→Int):((((List.range W).map f).zip ((List.range W).map g)).map fun ab=>h ab.1 ab.2)=(List.range W).map fun k=>h (f k) (g k):=by rw [List.zip_map',List.map_map];rfl
theorem GP{K:aJ}{wi:TI}{ρ:St→St}{te:TE}{σ:St}{Q:VK}{xs ys:List Int}(g:Int→Int→Int)(hn:xs.length≤500)
  (gL:∀R:It→Hp→Prop,(∀J H1,ah H H1→Cs J ((xs.map V.int).zip (ys.map V.int)) H1→R J H1)→wi σ H R)
  (step:∀x y,(x,y)∈xs.zip ys→∀(Hc:Hp) (R:VK),ah H Hc→(∀H3,ah Hc H3→R (.int (g x y)) H3)→te (some (.int x)::some (.int y)::ρ σ) Hc R)
  (fin:∀D Hc,H D=none→ah H Hc→Hc D=some (.lst (((xs.zip ys).map fun ab=>g ab.1 ab.2).map V.int))→Q (.ref D) Hc):vt K wi ρ (fun _ H Q=>Q true H) te σ H Q:=by
 have lz:((xs.map V.int).zip (ys.map V.int)).length=(xs.zip ys).length:=by simp [jB]
 have at':∀(i:Nat) (v u:V),((xs.map V.int).zip (ys.map V.int))[i]?=some (v,u)→∃x y,(xs.zip ys)[i]?=some (x,y)∧v=.int x∧u=.int y:=fun i v u e=>by
  obtain ⟨h1,h2⟩:=k_.mp e;rw [cF] at h1 h2;cases e1:xs[i]? with
  | none=>rw [e1] at h1;cases h1
  | some x=>
   cases e2:ys[i]? with
   | none=>rw [e2] at h2;cases h2
   | some y=>rw [e1] at h1;rw [e2] at h2;cases h1;cases h2;exact ⟨x,y,k_.mpr ⟨e1,e2⟩,rfl,rfl⟩
 refine Cy (Z:=fun zs _=>zs=(xs.map V.int).zip (ys.map V.int)) (fun R h=>gL R fun J H1 s1 js=>h J H1 _ s1 js (by rw [lz,jB];exact dO (by lia)) rfl) (fun _ i v _=>∃x y,(xs.zip ys)[i]?=some (x,y)∧v=.int (g x y)) (fun _ _ _ _ _ _ h _ _=>h) ?_ ?_
 ·rintro zs H1 rfl s1 D i v u hi Hc R sc _ kc
  obtain ⟨x,y,e,rfl,rfl⟩:=at' i v u hi;exact step x y (pD e) Hc R (s1.trans sc) fun H3 s3=>kc _ H3 s3 ⟨x,y,e,rfl⟩
 ·rintro zs H1 rfl s1 D vs Hc nD sc WE hP eD
  have ey:vs=((xs.zip ys).map fun ab=>g ab.1 ab.2).map V.int:=p9 (by rw [WE,lz,bL]) fun i v e=>by obtain ⟨x,y,e1,e2⟩:=hP i v e;exact ⟨g x y,by rw [cF,e1];rfl,e2⟩
  rw [ey] at eD;exact fin D Hc nD (s1.trans sc) eD
def WG(C:Addr):Sp:=fun vs H Q _=>∃(z a:Addr) (q:Int) (W c:Nat) (f:Nat→Int) (B:Nat),vs=[.ref z,.ref a,.int (c:Int)]∧fK C H z q∧aB q∧H a=some (.lst (((List.range W).map f).map V.int))∧c<W∧W≤100∧¬q∣f c∧cC (f c)∧(∀k,k<W→(f k).natAbs≤B) ∧
 ∀(r:Addr) (ps:aD) (H':Hp),ah H H'→H r=none→aI B H' q r ps→ps.length=W→(∀i,i<W→aO q (ps.getD i o1) (f i,f c))→Q (.ref r) H'
def bE(B:Nat)(H:Hp)(q:Int)(a:Addr)(aa:aG):Prop:=∃vs:List V,H a=some (.lst vs)∧vs.length=aa.length∧∀(i:Nat) (v:V) (ps:aD),vs[i]?=some v→aa[i]?=some ps→∃r:Addr,v=.ref r∧aI B H q r ps
variable {B:Nat} {q:Int} {aa:aG}
theorem bE.mono(h:bE B H q a aa)(s:ah H H'):bE B H' q a aa:=by obtain ⟨vs,e,l,k⟩:=h;exact ⟨vs,s _ _ e,l,fun i v ps h1 h2=>by obtain ⟨r,e1,e2⟩:=k i v ps h1 h2;exact ⟨r,e1,e2.mono s⟩⟩
variable {B':Nat}
theorem bE.weak(h:bE B H q a aa)(hb:B≤B'):bE B' H q a aa:=by obtain ⟨vs,e,l,k⟩:=h;exact ⟨vs,e,l,fun i v ps h1 h2=>by obtain ⟨r,e1,e2⟩:=k i v ps h1 h2;exact ⟨r,e1,e2.weak hb⟩⟩
def WH(N:Addr):Sp:=fun vs H Q E=>∃(a:Addr) (q:Int) (B:Nat) (aa:aG) (m:Nat),vs=[.ref a]∧bE B H q a aa∧1≤aa.length∧aa.length≤40∧(∀ps∈aa,ps.length=m)∧∀H',ah H H'→Q (.int (m:Int)) H'
def WI(N:Addr):Sp:=fun vs H Q E=>∃(a:Addr) (q:Int) (B:Nat) (aa:aG) (m:Nat),vs=[.ref a]∧bE B H q a aa∧1≤aa.length∧aa.length≤40∧(∀ps∈aa,ps.length=m)∧(m≠aa.length→∀H',ah H H'→E (.ref N) none H')∧(m=aa.length→∀H',ah H H'→Q (.int (m:Int)) H')
def WJ:Sp:=fun vs H Q _=>∃(a b:Addr) (q:Int) (B:Nat) (aa af:aG) (m u:Nat),vs=[.ref a,.ref b]∧bE B H q a aa∧bE B H q b af∧aa.length=af.length∧aa.length≤40∧(∀ps∈aa,ps.length=m)∧(∀ps∈af,ps.length=u)∧m≤40∧u≤40∧∀(r:Addr) (H':Hp),ah H H'→H r=none→bE B H' q r (List.zipWith (·++·) aa af)→Q (.ref r) H'
def eE(q:Int)(E:Nat)(ps:aD):Prop:=∃(D:Int) (x:Nat→Int),aF q D∧D.natAbs≤E∧(∀p∈ps,p.2∣D)∧∀i,i<ps.length→(ps.getD i o1).1*D=x i*(ps.getD i o1).2∧(x i).natAbs≤E
variable {D x:Int} {E:Nat}
theorem WK{t u m b:Int}(e1:t*m=u*b)(e2:u*D=x*m)(hb:b∣D)(m0:m≠0)(b0:b≠0)(D0:D≠0)(hx:x.natAbs≤E):t.natAbs≤E:=by
 obtain ⟨e,rfl⟩:=hb;have e0:e≠0:=fun z=>D0 (by rw [z,bU])
 have h:m*(b*(t*e))=m*(b*x):=by
  have:t*m*(b*e)=u*b*(b*e):=by rw [e1]
  have:b*(u*(b*e))=b*(x*m):=by rw [e2]
  grind
 have h:=lg b0 (lg m0 h);refine aq ?_ hx;rw [←h,bz];exact ia _ (iU.mpr e0)
theorem M_:∀(n m:Nat) (f:Nat→Int),ag (n+m) f=ag n f+ag m fun i=>f (n+i)
 | 0,m,f=>by rw [uY,show ag 0 f=0 from rfl,n5];exact cm fun i _=>by rw [uY]
 | n+1,m,f=>by
  rw [show n+1+m=(n+m)+1 by lia]
  show f 0+ag (n+m) (fun i=>f (i+1))=(f 0+ag n fun i=>f (i+1))+_;rw [M_ n m fun i=>f (i+1),Int.add_assoc]
  congr 2
  exact cm fun i _=>by rw [show n+i+1=n+1+i by lia]
theorem GQ(k:Nat):∀(n:Nat) (f:Nat→Int),ag (n*k) f=ag n fun i=>ag k fun j=>f (i*k+j)
 | 0,f=>by rw [Nat.zero_mul];rfl
 | n+1,f=>by
  rw [show (n+1)*k=k+n*k by rw [gT,Nat.add_comm],M_,GQ k n]
  show _=(ag k fun j=>f (0*k+j))+ag n fun i=>ag k fun j=>f ((i+1)*k+j)
  congr 1
  ·exact cm fun j _=>by rw [Nat.zero_mul,uY]
  ·exact cm fun i _=>cm fun j _=>by rw [gT,show k+(i*k+j)=i*k+k+j by lia]
theorem WL(n k:Nat)(F:aC):ag (n*k) (fun i=>F (i / k) (i % k))=ag n fun i=>ag k fun j=>F i j:=by rw [GQ];exact cm fun i _=>cm fun j hj=>by rw [lY hj,m4 hj]
theorem WM(n k:Nat)(f g:Nat→Int):ag (n*k) (fun i=>f (i / k)*g (i % k))=ag n f*ag k g:=by rw [WL n k fun i j=>f i*g j,d5,a8];exact cm fun i _=>by rw [←a8,d5]
theorem WN(n k:Nat)(a c b d:Nat→Int):ag (n*k) (fun i=>(a (i / k)*b (i % k))*(c (i / k)*d (i % k)))=(ag n fun i=>a i*c i)*ag k fun j=>b j*d j:=by rw [←WM n k (fun i=>a i*c i) fun j=>b j*d j];exact cm fun i _=>by rw [h_,h_,←h_ (b _),d5 (b _) (c _),h_ (c _)]
def cE(q:Int)(N M:Nat)(f:Nat→Nat→Int×Int)(A:aC)(D:Int):Prop:=aF q D∧∀i j,i<N→j<M→aO q (f i j) (A i j,D)
def atT(aa:aG)(i j:Nat):Int×Int:=(aa.getD i []).getD j o1
theorem Na{a b D1 D2:Int}{p r:Int×Int}(h1:aO q p (a,D1))(h2:aO q r (b,D2)):aO q (oQ p r) (a*b,D1*D2):=by obtain ⟨k1,e1⟩:=h1;obtain ⟨k2,e2⟩:=h2;dsimp only at e1 e2;refine ⟨k1*(r.1*D2)+a*p.2*k2,?_⟩;show p.1*r.1*(D1*D2)-a*b*(p.2*r.2)=_;grind
theorem WO{N M:Nat}(hb:∀ps∈aa,∀p∈ps,aF q p.2)(hN:aa.length=N)(hM:∀ps∈aa,ps.length=M):∃(A:aC) (D:Int),cE q N M (atT aa) A D:=by obtain ⟨D,A,h1,h2⟩:=V6 hb hN hM;exact ⟨A,D,h1,h2⟩
def kU(q:Int)(M:Nat)(g:Nat→Int×Int)(A:Nat→Int)(D:Int):Prop:=aF q D∧∀j,j<M→aO q (g j) (A j,D)
variable {ps:aD}
theorem jZ(hb:∀p∈ps,aF q p.2){M:Nat}(l:ps.length=M):∃(A:Nat→Int) (D:Int),kU q M (fun j=>ps.getD j o1) A D:=by obtain ⟨D,A,h1,h2⟩:=V5 hb;exact ⟨A,D,h1,fun j hj=>h2 j (by lia)⟩
structure g_ (q:Int) (P n W:Nat) (A M:aC) (L:List Nat) (last:Int) (cur:Nat):Prop where
 rd:dZ q n A M L cur
 bar:q=0→∃R g G,gO P n M L.reverse R g G∧last=aK L.reverse R
 rem:q≠0→∀i k,i<n→k<W→0≤M i k∧M i k<q
 lq:q≠0→0<last∧last<q
 iL:1000≤n*(bA n*P)
 mid:n*(bA n*P)<2 ^ 2048
 n1:1≤n
variable {P cur:Nat} {A:aC} {L:List Nat}
theorem g_.bd{last:Int}(h:g_ q P n W A M L last cur)(hq:aB q){i k:Nat}(hi:i<n)(hk:k<W):(M i k).natAbs≤n*(bA n*P):=by
 by_cases z:q=0
 ·obtain ⟨R,g,G,b,_⟩:=h.bar z
  exact b.bd hi k
 ·have:=h.rem z i k hi hk
  have:=h.iL;have:q≤997:=by rcases hq with h | h <;> lia
  lia
theorem g_.last{last:Int}(h:g_ q P n W A M L last cur)(hq:aB q):cC last∧last≠0:=by
 by_cases z:q=0
 ·obtain ⟨R,g,G,b,e⟩:=h.bar z
  exact ⟨by rw [e];exact dq (b.M8 h.n1) h.mid,by rw [e];exact b.d0⟩
 ·have:=h.lq z
  have:q≤997:=by rcases hq with h | h <;> lia
  exact ⟨cC.of_lt (by lia) (by lia),by lia⟩
theorem g_.start(hq:aB q){G:Nat→Nat}(hb:∀i k,(A i k).natAbs≤G i)(pos:∀i,1000≤G i)(hP:a9 n G≤P)(hm:n*(bA n*P)<2 ^ 2048)(n1:1≤n)(hr:q≠0→∀i k,i<n→k<W→0≤A i k∧A i k<q):g_ q P n W A A [] 1 0:=
 ⟨dZ.start hq n A,fun _=>⟨_,_,_,gO.start A hb (fun i=>aq (by decide) (pos i)) hP,rfl⟩,hr,fun z=>by
  rcases hq with h | h;·exact absurd h z
  ·lia,by
  have p1:1000≤a9 n G:=by
   have:=M7 (r:=0) (n:=n) (i:=0) (g:=G) (fun i=>aq (by decide) (pos i)) (aH _) (by lia)
   unfold jX at this;rw [Nat.sub_zero,show (fun i=>G (0+i))=G from funext fun i=>by rw [uY]] at this
   exact aq (pos 0) this
  exact aq (aq p1 hP) (aq (fO _ (MZ n)) (fO _ n1)),hm,n1⟩
theorem g_.skip{last:Int}(h:g_ q P n W A M L last cur)(z:∀s,L.length≤s→s<n→M s cur=0):g_ q P n W A M L last (cur+1):=
 ⟨h.rd.skip fun i hi hl=>Cg.of_eq (z i hl hi),h.bar,h.rem,h.lq,h.iL,h.mid,h.n1⟩
theorem Nb(hq:aB q)(h:q≠0→0≤x∧x<q)(n:x≠0):¬q∣x:=fun d=>by
 rcases hq with rfl | ⟨h2,_⟩;·exact n (kn.mp d)
 ·have:=h (by lia)
  have:=uX (by lia) d
  lia
theorem g_.next(hq:aB q){last:Int}{s:Nat}(h:g_ q P n W A M L last c)(cW:c<W)(hs:L.length≤s)(sn:s<n)(ns:M s c≠0) :
  ∃Ef:Nat→Nat→Int,(∀i,i<n→(q=0→∀k,bT M L.length s L.length c*bT M L.length s i k-bT M L.length s i c*bT M L.length s L.length k=last*Ef i k)∧(q≠0→∀k,Ef i k=(bT M L.length s L.length c*bT M L.length s i k-bT M L.length s i c*bT M L.length s L.length k) % q)) ∧
   g_ q P n W A (fun i=>if i=L.length then bT M L.length s L.length else Ef i) (L++[c]) (bT M L.length s L.length c) (c+1):=by
 have e1:bT M L.length s L.length=M s:=by
  unfold bT;by_cases z:L.length=s;·rw [ak z,z]
  ·rw [ao z,ak rfl]
 have e2:bT M L.length s s=M L.length:=ak rfl;have e3:∀i,i≠L.length→i≠s→bT M L.length s i=M i:=fun i z1 z2=>by unfold bT;rw [ao z2,ao z1]
 have rd:=h.rd.swap hq hs sn e1 e2 e3;have CF:q≠0→∀i k,i<n→k<W→0≤bT M L.length s i k∧bT M L.length s i k<q:=fun z i k hi hk=>by
  unfold bT
  split
  ·exact h.rem z _ k (by lia) hk
  ·split
   ·exact h.rem z _ k sn hk
   ·exact h.rem z _ k hi hk
 have rn:L.length<n:=by lia
 have lr:L.reverse.length=L.length:=by simp
 have nc:c∉L.reverse:=fun z=>by have:=h.rd.lt c (BC.mp z);lia
 have GR:q=0→∃R g G,gO P n (bT M L.length s) L.reverse R g G∧last=aK L.reverse R:=fun z=>by obtain ⟨R,g,G,b,e⟩:=h.bar z;exact ⟨R,g,_,b.swap (s:=s) (by rw [lr];exact hs) sn (by rw [lr];exact e1) (by rw [lr];exact e2) (by rw [lr];exact e3),e⟩
 rw [←e1] at ns;generalize bT M L.length s=M1 at e1 rd CF GR ns ⊢;have ex:∀i,∃g:Nat→Int,i<n→(q=0→∀k,M1 L.length c*M1 i k-M1 i c*M1 L.length k=last*g k)∧(q≠0→∀k,g k=(M1 L.length c*M1 i k-M1 i c*M1 L.length k) % q):=fun i=>by
  by_cases z:q=0
  ·by_cases hi:i<n
   ·by_cases ne:i=L.length
    ·exact ⟨fun _=>0,fun _=>⟨fun _ k=>by rw [ne,bU];lia,fun y=>absurd z y⟩⟩
    ·obtain ⟨R,g,G,b,e⟩:=GR z
     obtain ⟨f,hf⟩:=b.Wt (by rw [lr];exact rn) nc hi (by rw [lr];exact ne)
     rw [lr] at hf;exact ⟨f,fun _=>⟨fun _ k=>by rw [e];exact hf k,fun y=>absurd z y⟩⟩
   ·exact ⟨fun _=>0,fun y=>absurd y hi⟩
  ·exact ⟨fun k=>(M1 L.length c*M1 i k-M1 i c*M1 L.length k) % q,fun _=>⟨fun y=>absurd y z,fun _ _=>rfl⟩⟩
 obtain ⟨Ef,sp⟩:∃Ef:Nat→Nat→Int,∀i,i<n→(q=0→∀k,M1 L.length c*M1 i k-M1 i c*M1 L.length k=last*Ef i k)∧(q≠0→∀k,Ef i k=(M1 L.length c*M1 i k-M1 i c*M1 L.length k) % q):=⟨fun i=>Classical.choose (ex i),fun i hi=>Fp (ex i) hi⟩;refine ⟨Ef,sp,?_⟩;have np:¬q∣M1 L.length c:=Nb hq (fun z=>CF z _ c rn cW) ns;have eh:(fun i=>if i=L.length then M1 L.length else Ef i) L.length=M1 L.length:=ak rfl
 have en:∀i,i≠L.length→(fun i=>if i=L.length then M1 L.length else Ef i) i=Ef i:=fun i z=>ao z
 generalize (fun i=>if i=L.length then M1 L.length else Ef i)=M2 at eh en ⊢
 have ll:=h.last hq;refine ⟨?_,fun z=>?_,fun z i k hi hk=>?_,fun z=>?_,h.iL,h.mid,h.n1⟩
 ·by_cases z:q=0
  ·refine rd.step hq (u:=last) rn (by rw [z];exact fun d=>ll.2 (kn.mp d)) np eh fun i k hi ne=>?_
   rw [en i ne];exact Cg.of_eq ((sp i hi).1 z k).symm
  ·refine rd.step hq (u:=1) rn (vz hq) np eh fun i k hi ne=>?_
   rw [en i ne,mG,(sp i hi).2 z k];exact zL q _
 ·obtain ⟨R,g,G,b,e⟩:=GR z
  obtain ⟨R',g',b',e'⟩:=b.step (M':=M2) (c:=c) (by rw [lr];exact rn) nc (by rw [lr];exact ns) (by rw [lr];exact eh) (fun i k hi ne=>by rw [lr] at ne ⊢;rw [en i ne,←e];exact ((sp i hi).1 z k).symm)
  rw [lr] at e';refine ⟨R',g',G,?_,?_⟩
  ·rw [List.reverse_append]
   exact b'
  ·rw [List.reverse_append]
   exact e'.symm
 ·by_cases ne:i=L.length
  ·rw [ne,eh]
   exact CF z _ k rn hk
  ·rw [en i ne,(sp i hi).2 z k]
   have q2:0<q:=by rcases hq with h | h <;> lia
   exact ⟨d4 _ z,d8 _ q2⟩
 ·have:=CF z _ c rn cW
  lia
theorem g_.WQ{last:Int}(h:g_ q P n W A M L last cur)(z:q=0){j:Nat}(hj:j<L.length):M j (L.getD j 0)=last:=by
 obtain ⟨R,g,G,b,e⟩:=h.bar z;have:=b.lead (j:=j) (by simpa using hj)
 rw [List.reverse_reverse] at this;rw [this,e]
structure dE (q:Int) (P W:Nat) (aa:aG) (A M:aC) (c:Nat→Int) (L:List Nat) (last:Int) (af:aG):Prop where
 red:g_ q P aa.length W A M L last W
 bot:∀i,i<aa.length→aF q (c i)
 row:∀i k,i<aa.length→k<W→A i k*(atT aa i k).2=(atT aa i k).1*c i
 len:af.length=L.length
 eF:∀ps∈af,ps.length=W
 val:∀j k,j<L.length→k<W→aO q (atT af j k) (M j k,M j (L.getD j 0))
def cY(L:List Nat):List V:=(L.map fun j:Nat=>(j:Int)).map V.int
theorem Nc(ts:List Int)(h:ts.length=W):(List.range W).map (fun k=>ts.getD k 0)=ts:=by
 subst h;refine uZ (by simp) fun j h1 h2=>?_
 simp [cu,h2]
theorem m7{α:Type}[Inhabited α]{R:Nat→α→Prop}(h:∀i,i<n→∃x,R i x):∃f:Nat→α,∀i,i<n→R i (f i):=by
 refine ⟨fun i=>if hi:i<n then Classical.choose (h i hi) else default,fun i hi=>?_⟩
 dsimp only;rw [dif_pos hi];exact Fp (h i hi)
theorem GS{b:Int}(h:aF q b):b≠0:=by
 by_cases z:q=0;·have:=h.1 z;lia
 ·have:=h.2 z;lia
structure zT (q:Int) (E W:Nat) (ps:aD) (ts:List Int) (b:Int):Prop where
 len:ts.length=W
 ok:aF q b
 eq:∀k,k<W→ts.getD k 0*(ps.getD k o1).2=(ps.getD k o1).1*b
 bd:∀k,(ts.getD k 0).natAbs≤E
 rem:q≠0→∀k,k<W→0≤ts.getD k 0∧ts.getD k 0<q
theorem WR{b:Int}{ts:List Int}{x:Nat→Int}{r:Addr}(hq:aB q)(wd:GF q ps ts b D B')(hW:ps.length=W)(hr:aI B H q r ps)(oU:aF q D)(hx:∀i,i<ps.length→(ps.getD i o1).1*D=x i*(ps.getD i o1).2∧(x i).natAbs≤E):zT q E W ps ts b:=by
 have iM:∀k,k<W→Canon q (ps.getD k o1)∧aF q (ps.getD k o1).2:=fun k hk=>by
  obtain ⟨vs,e,l,f⟩:=hr;have k1:k<vs.length:=by lia
  have k2:k<ps.length:=by lia
  have z:=f k vs[k] ps[k] (by simp [k1]) (by simp [k2])
  rw [getD_at k2];exact ⟨z.canon,z.bot hq⟩
 refine ⟨by rw [wd.len,hW],wd.ok,fun k hk=>(wd.each k (by lia)).1,fun k=>?_,fun z k hk=>?_⟩
 ·by_cases hk:k<W
  ·obtain ⟨h1,h2⟩:=hx k (by lia)
   exact WK (wd.each k (by lia)).1 h1 wd.dvd (GS (iM k hk).2) (GS wd.ok) (GS oU) h2
  ·rw [oR (by rw [wd.len];lia)]
   exact eJ _
 ·obtain ⟨c1,c2⟩:=iM k hk
  obtain ⟨m1,m2,m3⟩:=c1.2 z;have e:=(wd.each k (by lia)).1
  rw [m1,wd.ok.2 z,iB,iB] at e;rw [e];exact ⟨m2,m3⟩
end My
namespace L2
open PySem PySem.Spec PyProof.Rows
theorem Nd{X:Cx}{K:aJ}(hK:X.K=K:=by rfl):FY X (LK K):=by subst hK;exact F3
end L2
namespace My
open PySem L2
variable {q u x:Int}
theorem m8{y:Int}(hq:aB q)(nu:¬q∣u)(h:Cg q (u*x) (u*y)):Cg q x y:=by
 have z:Cg q (u*(x-y)) 0:=by have:=h.sub (Cg.refl (u*y));rw [Int.sub_self] at this;exact (Cg.of_eq (by rw [Int.mul_sub])).trans this
 have z:=fi hq nu z;have:=z.add (Cg.refl y);exact (Cg.of_eq (by lia)).trans (this.trans (Cg.of_eq (by lia)))
theorem GU(n:Nat)(f g:Nat→Int):ag n (fun i=>f i-g i)=ag n f-ag n g:=by
 rw [show (fun i=>f i-g i)=fun i=>f i + -1*g i from funext fun i=>by lia,m5,←a8]
 lia
theorem WS:∀{L:List Nat},L.Pairwise (· < ·)→∀j,j<L.length→j≤L.getD j 0:=fun{L} h j=>by
 induction j with
 | zero=>intro _;exact eJ _
 | succ j ih=>
  intro hj;have h1:=ih (by lia)
  have h2:=Fs.mp h j (j+1) (by lia) hj (by lia)
  rw [getD_at (by lia)] at h1
  rw [getD_at hj];lia
variable {L:List Nat} {i j:Nat}
theorem sq(h:L.Pairwise (· < ·))(FK:i<j)(hj:j<L.length):L.getD i 0<L.getD j 0:=by
 rw [getD_at (by lia),getD_at hj]
 exact Fs.mp h i j (by lia) hj FK
variable {n:Nat}
theorem GV(h:L.Pairwise (· < ·))(hl:L.length≤n)(all:∀c,c<n→c∈L):L=List.range n:=by
 have at':∀j,j<n→j<L.length∧L.getD j 0=j:=fun j=>by
  induction j using Nat.strongRecOn with
  | _ j ih=>
   intro hj;obtain ⟨t,ht,e⟩:=gh.mp (all j hj);have tj:j≤t:=by
    refine gE fun z=>?_;have:=(ih t (by lia) (by lia)).2
    rw [getD_at ht] at this;lia
   have jl:j<L.length:=by lia
   refine ⟨jl,?_⟩;have h1:=WS h j jl;by_cases z:t=j;·subst z;rw [getD_at ht];exact e
   ·have:=sq h (show j<t by lia) ht
    rw [getD_at (show t<L.length from ht)] at this;lia
 have ln:L.length=n:=by
  refine gE fun z=>?_;have:=(at' L.length (by lia)).1
  lia
 refine uZ (by simp [ln]) fun j h1 h2=>?_
 have:=(at' j (by lia)).2
 rw [getD_at h1] at this;rw [yU];exact this
theorem Nf(n m:Nat)(hm:m<n)(f x:Nat→Int)(p v:Int)(x0:x m=0):(ag n fun k=>f k*(if k=m then v else p*x k))=p*(ag n fun k=>f k*x k)+f m*v:=by
 have e:(fun k=>f k*(if k=m then v else p*x k))=fun k=>p*(f k*x k)+(if k=m then f k*v else 0):=funext fun k=>by
  by_cases z:k=m;·rw [ak z,ak z,z,x0];grind
  ·rw [ao z,ao z];grind
 rw [e,m5,←a8,kS n m (fun k=>f k*v) hm]
theorem dZ.j6(hq:aB q){W:Nat}{A M:aC}(h:dZ q n A M L W)(nW:n≤W)(ne:L≠List.range n):∃(x:Nat→Int) (c:Nat),c<n∧¬q∣x c∧∀t,t<n→Cg q (ag n fun k=>A t k*x k) 0:=by
 obtain ⟨c,cn,cL⟩:∃c,c<n∧c∉L:=gE fun z=>ne (GV h.up h.len fun c hc=>gE fun y=>z ⟨c,hc,y⟩);have mem:∀j,j<L.length→L.getD j 0∈L:=fun j hj=>by rw [getD_at hj];exact aQ _
 have main:∀m,m≤L.length→∃x:Nat→Int,¬q∣x c∧(∀k,k≠c→(∀j,j<m→k≠L.getD j 0)→x k=0)∧∀j,j<m→Cg q (ag n fun k=>M j k*x k) 0:=fun m=>by
  induction m with
  | zero=>exact fun _=>⟨fun k=>if k=c then 1 else 0,by dsimp only;rw [ak rfl];exact vz hq,fun k hk _=>ao hk,fun j hj=>by lia⟩
  | succ m ih=>
   intro hm;obtain ⟨x,h1,h2,h3⟩:=ih (by lia)
   by_cases lm:L.getD m 0<n
   ·have lc:L.getD m 0≠c:=fun e=>cL (e▸mem m (by lia))
    have x0:x (L.getD m 0)=0:=h2 _ lc fun j hj e=>by
     have:=sq h.up hj (by lia)
     lia
    refine ⟨fun k=>if k=L.getD m 0 then -(ag n fun k=>M m k*x k) else M m (L.getD m 0)*x k,?_,fun k hk hj=>?_,fun j hj=>?_⟩
    ·dsimp only
     rw [ao (Ne.symm lc)];exact lV hq (h.lead m (by lia)) h1
    ·dsimp only
     rw [ao (hj m (by lia)),h2 k hk fun j di=>hj j (by lia),bU]
    ·rw [Nf n _ lm (M j) x _ _ x0]
     by_cases e:j=m
     ·subst e
      exact Cg.of_eq (by grind)
     ·have a:=(h3 j (by lia)).mulL (M m (L.getD m 0))
      have b:=(h.off j m (by have:=h.len;lia) (by lia) e).mulR (-(ag n fun k=>M m k*x k))
      exact (a.add b).trans (Cg.of_eq (by simp))
   ·refine ⟨x,h1,fun k hk hj=>h2 k hk fun j di=>hj j (by lia),fun j hj=>?_⟩
    by_cases e:j=m
    ·subst e
     have:=cU (q:=q) (n:=n) (f:=fun k=>M j k*x k) (g:=fun _=>0) fun k hk=>by
      have:=(h.so j k (by lia) (by lia)).mulR (x k)
      rw [gX] at this;exact this
     rw [e_] at this;exact this
    ·exact h3 j (by lia)
 obtain ⟨x,h1,_,h3⟩:=main L.length (aH _);have all:∀i,i<n→Cg q (ag n fun k=>M i k*x k) 0:=fun i hi=>by
  by_cases z:i<L.length;·exact h3 i z
  ·have:=cU (q:=q) (n:=n) (f:=fun k=>M i k*x k) (g:=fun _=>0) fun k hk=>by
    have:=(h.low i k hi (by lia) (by lia)).mulR (x k)
    rw [gX] at this;exact this
   rw [e_] at this;exact this
 refine ⟨x,c,cn,h1,fun t ht=>?_⟩;obtain ⟨e,y,ne',hy⟩:=h.ofM t ht;refine fi hq ne' ?_;have s1:Cg q (e*ag n fun k=>A t k*x k) (ag n fun k=>(ag n fun i=>y i*M i k)*x k):=by rw [a8];exact cU fun k _=>(Cg.of_eq (by grind)).trans ((hy k).mulR (x k))
 refine s1.trans ?_;rw [zK n n (fun i=>y i) (fun i k=>M i k) x];have:=cU (q:=q) (n:=n) (f:=fun l=>y l*ag n fun j=>M l j*x j) (g:=fun _=>0) fun l hl=>by have:=(all l hl).mulL (y l);rw [bU] at this;exact this
 rw [e_] at this;exact this
variable {a:Int} {p:Int×Int}
theorem vB{c t D:Int}(hq:aB q)(e:a*p.2=p.1*c)(w:aO q p (t,D))(ok:aF q p.2):Cg q (t*c) (a*D):=by
 refine m8 hq (ok.nz hq) ?_;obtain ⟨k,ek⟩:=w;dsimp only at ek;refine ⟨-(c*k),?_⟩;have:p.2*(a*D)=p.1*c*D:=by rw [←e];grind
 grind
variable {m:Int}
theorem GW{f E:Int}(hq:aB q)(v:aO q p (m,u))(w:aO q p (f,E))(ok:aF q p.2):Cg q (f*u) (m*E):=by refine m8 hq (ok.nz hq) ?_;obtain ⟨k,ek⟩:=w;obtain ⟨k2,GC⟩:=v;dsimp only at ek GC;exact ⟨E*k2-u*k,by grind⟩
def zU(B:Nat)(H0 H:Hp)(q:Int)(r:Addr)(af:aG):Prop:=∃vs:List V,H r=some (.lst vs)∧vs.length=af.length∧H0 r=none∧∀(i:Nat) (v:V) (ps:aD),vs[i]?=some v→af[i]?=some ps→∃x:Addr,v=.ref x∧x≠r∧H0 x=none∧aI B H q x ps
variable {B:Nat} {H:Hp} {r:Addr} {af:aG}
theorem zU.b{H0:Hp}(h:zU B H0 H q r af):bE B H q r af:=by obtain ⟨vs,e,l,_,f⟩:=h;exact ⟨vs,e,l,fun i v ps h1 h2=>by obtain ⟨x,e1,_,_,e2⟩:=f i v ps h1 h2;exact ⟨x,e1,e2⟩⟩
theorem bE.each(h:bE B H q r af):∀ps∈af,∃x,aI B H q x ps:=fun ps hp=>by
 obtain ⟨vs,e,l,f⟩:=h;obtain ⟨i,hi,e2⟩:=gh.mp hp;have h1:i<vs.length:=by lia
 obtain ⟨x,_,e3⟩:=f i vs[i] ps (by simp [h1]) (by simp [hi,e2])
 exact ⟨x,e3⟩
variable {ps:aD}
theorem aI.nums{a:Addr}(h:aI B H q a ps)(hq:aB q):∀p∈ps,Canon q p∧aF q p.2∧∃v,bZ B H q v p.1 p.2:=fun p hp=>by
 obtain ⟨vs,e,l,f⟩:=h;obtain ⟨i,hi,e2⟩:=gh.mp hp;have h1:i<vs.length:=by lia
 have z:=f i vs[i] p (by simp [h1]) (by simp [hi,e2])
 exact ⟨z.canon,z.bot hq,_,z⟩
theorem bE.nums(h:bE B H q r af)(hq:aB q):∀ps∈af,∀p∈ps,Canon q p∧aF q p.2∧∃v,bZ B H q v p.1 p.2:=fun ps hp=>by obtain ⟨x,hx⟩:=h.each ps hp;exact hx.nums hq
def oV(q:Int)(n:Nat)(aa:aG):Prop:=∃(x:Nat→Int) (c:Nat),c<n∧¬q∣x c∧∀T D,cE q n n (atT aa) T D→∀i,i<n→Cg q (ag n fun k=>T i k*x k) 0
variable {k:Nat}
theorem m9{aa:aG}{m:Nat}(h:aa.length=n)(hm:∀ps∈aa,ps.length=m)(hi:i<n)(hk:k<m):∃ps∈aa,atT aa i k∈ps:=by
 have h1:i<aa.length:=by lia
 have l:=hm _ (aQ h1);refine ⟨aa[i],aQ h1,?_⟩;unfold atT;rw [getD_at h1,getD_at (by lia)]
 exact aQ _
theorem Ng(hj:j<af.length):atT (af.map fun ps=>ps.drop n) j k=atT af j (n+k):=by
 have e:(af.map fun ps=>ps.drop n).getD j []=af[j].drop n:=by rw [getD_at (by rw [bL];exact hj),jz]
 unfold atT;rw [e,getD_at hj,cu,cu,BD]
theorem GX{b:Int}(l:de x m)(e:x*b=a*m):m∣b:=by
 have h:m∣x*b:=⟨a,by rw [e,d5]⟩
 have g:Int.gcd m x=1:=by rw [Int.gcd_comm];exact l.lQ
 have h2:m.natAbs∣x.natAbs*b.natAbs:=by rw [←bz];exact Fq.mpr h
 exact Fq.mp (Nat.Coprime.dvd_of_dvd_mul_left g h2)
theorem WT(xs:List V)(k:Nat)(h:k≤xs.length):ip xs (some (k:Int)) none=xs.drop k:=by
 have e1:HT.fI xs.length 0 (some (k:Int))=k:=by rw [HT.zh];lia
 have e2:HT.fI xs.length xs.length none=xs.length:=rfl;unfold ip;rw [e1,e2,List.take_of_length_le (by rw [nS];lia)]
theorem aI.drop{vs:List V}(e:H r=some (.lst (vs.drop k)))(l:vs.length=ps.length)(f:∀(i:Nat) (v:V) (p:Int×Int),vs[i]?=some v→ps[i]?=some p→bZ B H q v p.1 p.2):aI B H q r (ps.drop k):=by
 refine ⟨_,e,by rw [nS,nS,l],fun i v p h1 h2=>?_⟩
 rw [BD] at h1 h2;exact f _ v p h1 h2
theorem WU(n:Nat):lM n=((List.range n).map fun j:Nat=>(j:Int)).map V.int:=by unfold lM;rw [List.map_map];rfl
theorem WV{L':List Nat}(h:(L.map fun j:Nat=>(j:Int))=L'.map fun j:Nat=>(j:Int)):L=L':=by
 refine uZ (by simpa using hJ List.length h) fun j h1 h2=>?_
 have:=hJ (fun l=>l[j]?) h;have:((L[j]:Nat):Int)=((L'[j]:Nat):Int):=by simpa [h1,h2] using this
 lia
end My
namespace L2
open PySem PySem.Spec PyProof.Rows
def Wide(i:Int):Prop:=i.natAbs<2 ^ 8192
variable {i:Int}
theorem Wide.log(h:Wide i):i.natAbs.log2<8192:=by
 by_cases z:i.natAbs=0;·rw [z];decide
 ·exact (Nat.log2_lt z).mpr h
theorem cC.wide(h:cC i):Wide i:=dy h (eO (by decide) (by decide))
def CG(i j:Int):Prop:=j≠0∧Wide j
def GY(i j:Int):Prop:=Wide i∧Wide j
theorem GY.ok{j:Int}(h:GY i j):IntMulOk i j:=by
 have b:∀{k:Int},Wide k→Builtin.Int.intBits k≤8192:=fun{k} hk=>by
  have z:=hk.log;unfold Builtin.Int.intBits
  split <;> lia
 unfold IntMulOk;have e:Builtin.Int.intTooBig ((Builtin.Int.intBits i:Int)+(Builtin.Int.intBits j:Int))=false:=by
  unfold Builtin.Int.intTooBig;have h1:=b h.1;have h2:=b h.2;have h3:(16384:Int)≤bitsLine:=by decide +kernel
  exact fq (by lia)
 intro z;rw [uV] at z;have z2:=z.2;rw [show Builtin.Int.intTooBig ((Builtin.Int.intBits i:Int)+(Builtin.Int.intBits j:Int))=false from e] at z2;cases z2
section
variable {X:Cx}
theorem GZ:cT X (binaryOp .FloorDiv) (rI CG fun i j=>.int (i.fdiv j)):=ox fun _ _ _ _ _ _ _ hc q=>floordiv_int hc.1 q (.inl (Fn (dy hc.2.log (by decide))))
theorem m_:cT X (binaryOp .Mult) (rI GY fun i j=>.int (i*j)):=ox fun _ _ _ _ _ _ _ hc q=>mul_int q hc.ok
end
end L2
namespace My
open PySem L2
theorem WW{a b:Int}(h:b≠0)(m:Wide b):CG 0 (lowG a b):=by
 have h1:=oJ (a:=a) h;have h2:Int.gcd a b<2 ^ 8192:=dq (Nat.gcd_le_right _ (iU.mpr h)) m;unfold lowG;refine ⟨by split <;> lia,?_⟩
 unfold Wide
 split
 ·rw [show (0-(Int.gcd a b:Int)).natAbs=Int.gcd a b by lia];exact h2
 ·rw [yL];exact h2
def Nh:Sp:=fun vs H Q _=>∃a b:Int,vs=[.int a,.int b]∧b≠0∧Wide b∧∀(q:Addr) (H':Hp),ah H H'→H' q=some (.tup [.int (a.fdiv (lowG a b)),.int (b.fdiv (lowG a b))])→Q (.ref q) H'
def WX:Sp:=fun vs H Q _=>∃q c:Int,vs=[.int q,.int c]∧aB q∧0≤c∧∀(v:V) (x m:Int) (H':Hp),ah H H'→bZ (10 ^ 6) H' q v x m→m.natAbs≤1000→Q v H'
def WY:Sp:=fun vs H Q _=>∃(q:Int) (a b:Addr) (ps rs:aD),vs=[.int q,.ref a,.ref b]∧aB q∧aI (10 ^ 150) H q a ps∧aI (10 ^ 150) H q b rs∧oT q ps.length∧oT q rs.length∧∀(v:V) (H':Hp),ah H H'→cJ H' q v (bu ps rs (0,1)).1 (bu ps rs (0,1)).2→Q v H'
theorem WZ{H:Hp}{q:Int}(hq:aB q)(hn:q≠0){d:Int}(hd:d=0∨d=1):cJ H q (.int d) d 1:=by
 have q2:2≤q:=by rcases hq with h | h <;> lia
 exact .rem q2 (by lia) (by lia) (pH ..) ⟨0,by lia⟩
end My
namespace L2
open PySem PySem.Spec PyProof.Rows
theorem Ni{X:Cx}{K:aJ}{a:Expr}{ta:TE}(ha:PE X a ta)(he:∀whole,isTrue a X.env whole=(do let v ←whole;standAt a.pos;holding [v] (truthy v)))(hK:X.K=K:=by rfl) :
  PT X a (fun σ H Q=>ta σ H fun x H'=>∃k,FU K x H' k∧Q k H'):=by
 subst hK
 exact mQ ha he
end L2
namespace My
open PySem L2
variable {wi:TI} {ρ:St→St} {te:TE} {σ:St} {H:Hp} {Q:VK} {xs:List V}
theorem Nj{tt:TT}(f:Nat→Bool)(gL:∀R:It→Hp→Prop,(∀J H1,ah H H1→mX J xs H1→R J H1)→wi σ H R)(hn:xs.length<sizeLine)
  (test:∀(i:Nat) (x:V),xs[i]?=some x→∀(Hc:Hp) (R:Bool→Hp→Prop),ah H Hc→R (f i) Hc→tt (some x::ρ σ) Hc R)
  (step:∀(i:Nat) (x:V),xs[i]?=some x→∀(Hc:Hp) (R:VK),R x Hc→te (some x::ρ σ) Hc R)
  (fin:∀D ys Hc,H D=none→ah H Hc→(∀v∈ys,∃i:Nat,f i=true∧xs[i]?=some v)→(∀i,i<xs.length→f i=true→ys≠[])→Hc D=some (.lst ys)→Q (.ref D) Hc):jM wi ρ tt te σ H Q:=by
 refine gL _ fun J H1 s1 js=>?_;intro D nD;have hD:H D=none:=by
  cases e:H D with
  | none=>rfl
  | some o=>rw [s1 _ _ e] at nD;cases nD
 refine ⟨fun i m ys Hc=>m=xs.length-i∧i≤xs.length∧Hc D=some (.lst ys)∧ah H1 Hc∧ys.length≤i∧(∀v∈ys,∃i:Nat,f i=true∧xs[i]?=some v)∧(∀i',i'<i→f i'=true→ys≠[]),⟨_,rfl,eJ _,aA,dP (ah.refl H1) nD,aH _,(fun v hv=>by simp at hv),fun i' h=>by lia⟩,?_⟩
 rintro i m ys Hc ⟨rfl,hi,eD,sH,el,h1,h2⟩;refine ⟨eD,?_⟩;by_cases dr:i<xs.length
 ·refine .inr ⟨js.go i Hc sH dr,fun x H' hy=>?_⟩
  obtain ⟨rfl,hx⟩:=js.fR i Hc x H' sH hy;refine test i x (hx dr) _ _ (s1.trans sH) ?_;cases ef:f i with
  | true=>
   rw [ak rfl];refine step i x (hx dr) _ _ ⟨eD,by lia,xs.length-(i+1),by lia,rfl,dr,aA,dP sH nD,by simp;exact el,fun v hv=>?_,fun i' h3 h4=>by simp⟩
   rcases kh.mp hv with z | z;·exact h1 v z
   ·rw [i8.mp z]
    exact ⟨i,ef,hx dr⟩
  | false=>
   rw [ao dB];refine ⟨xs.length-(i+1),by lia,rfl,dr,eD,sH,by lia,h1,fun i' h3 h4=>?_⟩
   by_cases z:i'=i;·rw [z,ef] at h4;cases h4
   ·exact h2 i' (by lia) h4
 ·have e:i=xs.length:=by lia
  subst e;exact .inl ⟨js.stop _ Hc sH (aH _),fin D ys Hc hD (s1.trans sH) h1 h2 eD⟩
def oW(H:Hp)(a:Addr)(n W:Nat)(M:aC):Prop:=∃vs:List V,H a=some (.lst vs)∧vs.length=n∧∀(i:Nat) (v:V),vs[i]?=some v→∃x:Addr,v=.ref x∧x≠a∧H x=some (.lst (((List.range W).map (M i)).map V.int))
variable {H':Hp} {a:Addr} {n W:Nat} {M:aC}
theorem oW.mono(h:oW H a n W M)(s:ah H H'):oW H' a n W M:=by obtain ⟨vs,e,l,k⟩:=h;exact ⟨vs,s _ _ e,l,fun i v hv=>by obtain ⟨x,e1,n1,e2⟩:=k i v hv;exact ⟨x,e1,n1,s _ _ e2⟩⟩
variable {i:Nat}
theorem oW.put{y:Addr}{f:Nat→Int}{vs:List V}(h:oW H a n W M)(ea:H a=some (.lst vs))(ne:y≠a)(hy:H y=some (.lst (((List.range W).map f).map V.int)))(hi:i<n):oW (upd H a (.lst (vs.set i (.ref y)))) a n W (fun j=>if j=i then f else M j):=by
 obtain ⟨Nk,e,l,k⟩:=h;rw [ea] at e;cases e;refine ⟨_,aA,by rw [gS];exact l,fun j v hv=>?_⟩
 by_cases z:j=i
 ·subst z
  rw [jv (by lia)] at hv
  cases hv;refine ⟨y,rfl,ne,?_⟩;dsimp only;rw [ak rfl,bI ne];exact hy
 ·rw [jw (fun e=>z e.symm)] at hv
  obtain ⟨x,e1,n1,e2⟩:=k j v hv;refine ⟨x,e1,n1,?_⟩;dsimp only;rw [ao z,bI n1];exact e2
def iw(q:Int)(M:aC)(c j m:Nat):Nat→Nat→Int:=fun i=>if c<i∧i<c+1+m then fun k=>if q=0 then M i k*M c j-M c k*M i j else (M i k*M c j-M c k*M i j) % q else M i
def oX(q:Int)(n:Nat)(aa:aG):Prop:=∀T D,cE q n n (atT aa) T D→∀x:Nat→Int,(∀i,i<n→Cg q (ag n fun k=>T i k*x k) 0)→∀i,i<n→Cg q (x i) 0
theorem G0(hl:xs.length=n)(gL:∀R:It→Hp→Prop,(∀J H1,ah H H1→mX J xs H1→R J H1)→wi σ H R)(hn:n<sizeLine)
  (P:Addr→Nat→Addr→Hp→Prop) (mono:∀D i y H H' ys,P D i y H→y≠D→H D=some (.lst ys)→(∀b o,b≠D→H b=some o→H' b=some o)→P D i y H')
  (step:∀D (i:Nat) (x:V),xs[i]?=some x→∀(Hc:Hp) (R:VK),ah H Hc→(∃ys,Hc D=some (.lst ys))→(∀y H3,ah Hc H3→Hc y=none→(∃o,H3 y=some o)→P D i y H3→R (.ref y) H3)→te (some x::ρ σ) Hc R)
  (fin:∀D (A:Nat→Addr) Hc,H D=none→ah H Hc→(∀i j,i<n→j<n→A i=A j→i=j)→(∀i,i<n→P D i (A i) Hc∧A i≠D)→Hc D=some (.lst ((List.range n).map fun i=>V.ref (A i)))→Q (.ref D) Hc):jM wi ρ (fun _ H Q=>Q true H) te σ H Q:=by
 refine gL _ fun J H1 s1 js=>?_;intro D nD;have hD:H D=none:=by
  cases e:H D with
  | none=>rfl
  | some o=>rw [s1 _ _ e] at nD;cases nD
 refine ⟨fun i m ys Hc=>m=n-i∧i≤n∧Hc D=some (.lst ys)∧ah H1 Hc∧∃A:Nat→Addr,ys=(List.range i).map (fun j=>V.ref (A j))∧(∀a b,a<i→b<i→A a=A b→a=b)∧∀j,j<i→P D j (A j) Hc∧A j≠D∧∃o,Hc (A j)=some o,⟨_,rfl,eJ _,aA,dP (ah.refl H1) nD,fun _=>D,rfl,(fun a b h=>by lia),fun j h=>by lia⟩,?_⟩
 rintro i m ys Hc ⟨rfl,hi,eD,sH,A,rfl,inj,hA⟩;refine ⟨eD,?_⟩;by_cases dr:i<n
 ·refine .inr ⟨js.go i Hc sH (by lia),fun x H' hy=>?_⟩
  obtain ⟨rfl,hx⟩:=js.fR i Hc x H' sH hy;rw [ak rfl];refine step D i x (hx (by lia)) _ _ (s1.trans sH) ⟨_,eD⟩ fun y H3 s3 ny ⟨o,ho⟩ hp=>?_
  have e3:=s3 _ _ eD;have yD:y≠D:=fun e=>by rw [e,eD] at ny;cases ny
  have bC:∀b o,b≠D→H3 b=some o→upd H3 D (.lst ((List.range i).map (fun j=>V.ref (A j))++[.ref y])) b=some o:=fun b o nb e=>by rw [bI nb];exact e
  have nA:∀j,j<i→A j≠y:=fun j hj e=>by obtain ⟨_,_,o',h'⟩:=hA j hj;rw [e,ny] at h';cases h'
  refine ⟨e3,by simp;lia,n-(i+1),by lia,rfl,dr,aA,dP (sH.trans s3) nD,fun j=>if j=i then y else A j,?_,fun a b ha hb e=>?_,fun j hj=>?_⟩
  ·rw [yN,Bt]
   congr 1
   ·refine BE fun j hj=>?_
    dsimp only;rw [ao (by have:=fe.mp hj;lia)]
   ·simp
  ·dsimp only at e
   by_cases z1:a=i
   ·by_cases z2:b=i
    ·lia
    ·rw [ak z1,ao z2] at e
     exact absurd e.symm (nA b (by lia))
   ·by_cases z2:b=i
    ·rw [ao z1,ak z2] at e
     exact absurd e (nA a (by lia))
    ·rw [ao z1,ao z2] at e
     exact inj a b (by lia) (by lia) e
  ·dsimp only
   by_cases z:j=i
   ·rw [ak z,z]
    exact ⟨mono D i y H3 _ _ hp yD e3 bC,yD,o,bC _ _ yD ho⟩
   ·rw [ao z]
    obtain ⟨h1,h2,o',h3⟩:=hA j (by lia)
    exact ⟨mono D j (A j) H' _ _ h1 h2 eD (fun b o nb e=>bC b o nb (s3 _ _ e)),h2,o',bC _ _ h2 (s3 _ _ h3)⟩
 ·have e:i=n:=by lia
  subst e;exact .inl ⟨js.stop _ Hc sH (by lia),fin D A Hc hD (s1.trans sH) inj (fun j hj=>⟨(hA j hj).1,(hA j hj).2.1⟩) eD⟩
def cM(Dl V:Nat)(ps:aD):Prop:=∃(D:Int) (x:Nat→Int),1≤D∧D.natAbs≤Dl∧∀j,j<ps.length→(ps.getD j o1).1*D=x j*(ps.getD j o1).2∧(x j).natAbs≤V*D.natAbs
variable {Dl:Nat} {ps:aD}
theorem cM.weak{Nl V V':Nat}(h:cM Dl V ps)(h1:Dl≤Nl)(h2:V≤V'):cM Nl V' ps:=by obtain ⟨D,x,d1,d2,hx⟩:=h;exact ⟨D,x,d1,aq d2 h1,fun j hj=>⟨(hx j hj).1,aq (hx j hj).2 (d9 _ h2)⟩⟩
variable {E:Nat}
theorem cM.e{V:Nat}(h:cM Dl V ps)(hc:∀p∈ps,Canon 0 p)(h1:V*Dl≤E)(h2:1≤V):eE 0 E ps:=by obtain ⟨D,x,d1,d2,hx⟩:=h;have dl:D.natAbs≤E:=aq (aq d2 (fO _ h2)) h1;refine ⟨D,x,⟨fun _=>d1,fun z=>absurd rfl z⟩,dl,fun p hp=>?_,fun j hj=>⟨(hx j hj).1,aq (hx j hj).2 (aq (gW _ d2) h1)⟩⟩;obtain ⟨j,hj,e⟩:=gh.mp hp;have z:=(hx j hj).1;rw [getD_at hj,e] at z;exact GX ((hc p hp).1 rfl) z
theorem CH:∀(ps:aD),(∀p∈ps,p.1.natAbs≤10 ^ 6∧1≤p.2∧p.2.natAbs≤1000)→cM (1000 ^ ps.length) (10 ^ 6) ps
 | [],_=>⟨1,fun _=>0,by decide,by decide,fun j hj=>by simp at hj⟩
 | p::ps,h=>by
  obtain ⟨D,x,d1,d2,hx⟩:=CH ps fun p hp=>h p (gg _ hp);obtain ⟨b1,b2,b3⟩:=h p gB;have m1:(p.2*D).natAbs=p.2.natAbs*D.natAbs:=bz ..;have pd:=d6 (show 0<p.2 by lia) (show 0<D by lia)
  refine ⟨p.2*D,fun j=>if j=0 then p.1*D else p.2*x (j-1),by lia,?_,fun j hj=>?_⟩
  ·rw [m1,cS,n6,iT]
   exact aZ d2 b3
  ·cases j with
   | zero=>
    dsimp only;rw [ak rfl,List.getD_cons_zero];refine ⟨by grind,?_⟩
    rw [m1,bz];refine aZ b1 (fO _ (by lia))
   | succ j=>
    dsimp only;rw [ao (by lia),List.getD_cons_succ,Nat.add_sub_cancel]
    obtain ⟨e1,e2⟩:=hx j (by simpa using hj)
    refine ⟨by grind,?_⟩
    rw [m1,bz,qU];exact gW _ e2
variable {n0 d0 n1 d1:Int}
theorem W0:∀i,i<2→aO 0 ([(n0,d0),(n1,d1)].getD i o1) ((if i=0 then n0*d1 else n1*d0),d0*d1):=fun i hi=>by
 match i,hi with
 | 0,_=>exact ⟨0,by show n0*(d0*d1)-n0*d1*d0=_;grind⟩
 | 1,_=>exact ⟨0,by show n1*(d0*d1)-n1*d0*d1=_;grind⟩
variable {xa Da xb Db:Int} {pa pb:Int×Int}
theorem CI(ha:pa.1*Da=xa*pa.2)(hb:pb.1*Db=xb*pb.2):aO 0 (bu [(n0,d0),(n1,d1)] [pa,pb] (0,1)) (n0*d1*(xa*Db)+n1*d0*(xb*Da),d0*d1*(Da*Db)):=by
 have z:=MM (q:=0) (n:=2) (ps:=[(n0,d0),(n1,d1)]) (rs:=[pa,pb]) (D1:=d0*d1) (D2:=Da*Db) (f:=fun i=>if i=0 then n0*d1 else n1*d0) (g:=fun i=>if i=0 then xa*Db else xb*Da) rfl rfl W0 (fun i hi=>by
  match i,hi with
  | 0,_=>exact ⟨0,by show pa.1*(Da*Db)-xa*Db*pa.2=_;grind⟩
  | 1,_=>exact ⟨0,by show pb.1*(Da*Db)-xb*Da*pb.2=_;grind⟩)
 have e:(ag 2 fun i=>(if i=0 then n0*d1 else n1*d0)*(if i=0 then xa*Db else xb*Da))=n0*d1*(xa*Db)+n1*d0*(xb*Da):=by show n0*d1*(xa*Db)+(n1*d0*(xb*Da)+0)=_;lia
 rw [e] at z;exact z
theorem CJ{V:Nat}(b0:n0.natAbs≤10 ^ 6)(b1:n1.natAbs≤10 ^ 6)(p0:1≤d0)(p1:1≤d1)(ha:xa.natAbs≤V*Da.natAbs)(hb:xb.natAbs≤V*Db.natAbs):(n0*d1*(xa*Db)+n1*d0*(xb*Da)).natAbs≤2*10 ^ 6*V*(d0*d1*(Da*Db)).natAbs:=by
 refine aq (Int.natAbs_add_le ..) ?_;simp only [bz];have q0:1≤d0.natAbs:=by lia
 have q1:1≤d1.natAbs:=by lia
 generalize n0.natAbs=N0 at *;generalize n1.natAbs=N1 at *;generalize d0.natAbs=E0 at *;generalize d1.natAbs=E1 at *;generalize xa.natAbs=X0 at *;generalize xb.natAbs=X1 at *;generalize Da.natAbs=A at *;generalize Db.natAbs=B at *;have t1:N0*E1*(X0*B)≤10 ^ 6*(E0*E1)*(V*A*B):=aZ (aZ b0 (fO _ q0)) (d9 _ ha);have t2:N1*E0*(X1*A)≤10 ^ 6*(E0*E1)*(V*B*A):=aZ (aZ b1 (ia _ q1)) (d9 _ hb);have e1:10 ^ 6*(E0*E1)*(V*A*B)=10 ^ 6*V*(E0*E1*(A*B)):=by grind
 have e2:10 ^ 6*(E0*E1)*(V*B*A)=10 ^ 6*V*(E0*E1*(A*B)):=by grind
 rw [e1] at t1;rw [e2] at t2;have e3:2*10 ^ 6*V*(E0*E1*(A*B))=10 ^ 6*V*(E0*E1*(A*B))+10 ^ 6*V*(E0*E1*(A*B)):=by grind
 rw [e3];exact Nat.add_le_add t1 t2
variable {q:Int} {v:V}
theorem G3{rs:aD}(hq:aB q)(h:cJ H q v (bu ps rs (0,1)).1 (bu ps rs (0,1)).2)(hf:q=0→∃X D:Int,aO 0 (bu ps rs (0,1)) (X,D)∧1≤D∧X.natAbs≤10 ^ 60∧D.natAbs≤10 ^ 60) :
  ∃p:Int×Int,bZ (10 ^ 60) H q v p.1 p.2∧(q=0→∀X D:Int,aO 0 (bu ps rs (0,1)) (X,D)→1≤D→p.1*D=X*p.2):=by
 by_cases z:q=0
 ·subst z
  obtain ⟨X,D,w,d1,bX,bD⟩:=hf rfl;obtain ⟨p,hp,wp⟩:=MO (h.Cv w ⟨fun _=>d1,fun y=>absurd rfl y⟩) hq bX bD;obtain ⟨x,m⟩:=p;refine ⟨(x,m),hp,fun _ X' D' w' W2=>?_⟩;have h':=h.Cv w' ⟨fun _=>W2,fun y=>absurd rfl y⟩;cases hp with
  | rem h0 h1 h2=>lia
  | bH e l bx bm=>
   cases h' with
   | bH e' l' dW h'=>rw [e] at e';cases e';exact h'
 ·cases h with
  | bH e l hb h=>exact absurd rfl z
  | rem q2 h0 h1 g h=>
   rename_i r
   have q3:q≤997:=by rcases hq with y | ⟨_,y,_⟩ <;> lia
   exact ⟨(r,1),.rem h0 h1 q3,fun y=>absurd y z⟩
variable {k:Nat}
theorem W3(g:Nat→V)(v:V)(hk:k<n):((List.range n).map g).set k v=(List.range n).map fun i=>if i=k then v else g i:=by
 refine uZ (by simp) fun j h1 h2=>?_
 rw [List.getElem_set];by_cases z:k=j;·subst z;simp
 ·rw [ao z]
  simp [Ne.symm z]
structure i4 (H0 H:Hp) (q:Int) (r:Addr) (n m:Nat) (A:Nat→Addr) (f:Nat→List (Int×Int)):Prop where
 at':H r=some (.lst ((List.range n).map fun i=>V.ref (A i)))
 new:H0 r=none
 inj:∀i j,i<n→j<n→A i=A j→i=j
 rows:∀i,i<n→A i≠r∧H0 (A i)=none∧aI (10 ^ 60) H q (A i) (f i)∧(f i).length=m
variable {H0:Hp} {r:Addr} {m:Nat} {A:Nat→Addr} {f:Nat→List (Int×Int)}
theorem i4.mono(h:i4 H0 H q r n m A f)(s:ah H H'):i4 H0 H' q r n m A f:=
 ⟨s _ _ h.at',h.new,h.inj,fun i hi=>by obtain ⟨a,b,c,d⟩:=h.rows i hi;exact ⟨a,b,c.mono s,d⟩⟩
theorem i4.CK(h:i4 H0 H q r n m A f):zU (10 ^ 60) H0 H q r ((List.range n).map f):=by
 refine ⟨_,h.at',by simp,h.new,fun i v ps h1 h2=>?_⟩
 have hi:i<n:=by have:=(aP.mp h1).1;simpa using this
 rw [cF] at h1 h2;simp [hi] at h1 h2;obtain ⟨a,b,c,d⟩:=h.rows i hi;subst h1 h2;exact ⟨A i,rfl,a,b,c⟩
variable {B:Nat} {D:Addr}
theorem ng{ys:List V}(h:aI B H q a ps)(n:a≠D)(eD:H D=some (.lst ys))(k:∀b o,b≠D→H b=some o→H' b=some o):aI B H' q a ps:=by obtain ⟨vs,e,l,f⟩:=h;exact ⟨vs,k _ _ n e,l,fun i v p h1 h2=>(f i v p h1 h2).bC eD k⟩
theorem j7{o:HO}:∀b o',b≠D→H b=some o'→upd H D o b=some o':=fun b o' nb e=>by rw [bI nb];exact e
theorem i4.put(h:i4 H0 H q r n m A f)(hk:k<n)(hD:aI (10 ^ 60) H q D ps)(lp:ps.length=m)(nD:H0 D=none)(Dr:D≠r)(nA:∀i,i<n→A i≠D):i4 H0 (upd H r (.lst (((List.range n).map fun i=>V.ref (A i)).set k (.ref D)))) q r n m (fun i=>if i=k then D else A i) (fun i=>if i=k then ps else f i):=by
 refine ⟨?_,h.new,fun i j hi hj e=>?_,fun i hi=>?_⟩
 ·rw [aA,W3 _ _ hk]
  congr 2
  refine BE fun i _=>?_;by_cases z:i=k;·rw [ak z,ak z]
  ·rw [ao z,ao z]
 ·by_cases z1:i=k
  ·by_cases z2:j=k
   ·lia
   ·rw [ak z1,ao z2] at e
    exact absurd e.symm (nA j hj)
  ·by_cases z2:j=k
   ·rw [ao z1,ak z2] at e
    exact absurd e (nA i hi)
   ·rw [ao z1,ao z2] at e
    exact h.inj i j hi hj e
 ·by_cases z:i=k
  ·rw [ak z,ak z]
   exact ⟨Dr,nD,ng hD Dr h.at' j7,lp⟩
  ·rw [ao z,ao z]
   obtain ⟨a,b,c,d⟩:=h.rows i hi;exact ⟨a,b,ng c a h.at' j7,d⟩
variable {c:Nat} {p:Int×Int}
theorem i4.cell{vs:List V}(h:i4 H0 H q r n m A f)(hk:k<n)(ev:H (A k)=some (.lst vs))(hv:bZ (10 ^ 60) H q v p.1 p.2)(hc:c<m):i4 H0 (upd H (A k) (.lst (vs.set c v))) q r n m A (fun i=>if i=k then (f i).set c p else f i):=by
 refine ⟨?_,h.new,h.inj,fun i hi=>?_⟩
 ·rw [bI (Ne.symm (h.rows k hk).1)]
  exact h.at'
 ·obtain ⟨a,b,c',d⟩:=h.rows i hi
  refine ⟨a,b,?_⟩;by_cases z:i=k
  ·rw [ak z]
   subst z;obtain ⟨Nk,e',l',f'⟩:=c';rw [ev] at e';cases e';refine ⟨⟨_,aA,by rw [gS,gS];exact l',fun j w p' h1 h2=>?_⟩,by rw [gS];exact d⟩
   by_cases y:j=c
   ·subst y
    rw [jv (by lia)] at h1 h2
    cases h1;cases h2;exact hv.bC ev j7
   ·rw [jw (fun e=>y e.symm)] at h1 h2
    exact (f' j w p' h1 h2).bC ev j7
  ·rw [ao z]
   exact ⟨ng c' (fun e=>z (h.inj i k hi hk e)) ev j7,d⟩
structure su (n0 d0 n1 d1:Int):Prop where
 b0:n0.natAbs≤10 ^ 6
 b1:n1.natAbs≤10 ^ 6
 p0:1≤d0
 p1:1≤d1
 l0:d0.natAbs≤1000
 l1:d1.natAbs≤1000
theorem su.bot(h:su n0 d0 n1 d1):1≤d0*d1∧(d0*d1).natAbs≤10 ^ 6:=by
 have:=d6 (show 0<d0 by have:=h.p0;lia) (show 0<d1 by have:=h.p1;lia)
 refine ⟨by lia,?_⟩
 rw [bz];exact aq (aZ h.l0 h.l1) (by decide)
variable {as:aD}
theorem W4(hb:su n0 d0 n1 d1){V:Nat}{bs:aD}(ha:cM Dl V as)(G4:cM Dl V bs)(la:as.length=m)(lb:bs.length=m)(lp:ps.length=m)
  (h:∀j,j<m→∀X D:Int,aO 0 (bu [(n0,d0),(n1,d1)] [as.getD j o1,bs.getD j o1] (0,1)) (X,D)→1≤D→(ps.getD j o1).1*D=X*(ps.getD j o1).2):cM (10 ^ 6*(Dl*Dl)) (2*10 ^ 6*V) ps:=by
 obtain ⟨Da,xa,a1,a2,sv⟩:=ha;obtain ⟨Db,xb,c1,c2,qj⟩:=G4;obtain ⟨q1,q2⟩:=hb.bot;have pd:=d6 (show 0<Da by lia) (show 0<Db by lia)
 have pq:=d6 (show 0<d0*d1 by lia) pd
 refine ⟨d0*d1*(Da*Db),fun j=>n0*d1*(xa j*Db)+n1*d0*(xb j*Da),by lia,?_,fun j hj=>?_⟩
 ·rw [bz,bz Da]
  exact aZ q2 (aZ a2 c2)
 ·obtain ⟨e1,e2⟩:=sv j (by lia)
  obtain ⟨e3,e4⟩:=qj j (by lia)
  exact ⟨h j (by lia) _ _ (CI e1 e3) (by lia),CJ hb.b0 hb.b1 hb.p0 hb.p1 e2 e4⟩
variable {j:Nat}
theorem W5(hb:su n0 d0 n1 d1){V:Nat}{bs:aD}(ha:cM Dl V as)(G4:cM Dl V bs)(hj:j<as.length)(hi:i<bs.length)(fit:2*10 ^ 6*V*(10 ^ 6*(Dl*Dl))≤10 ^ 60)(v1:1≤V):∃X D:Int,aO 0 (bu [(n0,d0),(n1,d1)] [as.getD j o1,bs.getD i o1] (0,1)) (X,D)∧1≤D∧X.natAbs≤10 ^ 60∧D.natAbs≤10 ^ 60:=by
 obtain ⟨Da,xa,a1,a2,sv⟩:=ha;obtain ⟨Db,xb,c1,c2,qj⟩:=G4;obtain ⟨q1,q2⟩:=hb.bot;have pd:=d6 (show 0<Da by lia) (show 0<Db by lia)
 have pq:=d6 (show 0<d0*d1 by lia) pd
 obtain ⟨e1,e2⟩:=sv j hj;obtain ⟨e3,e4⟩:=qj i hi;have bD:(d0*d1*(Da*Db)).natAbs≤10 ^ 6*(Dl*Dl):=by rw [bz,bz Da];exact aZ q2 (aZ a2 c2)
 refine ⟨_,_,CI e1 e3,by lia,?_,?_⟩
 ·exact aq (CJ hb.b0 hb.b1 hb.p0 hb.p1 e2 e4) (aq (gW _ bD) fit)
 ·exact aq bD (aq (fO _ (n8 (by decide) v1)) fit)
variable {d:Nat}
theorem W6(hb:su n0 d0 n1 d1){V e:Nat}(h:cM Dl V ps)(hd:d<ps.length)(he:e<ps.length)
  (hp:∀X D:Int,aO 0 (bu [(n0,d0),(n1,d1)] [ps.getD d o1,ps.getD e o1] (0,1)) (X,D)→1≤D→p.1*D=X*p.2):cM (10 ^ 6*Dl) (2*10 ^ 6*V) (ps.set c p):=by
 obtain ⟨D,x,a1,a2,hx⟩:=h;obtain ⟨q1,q2⟩:=hb.bot;have pq:=d6 (show 0<d0*d1 by lia) (show 0<D by lia)
 obtain ⟨e1,e2⟩:=hx d hd;obtain ⟨e3,e4⟩:=hx e he;have pd:=d6 pq (show 0<D by lia)
 refine ⟨d0*d1*D,fun j=>if j=c then n0*d1*x d+n1*d0*x e else d0*d1*x j,by lia,?_,fun j hj=>?_⟩
 ·rw [bz]
  exact aZ q2 a2
 ·rw [gS] at hj
  dsimp only;by_cases z:j=c
  ·rw [ak z,show (ps.set c p).getD j o1=p by rw [z,cu,jv (by lia)];rfl]
   have w:=hp _ _ (CI e1 e3) (by rw [show d0*d1*(D*D)=d0*d1*D*D by grind];lia)
   have b:=CJ (Da:=D) (Db:=D) (V:=V) hb.b0 hb.b1 hb.p0 hb.p1 e2 e4;have D0:D≠0:=by lia
   constructor
   ·refine lg D0 ?_
    grind
   ·have f1:(n0*d1*(x d*D)+n1*d0*(x e*D))=D*(n0*d1*x d+n1*d0*x e):=by grind
    have f2:d0*d1*(D*D)=D*(d0*d1*D):=by grind
    rw [f1,f2,bz,bz D,qU] at b;exact Nat.le_of_mul_le_mul_left b (iU.mpr D0)
  ·rw [ao z,show (ps.set c p).getD j o1=ps.getD j o1 by rw [cu,jw (fun e=>z e.symm),←cu]]
   obtain ⟨f1,f2⟩:=hx j hj;refine ⟨by grind,?_⟩
   rw [bz,bz (d0*d1),qU];exact gW _ (aq f2 (d9 _ (fO _ (by decide))))
theorem Nm(ha:pa.1*Da=xa*pa.2)(hb:pb.1*Db=xb*pb.2):aO 0 (bu [pa] [pb] (0,1)) (xa*xb,Da*Db):=by
 have z:=MM (q:=0) (n:=1) (ps:=[pa]) (rs:=[pb]) (D1:=Da) (D2:=Db) (f:=fun _=>xa) (g:=fun _=>xb) rfl rfl (fun i hi=>by
  match i,hi with
  | 0,_=>exact ⟨0,by show pa.1*Da-xa*pa.2=_;lia⟩) (fun i hi=>by
  match i,hi with
  | 0,_=>exact ⟨0,by show pb.1*Db-xb*pb.2=_;lia⟩)
 have e:(ag 1 fun _=>xa*xb)=xa*xb:=by show xa*xb+0=_;lia
 rw [e] at z;exact z
theorem W7{V:Nat}{bs:aD}(ha:cM Dl V as)(hb:cM Dl V bs)(hi:i<as.length)(lb:bs.length=m)(lp:ps.length=m)
  (h:∀j,j<m→∀X D:Int,aO 0 (bu [as.getD i o1] [bs.getD j o1] (0,1)) (X,D)→1≤D→(ps.getD j o1).1*D=X*(ps.getD j o1).2):cM (Dl*Dl) (V*V) ps:=by
 obtain ⟨Da,xa,a1,a2,sv⟩:=ha;obtain ⟨Db,xb,c1,c2,qj⟩:=hb;have pd:=d6 (show 0<Da by lia) (show 0<Db by lia)
 obtain ⟨e1,e2⟩:=sv i hi;refine ⟨Da*Db,fun j=>xa i*xb j,by lia,?_,fun j hj=>?_⟩
 ·rw [bz]
  exact aZ a2 c2
 ·obtain ⟨e3,e4⟩:=qj j (by lia)
  refine ⟨h j (by lia) _ _ (Nm e1 e3) (by lia),?_⟩
  rw [bz,bz Da];refine aq (aZ e2 e4) (ki ?_);grind
theorem W8{V:Nat}{bs:aD}(ha:cM Dl V as)(hb:cM Dl V bs)(hi:i<as.length)(hj:j<bs.length)(fit:V*V*(Dl*Dl)≤10 ^ 60)(v1:1≤V):∃X D:Int,aO 0 (bu [as.getD i o1] [bs.getD j o1] (0,1)) (X,D)∧1≤D∧X.natAbs≤10 ^ 60∧D.natAbs≤10 ^ 60:=by
 obtain ⟨Da,xa,a1,a2,sv⟩:=ha;obtain ⟨Db,xb,c1,c2,qj⟩:=hb;have pd:=d6 (show 0<Da by lia) (show 0<Db by lia)
 obtain ⟨e1,e2⟩:=sv i hi;obtain ⟨e3,e4⟩:=qj j hj;have bD:(Da*Db).natAbs≤Dl*Dl:=by rw [bz];exact aZ a2 c2
 refine ⟨_,_,Nm e1 e3,by lia,?_,?_⟩
 ·rw [bz]
  refine aq (aZ e2 e4) (aq (ki (show V*Da.natAbs*(V*Db.natAbs)=V*V*(Da.natAbs*Db.natAbs) by grind)) (aq (gW _ (aZ a2 c2)) fit))
 ·exact aq bD (aq (fO _ (n8 v1 v1)) fit)
theorem W9(hb:su n0 d0 n1 d1){V e:Nat}(h:cM Dl V ps)(hd:d<ps.length)(he:e<ps.length)(fit:2*10 ^ 6*V*(10 ^ 6*Dl)≤10 ^ 60)(v1:1≤V):∃X D:Int,aO 0 (bu [(n0,d0),(n1,d1)] [ps.getD d o1,ps.getD e o1] (0,1)) (X,D)∧1≤D∧X.natAbs≤10 ^ 60∧D.natAbs≤10 ^ 60:=by
 obtain ⟨D,x,a1,a2,hx⟩:=h;obtain ⟨q1,q2⟩:=hb.bot;have pq:=d6 (show 0<d0*d1 by lia) (show 0<D by lia)
 obtain ⟨e1,e2⟩:=hx d hd;obtain ⟨e3,e4⟩:=hx e he;have w:=CI (n0:=n0) (d0:=d0) (n1:=n1) (d1:=d1) e1 e3;have b:=CJ (Da:=D) (Db:=D) (V:=V) hb.b0 hb.b1 hb.p0 hb.p1 e2 e4;have D0:D≠0:=by lia
 have f1:(n0*d1*(x d*D)+n1*d0*(x e*D))=D*(n0*d1*x d+n1*d0*x e):=by grind
 have f2:d0*d1*(D*D)=D*(d0*d1*D):=by grind
 rw [f1,f2] at w b;rw [bz,bz D,qU] at b;have b:=Nat.le_of_mul_le_mul_left b (iU.mpr D0);have bD:(d0*d1*D).natAbs≤10 ^ 6*Dl:=by rw [bz];exact aZ q2 a2
 refine ⟨n0*d1*x d+n1*d0*x e,d0*d1*D,?_,by lia,aq b (aq (gW _ bD) fit),aq bD (aq (fO _ (n8 (by decide) v1)) fit)⟩
 have w:=kn.mp w;dsimp only at w;refine ⟨0,?_⟩;dsimp only;rw [bU];refine lg D0 ?_;rw [bU];grind
theorem l5(b:Nat):∀n,a9 n (fun _=>b)=b ^ n
 | 0=>rfl
 | n+1=>by show a9 n (fun _=>b)*b=b ^ (n+1);rw [l5 b n,n6]
theorem Nn{a b:Nat}(G5:b≤a)(k:Nat):∀n,a9 (n+1) (fun i=>if i=k then a else b)≤a*b ^ n
 | 0=>by
  show 1*(if 0=k then a else b)≤a*1
  split <;> lia
 | n+1=>by
  show a9 (n+1) (fun i=>if i=k then a else b)*(if n+1=k then a else b)≤a*b ^ (n+1)
  by_cases z:n+1=k
  ·rw [ak z,lZ (g:=fun _=>b) fun i hi=>ao (by lia),l5,iT]
   exact aH _
  ·rw [ao z,n6,←jA]
   exact d9 _ (Nn G5 k n)
theorem G6{x:Int}(h:Cg q x 0):q∣x:=by unfold Cg at h;rw [Int.sub_zero] at h;exact h
variable {aa:aG}
theorem W_(h1:oV q n aa)(h2:oX q n aa)(r:∃T D,cE q n n (atT aa) T D):False:=by obtain ⟨x,c,cn,nx,hx⟩:=h1;obtain ⟨T,D,r⟩:=r;exact nx (G6 (h2 T D r x (hx T D r) c cn))
theorem Xa{E':Nat}(h:eE q E ps)(h1:E≤E'):eE q E' ps:=by obtain ⟨D,x,a,b,c,d⟩:=h;exact ⟨D,x,a,aq b h1,c,fun i hi=>⟨(d i hi).1,aq (d i hi).2 h1⟩⟩
theorem bE.rep(hq:aB q)(h:bE B H q r aa)(hN:aa.length=n)(hM:∀ps∈aa,ps.length=m):∃T D,cE q n m (atT aa) T D:=WO (fun ps h1 p h2=>(h.nums hq ps h1 p h2).2.1) hN hM
end My
namespace L2
open PySem PySem.Spec PyProof.Rows
theorem Np{X:Cx}{K:aJ}(hK:X.K=K:=by rfl):cT X (compareOp .NotIn) (F4 K true):=by subst hK;exact Tu
end L2
namespace My
open PySem L2
section
variable {q:Int} {P n W:Nat} {aa cZ af:aG} {A M:aC} {c:Nat→Int} {L:List Nat} {last:Int}
theorem dE.Nq(hq:aB q)(h:dE q P W cZ A M c L last af)(hn:aa.length=n)(iV:cZ.length=n)(hm:∀ps∈aa,ps.length=n)(hl:∀i k,i<n→k<n→atT cZ i k=atT aa i k)(nW:n≤W)(hb:∀ps∈aa,∀p∈ps,aF q p.2){T:aC}{D:Int}(r:cE q n n (atT aa) T D){i k:Nat}(hi:i<n)(hk:k<n):Cg q (T i k*c i) (A i k*D):=by
 have e:=h.row i k (by lia) (by lia)
 rw [hl i k hi hk] at e;obtain ⟨ps,h1,h2⟩:=m9 hn hm hi hk;exact vB hq e (r.2 i k hi hk) (hb ps h1 _ h2)
theorem dE.Nr(hq:aB q)(h:dE q P W cZ A M c L last af)(hn:aa.length=n)(iV:cZ.length=n)(hm:∀ps∈aa,ps.length=n)(hl:∀i k,i<n→k<n→atT cZ i k=atT aa i k)(nW:n≤W)(hb:∀ps∈aa,∀p∈ps,aF q p.2)(ne:L≠List.range n):oV q n aa:=by
 have rd:=h.red.rd;rw [iV] at rd;obtain ⟨x,k,hk,nx,hx⟩:=rd.j6 hq nW ne;refine ⟨x,k,hk,nx,fun T D r i hi=>?_⟩;have ci:=h.bot i (by lia)
 refine fi hq (ci.nz hq) ?_;have s1:Cg q (c i*ag n fun k=>T i k*x k) (ag n fun k=>D*(A i k*x k)):=by rw [a8];refine cU fun k hk=>?_;have:=(h.Nq hq hn iV hm hl nW hb r hi hk).mulR (x k);exact (Cg.of_eq (by grind)).trans (this.trans (Cg.of_eq (by grind)))
 refine s1.trans ?_;rw [←a8];have:=(hx i hi).mulL D;rw [bU] at this;exact this
theorem dE.G7(hq:aB q)(h:dE q P W cZ A M c (List.range n) last af)(hn:aa.length=n)(iV:cZ.length=n)(hm:∀ps∈aa,ps.length=n)(hl:∀i k,i<n→k<n→atT cZ i k=atT aa i k)(nW:n≤W)(hb:∀ps∈aa,∀p∈ps,aF q p.2):oX q n aa:=fun T D r x hx j hj=>by
 have rd:=h.red.rd;rw [iV] at rd;have gr:∀j,j<n→(List.range n).getD j 0=j:=fun j hj=>by
  rw [getD_at (by simpa using hj)]
  simp
 have ax:∀t,t<n→Cg q (ag n fun k=>A t k*x k) 0:=fun t ht=>by
  refine fi hq (r.1.nz hq) ?_;have s1:Cg q (D*ag n fun k=>A t k*x k) (ag n fun k=>c t*(T t k*x k)):=by rw [a8];refine cU fun k hk=>?_;have:=(h.Nq hq hn iV hm hl nW hb r ht hk).symm.mulR (x k);exact (Cg.of_eq (by grind)).trans (this.trans (Cg.of_eq (by grind)))
  refine s1.trans ?_;rw [←a8];have:=(hx t ht).mulL (c t);rw [bU] at this;exact this
 obtain ⟨e,y,ne,hy⟩:=rd.qh j hj;have mx:Cg q (ag n fun k=>M j k*x k) 0:=by
  refine fi hq ne ?_;have s1:Cg q (e*ag n fun k=>M j k*x k) (ag n fun k=>(ag n fun t=>y t*A t k)*x k):=by rw [a8];exact cU fun k _=>(Cg.of_eq (by grind)).trans ((hy k).mulR (x k))
  refine s1.trans ?_;rw [zK n n (fun i=>y i) (fun i k=>A i k) x];have:=cU (q:=q) (n:=n) (f:=fun l=>y l*ag n fun j=>A l j*x j) (g:=fun _=>0) fun l hl=>by have:=(ax l hl).mulL (y l);rw [bU] at this;exact this
  rw [e_] at this;exact this
 have ld:=rd.lead j (by simpa using hj)
 rw [gr j hj] at ld;refine fi hq ld ?_;have s:Cg q (ag n fun k=>M j k*x k) (ag n fun k=>if k=j then M j k*x k else 0):=cU fun k hk=>by
  by_cases z:k=j;·rw [ak z];exact Cg.refl _
  ·rw [ao z]
   have o:=rd.off j k hj (by simpa using hk) (Ne.symm z)
   rw [gr k hk] at o;have:=o.mulR (x k);rw [gX] at this;exact this
 rw [kS n j (fun k=>M j k*x k) hj] at s;exact s.symm.trans mx
theorem dE.common(h:dE 0 P W cZ A M c L last af):∃D:Int,1≤D∧D.natAbs≤cZ.length*(bA cZ.length*P)∧∀j k,j<L.length→k<W→∃x:Int,(atT af j k).1*D=x*(atT af j k).2∧x.natAbs≤cZ.length*(bA cZ.length*P):=by
 have l0:=(h.red.last (.inl rfl)).2;obtain ⟨R,g,G,b,el⟩:=h.red.bar rfl;have bl:last.natAbs≤cZ.length*(bA cZ.length*P):=by rw [el];exact b.M8 h.red.n1
 refine ⟨(last.natAbs:Int),by lia,by rw [yL];exact bl,fun j k hj hk=>?_⟩
 have jn:j<cZ.length:=dy hj h.red.rd.len;have v:=h.val j k hj hk;rw [h.red.WQ rfl hj] at v;have e:=kn.mp v;dsimp only at e;have bm:=h.red.bd (.inl rfl) jn hk;by_cases y:0<last;·exact ⟨M j k,by rw [show (last.natAbs:Int)=last by lia];lia,bm⟩
 ·refine ⟨-(M j k),?_,by rw [qR];exact bm⟩
  rw [show (last.natAbs:Int)=-last by lia,jy,Int.neg_mul]
  lia
end
def vC(ps:aD):Prop:=∀p∈ps,p.1.natAbs≤10 ^ 6∧p.2.natAbs≤1000
def Xb:Sp:=fun vs H Q _=>∃(a:Addr) (q:Int) (B j:Nat) (aa:aG) (m:Nat),vs=[.ref a,.int (j:Int)]∧bE B H q a aa∧aa.length≤40∧(∀ps∈aa,ps.length=m)∧j<m∧∀(b:Addr) (H':Hp),ah H H'→H b=none→aI B H' q b (aa.map fun ps=>ps.getD j (0,1))→Q (.ref b) H'
def eW(m:Nat)(aa:aG):List (List (Int×Int)):=(List.range m).map fun j=>aa.map fun ps=>ps.getD j (0,1)
def Xc(N:Addr):Sp:=fun vs H Q E=>∃(a:Addr) (q:Int) (B:Nat) (aa:aG) (m:Nat),vs=[.ref a]∧bE B H q a aa∧1≤aa.length∧aa.length≤40∧(∀ps∈aa,ps.length=m)∧m≤40∧∀(b:Addr) (H':Hp),ah H H'→H b=none→bE B H' q b (eW m aa)→Q (.ref b) H'
def Xd(C:Addr):Sp:=fun vs H Q _=>∃(z a b:Addr) (q:Int) (B:Nat) (ps rs:aD),vs=[.ref z,.ref a,.ref b]∧fK C H z q∧aB q∧aI B H q a ps∧aI B H q b rs∧1000≤B∧B≤10 ^ 300∧ps.length≤40∧rs.length≤40∧1≤rs.length ∧
 ∀(r:Addr) (H':Hp),ah H H'→H r=none→lX H' q r (ps.length*rs.length) (fun j=>oQ (ps.getD (j / rs.length) o1) (rs.getD (j % rs.length) o1))→Q (.ref r) H'
def Xe:Sp:=fun vs H Q _=>∃(a:Addr) (q:Int) (B:Nat) (aa:aG) (m:Nat),vs=[.ref a]∧bE B H q a aa∧aa.length≤40∧(∀ps∈aa,ps.length=m)∧m≤40∧∀(r:Addr) (H':Hp),ah H H'→H r=none→aI B H' q r aa.flatten→Q (.ref r) H'
variable {q:Int} {ps:aD}
theorem zV(hq:aB q)(z:q≠0)(hc:∀p∈ps,Canon q p):eE q 1000 ps:=by
 have q9:q≤997:=by rcases hq with h | h <;> lia
 refine ⟨1,fun j=>(ps.getD j o1).1,⟨fun y=>absurd y z,fun _=>rfl⟩,by decide,fun p hp=>?_,fun j hj=>?_⟩
 ·rw [((hc p hp).2 z).1];exact pG 1
 ·obtain ⟨c1,c2,c3⟩:=(hc _ (by rw [getD_at hj];exact aQ _:ps.getD j o1∈ps)).2 z
  rw [c1];exact ⟨rfl,by dsimp only;lia⟩
variable {E:Nat} {D:Int}
theorem Xf{rs:aD}{Dl V X:Nat}(hv:cM Dl V ps)(d1:1≤D)(dX:D.natAbs≤X)(hr:∀j,j<rs.length→∃x:Int,(rs.getD j o1).1*D=x*(rs.getD j o1).2∧x.natAbs≤X)(hc:∀p∈ps++rs,Canon 0 p)(h1:V*Dl*X≤E)(v1:1≤V):eE 0 E (ps++rs):=by
 obtain ⟨Dp,x,e1,e2,hx⟩:=hv;have pd:=d6 (show 0<Dp by lia) (show 0<D by lia)
 have ex:∃y:Nat→Int,∀j,j<rs.length→(rs.getD j o1).1*D=y j*(rs.getD j o1).2∧(y j).natAbs≤X:=m7 hr;obtain ⟨y,hy⟩:=ex;have bd:(Dp*D).natAbs≤Dl*X:=by rw [bz];exact aZ e2 dX
 have all:∀j,j<(ps++rs).length→((ps++rs).getD j o1).1*(Dp*D)=(if j<ps.length then x j*D else Dp*y (j-ps.length))*((ps++rs).getD j o1).2∧(if j<ps.length then x j*D else Dp*y (j-ps.length)).natAbs≤E:=fun j hj=>by
  by_cases z:j<ps.length
  ·rw [ak z,show (ps++rs).getD j o1=ps.getD j o1 by rw [cu,fD z,←cu]]
   obtain ⟨f1,f2⟩:=hx j z;refine ⟨by grind,?_⟩
   rw [bz];refine aq (aZ (aq f2 (gW _ e2)) dX) h1
  ·rw [iS] at hj
   rw [ao z,show (ps++rs).getD j o1=rs.getD (j-ps.length) o1 by rw [cu,fN (by lia),←cu]]
   obtain ⟨f1,f2⟩:=hy (j-ps.length) (by lia)
   refine ⟨by grind,?_⟩
   rw [bz];refine aq (aZ (aq e2 (fO _ v1)) f2) h1
 refine ⟨Dp*D,fun j=>if j<ps.length then x j*D else Dp*y (j-ps.length),⟨fun _=>by lia,fun z=>absurd rfl z⟩,aq bd (aq (by rw [jA];exact fO _ v1) h1),fun p hp=>?_,all⟩
 obtain ⟨j,hj,e⟩:=gh.mp hp;have w:=(all j hj).1;rw [getD_at hj,e] at w;exact GX ((hc p hp).1 rfl) w
variable {aa bO:aG}
theorem nh(h:bO.length=aa.length):(List.zipWith (·++·) aa bO).length=aa.length:=by rw [BF,h,Nat.min_self]
variable {i:Nat}
theorem qk(h:bO.length=aa.length)(hi:i<aa.length):(List.zipWith (·++·) aa bO).getD i []=aa.getD i []++bO.getD i []:=by
 have h2:i<bO.length:=by lia
 rw [cu,Ft,getD_at hi,getD_at h2];simp [hi,h2]
variable {k m:Nat}
theorem vD(h:bO.length=aa.length)(hm:∀ps∈aa,ps.length=m)(hi:i<aa.length)(hk:k<m):atT (List.zipWith (·++·) aa bO) i k=atT aa i k:=by
 unfold atT;rw [qk h hi];have l:(aa.getD i []).length=m:=by rw [getD_at hi];exact hm _ (aQ _)
 rw [cu,fD (by lia),←cu]
theorem Nt{u:Nat}(h:bO.length=aa.length)(hm:∀ps∈aa,ps.length=m)(hu:∀ps∈bO,ps.length=u):∀ps∈List.zipWith (·++·) aa bO,ps.length=m+u:=fun ps hp=>by
 obtain ⟨i,hi,e⟩:=gh.mp hp;have a_:i<aa.length:=by rw [←nh h];exact hi
 have h2:i<bO.length:=by lia
 have z:=qk h a_;rw [getD_at hi,e] at z;rw [z,iS,getD_at a_,getD_at h2,hm _ (aQ _),hu _ (aQ _)]
theorem Xg(xs:List V)(a k:Nat)(h:a+k≤xs.length):ip xs (some (a:Int)) (some ((a+k:Nat):Int))=(xs.drop a).take k:=by
 have e1:HT.fI xs.length 0 (some (a:Int))=a:=by rw [HT.zh];lia
 have e2:HT.fI xs.length xs.length (some ((a+k:Nat):Int))=a+k:=by rw [HT.zh];lia
 unfold ip;rw [e1,e2,Nat.add_sub_cancel_left]
variable {B:Nat} {H:Hp} {r:Addr}
theorem aI.mid{vs:List V}{a:Nat}(e:H r=some (.lst ((vs.drop a).take k)))(l:vs.length=ps.length)(f:∀(i:Nat) (v:V) (p:Int×Int),vs[i]?=some v→ps[i]?=some p→bZ B H q v p.1 p.2):aI B H q r ((ps.drop a).take k):=by
 refine ⟨_,e,by rw [qO,qO,nS,nS,l],fun i v p h1 h2=>?_⟩
 have hi:i<k:=by have:=(aP.mp h1).1;rw [qO] at this;lia
 rw [Fi hi,BD] at h1 h2;exact f _ v p h1 h2
theorem nj(m:Nat)(aa:aG):(eW m aa).length=m:=by unfold eW;simp
theorem Nu(m:Nat)(aa:aG):∀ps∈eW m aa,ps.length=aa.length:=fun ps hp=>by unfold eW at hp;obtain ⟨i,_,e⟩:=eZ.mp hp;rw [←e];simp
variable {j:Nat}
theorem Xh(hi:i<m)(hj:j<aa.length):((eW m aa).getD i []).getD j o1=atT aa j i:=by
 have e:(eW m aa).getD i []=aa.map fun ps=>ps.getD i (0,1):=by unfold eW;rw [getD_at (by simpa using hi),jz,yU]
 unfold atT;rw [e,getD_at (by simpa using hj),jz,getD_at hj]
 rfl
variable {n P:Nat}
theorem Xi(h:n≤3):n*(bA n*P)≤18*P:=by have:n*(bA n*P)≤3*(bA 3*P):=aZ h (d9 _ (zP h));have e:bA 3=6:=rfl;rw [e] at this;lia
variable {W c t:Nat} {A M:aC} {L:List Nat}
theorem dZ.sol(hq:aB q){X:Nat→Int}{E:Int}(h:dZ q n A M L W)(mW:m≤W)(cW:c<W)(hL:∀l∈L,l<m)(hX:∀j,j<L.length→Cg q (X (L.getD j 0)*M j (L.getD j 0)) (M j c*E))(h0:∀k,k<m→k∉L→Cg q (X k) 0)(ht:t<n):Cg q (ag m fun k=>A t k*X k) (A t c*E):=by
 obtain ⟨e,y,ne,h1,_⟩:=h.done ht;refine m8 hq ne ?_;have row:∀j,j<L.length→Cg q (ag m fun k=>M j k*X k) (M j c*E):=fun j hj=>by
  have lm:L.getD j 0<m:=hL _ (by rw [getD_at hj];exact aQ _)
  have s:Cg q (ag m fun k=>M j k*X k) (ag m fun k=>if k=L.getD j 0 then M j k*X k else 0):=cU fun k hk=>by
   by_cases z:k=L.getD j 0;·rw [ak z];exact Cg.refl _
   ·rw [ao z]
    by_cases w:k∈L
    ·obtain ⟨i,hi,ei⟩:=gh.mp w
     have ij:j≠i:=fun e=>z (by subst e;rw [getD_at hi];exact ei.symm)
     have o:=h.off j i (dy hj h.len) hi ij;rw [getD_at hi,ei] at o;have:=o.mulR (X k);rw [gX] at this;exact this
    ·have:=(h0 k hk w).mulL (M j k)
     rw [bU] at this;exact this
  rw [kS m _ (fun k=>M j k*X k) lm] at s;exact s.trans ((Cg.of_eq (d5 ..)).trans (hX j hj))
 have s1:Cg q (e*ag m fun k=>A t k*X k) (ag m fun k=>(ag L.length fun j=>y j*M j k)*X k):=by rw [a8];exact cU fun k hk=>(Cg.of_eq (by grind)).trans ((h1 k (by lia)).mulR (X k))
 refine s1.trans ?_;rw [zK m L.length (fun j=>y j) (fun j k=>M j k) X];have s2:Cg q (ag L.length fun l=>y l*ag m fun j=>M l j*X j) (ag L.length fun l=>y l*M l c*E):=cU fun l hl=>((row l hl).mulL (y l)).trans (Cg.of_eq (by grind))
 refine s2.trans ?_;have s3:(ag L.length fun l=>y l*M l c*E)=E*ag L.length fun l=>y l*M l c:=by rw [a8];exact cm fun i _=>by grind
 rw [s3];exact ((h1 c cW).symm.mulL E).trans (Cg.of_eq (by grind))
theorem dZ.out(hq:aB q)(h:dZ q n A M L W)(hc:c∈L):∃y:Nat→Int,(∀k,k<c→Cg q (ag n fun t=>y t*A t k) 0)∧¬q∣ag n fun t=>y t*A t c:=by
 obtain ⟨j,hj,e⟩:=gh.mp hc;have gj:L.getD j 0=c:=by rw [getD_at hj];exact e
 obtain ⟨u,x,nu,hx⟩:=h.qh j (dy hj h.len);refine ⟨x,fun k hk=>?_,?_⟩
 ·have b:=(h.so j k hj (by lia)).mulL u
  rw [bU] at b;exact (hx k).symm.trans b
 ·have l:=h.lead j hj
  rw [gj] at l;exact (hx c).symm.nz (lV hq nu l)
theorem dZ.zW(hq:aB q)(h:dZ q n A M L W){x:Nat→Int}(hx:∀t,t<n→Cg q (ag m fun k=>A t k*x k) 0)(hi:i<n):Cg q (ag m fun k=>M i k*x k) 0:=by
 obtain ⟨e,y,ne,hy⟩:=h.qh i hi;refine fi hq ne ?_;have s1:Cg q (e*ag m fun k=>M i k*x k) (ag m fun k=>(ag n fun t=>y t*A t k)*x k):=by rw [a8];exact cU fun k _=>(Cg.of_eq (by grind)).trans ((hy k).mulR (x k))
 refine s1.trans ?_;rw [zK m n (fun i=>y i) (fun i k=>A i k) x];have:=cU (q:=q) (n:=n) (f:=fun l=>y l*ag m fun j=>A l j*x j) (g:=fun _=>0) fun l hl=>by have:=(hx l hl).mulL (y l);rw [bU] at this;exact this
 rw [e_] at this;exact this
theorem dZ.G8(hq:aB q)(h:dZ q n A M L W)(hc:c<W):c∈L↔∀x:Nat→Int,(∀k,c<k→x k=0)→(∀t,t<n→Cg q (ag W fun k=>A t k*x k) 0)→Cg q (x c) 0:=by
 constructor
 ·intro hL x x0 hx
  obtain ⟨j,hj,e⟩:=gh.mp hL;have gj:L.getD j 0=c:=by rw [getD_at hj];exact e
  have l:=h.lead j hj;rw [gj] at l;refine fi hq l ?_;have k0:=h.zW hq hx (dy hj h.len);have s:Cg q (ag W fun k=>M j k*x k) (ag W fun k=>if k=c then M j k*x k else 0):=cU fun k hk=>by
   by_cases z:k=c;·rw [ak z];exact Cg.refl _
   ·rw [ao z]
    by_cases y:k<c
    ·have:=(h.so j k hj (by lia)).mulR (x k)
     rw [gX] at this;exact this
    ·rw [x0 k (by lia),bU]
     exact Cg.refl _
  rw [kS W c (fun k=>M j k*x k) hc] at s;exact s.symm.trans k0
 ·intro hx
  refine gE fun nL=>?_;have main:∀m,m≤L.length→∃x:Nat→Int,¬q∣x c∧(∀k,c<k→x k=0)∧(∀k,k≠c→(∀j,j<m→k≠L.getD j 0)→x k=0)∧∀j,j<m→Cg q (ag W fun k=>M j k*x k) 0:=fun m=>by
   induction m with
   | zero=>exact fun _=>⟨fun k=>if k=c then 1 else 0,by dsimp only;rw [ak rfl];exact vz hq,fun k hk=>ao (by lia),fun k hk _=>ao hk,fun j hj=>by lia⟩
   | succ m ih=>
    intro hm;obtain ⟨x,h1,h2,h3,h4⟩:=ih (by lia)
    have Xj:L.getD m 0∈L:=by rw [getD_at (by lia)];exact aQ _
    by_cases lm:L.getD m 0<c
    ·have x0:x (L.getD m 0)=0:=h3 _ (by lia) fun j hj e=>by
      have:=sq h.up hj (by lia)
      lia
     refine ⟨fun k=>if k=L.getD m 0 then -(ag W fun k=>M m k*x k) else M m (L.getD m 0)*x k,?_,fun k hk=>?_,fun k hk hj=>?_,fun j hj=>?_⟩
     ·dsimp only
      rw [ao (by lia)]
      exact lV hq (h.lead m (by lia)) h1
     ·dsimp only
      rw [ao (by lia),h2 k hk,bU]
     ·dsimp only
      rw [ao (hj m (by lia)),h3 k hk fun j di=>hj j (by lia),bU]
     ·rw [Nf W _ (by lia) (M j) x _ _ x0]
      by_cases e:j=m
      ·subst e
       exact Cg.of_eq (by grind)
      ·have a:=(h4 j (by lia)).mulL (M m (L.getD m 0))
       have b:=(h.off j m (by have:=h.len;lia) (by lia) e).mulR (-(ag W fun k=>M m k*x k))
       exact (a.add b).trans (Cg.of_eq (by simp))
    ·have ne:L.getD m 0≠c:=fun e=>nL (e▸Xj)
     refine ⟨x,h1,h2,fun k hk hj=>h3 k hk fun j di=>hj j (by lia),fun j hj=>?_⟩
     by_cases e:j=m
     ·subst e
      have:=cU (q:=q) (n:=W) (f:=fun k=>M j k*x k) (g:=fun _=>0) fun k hk=>by
       by_cases y:k<L.getD j 0
       ·have:=(h.so j k (by lia) y).mulR (x k)
        rw [gX] at this;exact this
       ·rw [h2 k (by lia),bU]
        exact Cg.refl _
      rw [e_] at this;exact this
     ·exact h4 j (by lia)
  obtain ⟨x,h1,h2,_,h4⟩:=main L.length (aH _);have all:∀i,i<n→Cg q (ag W fun k=>M i k*x k) 0:=fun i hi=>by
   by_cases z:i<L.length;·exact h4 i z
   ·have:=cU (q:=q) (n:=W) (f:=fun k=>M i k*x k) (g:=fun _=>0) fun k hk=>by
     have:=(h.low i k hi (by lia) hk).mulR (x k)
     rw [gX] at this;exact this
    rw [e_] at this;exact this
  refine h1 (G6 (hx x h2 fun t ht=>?_));obtain ⟨e,y,ne',hy⟩:=h.ofM t ht;refine fi hq ne' ?_;have s1:Cg q (e*ag W fun k=>A t k*x k) (ag W fun k=>(ag n fun i=>y i*M i k)*x k):=by rw [a8];exact cU fun k _=>(Cg.of_eq (by grind)).trans ((hy k).mulR (x k))
  refine s1.trans ?_;rw [zK W n (fun i=>y i) (fun i k=>M i k) x];have:=cU (q:=q) (n:=n) (f:=fun l=>y l*ag W fun j=>M l j*x j) (g:=fun _=>0) fun l hl=>by have:=(all l hl).mulL (y l);rw [bU] at this;exact this
  rw [e_] at this;exact this
theorem G9:∀{L L':List Nat},L.Pairwise (· < ·)→L'.Pairwise (· < ·)→(∀c,c∈L↔c∈L')→L=L'
 | [],[],_,_,_=>rfl
 | [],b::L',_,_,h=>by have:=(h b).mpr gB;simp at this
 | a::L,[],_,_,h=>by have:=(h a).mp gB;simp at this
 | a::L,b::L',h1,h2,h=>by
  obtain ⟨p1,q1⟩:=List.pairwise_cons.mp h1;obtain ⟨p2,q2⟩:=List.pairwise_cons.mp h2;have ab:a=b:=by
   rcases eY.mp ((h a).mp gB) with e | e;·exact e
   ·rcases eY.mp ((h b).mpr gB) with e' | e'
    ·exact e'.symm
    ·have:=p2 a e
     have:=p1 b e';lia
  subst ab;rw [G9 q1 q2 fun c=>?_];constructor
  ·intro hc
   rcases eY.mp ((h c).mp (gg _ hc)) with e | e
   ·subst e
    have:=p1 c hc;lia
   ·exact e
  ·intro hc
   rcases eY.mp ((h c).mpr (gg _ hc)) with e | e
   ·subst e
    have:=p2 c hc;lia
   ·exact e
variable {wi:TI} {ρ:St→St} {te:TE} {σ:St} {Q:VK} {xs:List V}
theorem Xk{tt:TT}(hl:xs.length=n)(f:Nat→Bool)(gL:∀R:It→Hp→Prop,(∀J H1,ah H H1→mX J xs H1→R J H1)→wi σ H R)(hn:n<sizeLine)
  (P:Addr→Nat→V→Hp→Prop) (mono:∀D i y H H' ys,P D i y H→H D=some (.lst ys)→(∀b o,b≠D→H b=some o→H' b=some o)→P D i y H')
  (test:∀(i:Nat) (x:V),xs[i]?=some x→∀(Hc:Hp) (R:Bool→Hp→Prop),ah H Hc→R (f i) Hc→tt (some x::ρ σ) Hc R)
  (step:∀D (i:Nat) (x:V),xs[i]?=some x→f i=true→∀(Hc:Hp) (R:VK),ah H Hc→(∃ys,Hc D=some (.lst ys))→(∀y H3,ah Hc H3→P D i y H3→R y H3)→te (some x::ρ σ) Hc R)
  (fin:∀D ys Hc,H D=none→ah H Hc→ys.length=((List.range n).filter f).length→(∀(a:Nat) (y:V) (i:Nat),ys[a]?=some y→((List.range n).filter f)[a]?=some i→P D i y Hc)→Hc D=some (.lst ys)→Q (.ref D) Hc):jM wi ρ tt te σ H Q:=by
 refine gL _ fun J H1 s1 js=>?_;intro D nD;have hD:H D=none:=by
  cases e:H D with
  | none=>rfl
  | some o=>rw [s1 _ _ e] at nD;cases nD
 refine ⟨fun i m ys Hc=>m=n-i∧i≤n∧Hc D=some (.lst ys)∧ah H1 Hc∧ys.length=((List.range i).filter f).length∧(∀(a:Nat) (y:V) (j:Nat),ys[a]?=some y→((List.range i).filter f)[a]?=some j→P D j y Hc),⟨_,rfl,eJ _,aA,dP (ah.refl H1) nD,rfl,fun a y j e=>by simp at e⟩,?_⟩
 rintro i m ys Hc ⟨rfl,hi,eD,sH,el,hP⟩;refine ⟨eD,?_⟩;by_cases dr:i<n
 ·refine .inr ⟨js.go i Hc sH (by lia),fun x H' hy=>?_⟩
  obtain ⟨rfl,hx⟩:=js.fR i Hc x H' sH hy;refine test i x (hx (by lia)) _ _ (s1.trans sH) ?_
  have le:ys.length≤i:=by rw [el];refine aq (yO ..) ?_;simp
  cases ef:f i with
  | true=>
   rw [ak rfl];have er:(List.range (i+1)).filter f=(List.range i).filter f++[i]:=by rw [yN,Bs];simp [ef]
   refine step D i x (hx (by lia)) ef _ _ (s1.trans sH) ⟨_,eD⟩ fun y H3 s3 hp=>?_
   have e3:=s3 _ _ eD;have bC:∀b o,b≠D→H3 b=some o→upd H3 D (.lst (ys++[y])) b=some o:=fun b o nb e=>by rw [bI nb];exact e
   refine ⟨e3,by lia,n-(i+1),by lia,rfl,dr,aA,dP (sH.trans s3) nD,by rw [er,iS,iS,el];rfl,fun a y' j h1 h2=>?_⟩
   rw [er] at h2;by_cases z:a<ys.length
   ·rw [fD z] at h1
    rw [fD (by lia)] at h2
    exact mono D j y' H' _ ys (hP a y' j h1 h2) eD fun b o nb e=>bC b o nb (s3 _ _ e)
   ·rw [fN (by lia)] at h1 h2
    have ea:a-ys.length=0:=by have:=(aP.mp h1).1;simp at this;lia
    rw [ea] at h1;rw [show a-((List.range i).filter f).length=0 by lia] at h2
    cases h1;cases h2;exact mono D i _ H3 _ ys hp e3 bC
  | false=>
   rw [ao dB];have er:(List.range (i+1)).filter f=(List.range i).filter f:=by rw [yN,Bs];simp [ef]
   exact ⟨n-(i+1),by lia,rfl,dr,eD,sH,by rw [er];exact el,fun a y j h1 h2=>hP a y j h1 (by rw [er] at h2;exact h2)⟩
 ·have e:i=n:=by lia
  subst e;exact .inl ⟨js.stop _ Hc sH (by lia),fin D ys Hc hD (s1.trans sH) el hP eD⟩
def Xl(C:Addr):Sp:=fun vs H Q _=>∃(z ra la:Addr) (q:Int) (B W wide:Nat) (af:aG) (L:List Nat),vs=[.ref z,.ref ra,.ref la,.int (wide:Int)]∧fK C H z q∧aB q∧bE B H q ra af∧1000≤B∧(∀ps∈af,ps.length=W)∧H la=some (.lst (cY L))∧af.length=L.length∧L.length≤40∧L.Pairwise (· < ·)∧(∀l∈L,l<wide)∧wide≤40∧wide<W ∧
 ∀(r:Addr) (ps:aD) (H':Hp),ah H H'→H r=none→aI B H' q r ps→ps.length=wide→(∀j,j<L.length→ps.getD (L.getD j 0) o1=atT af j wide)→(∀k,k<wide→k∉L→ps.getD k o1=(0,1))→Q (.ref r) H'
def Xm(C:Addr):Sp:=fun vs H Q _=>∃(z ra la:Addr) (q:Int) (B W wide free:Nat) (af:aG) (L:List Nat),vs=[.ref z,.ref ra,.ref la,.int (wide:Int),.int (free:Int)]∧fK C H z q∧aB q∧bE B H q ra af∧1000≤B∧B≤10 ^ 290∧(∀ps∈af,ps.length=W)∧H la=some (.lst (cY L))∧af.length=L.length∧L.length≤40∧L.Pairwise (· < ·)∧(∀l∈L,l<wide)∧wide≤40∧wide≤W∧free<wide∧free∉L ∧
 ∀(r:Addr) (ps:aD) (H':Hp),ah H H'→H r=none→aI B H' q r ps→ps.length=wide→ps.getD free o1=(1,1)→(∀j,j<L.length→aO q (ps.getD (L.getD j 0) o1) (-(atT af j free).1,(atT af j free).2))→(∀k,k<wide→k∉L→k≠free→ps.getD k o1=(0,1))→Q (.ref r) H'
variable {p:Int×Int}
theorem G_(h:k<ps.length):(ps.set k p).getD k o1=p:=by rw [cu,jv h];rfl
theorem vE(h:j≠k):(ps.set k p).getD j o1=ps.getD j o1:=by rw [cu,jw (fun e=>h e.symm),←cu]
theorem CL(h:L.Pairwise (· < ·))(hi:i<L.length)(hj:j<L.length)(e:L.getD i 0=L.getD j 0):i=j:=by
 rcases Nat.lt_trichotomy i j with z | z | z
 ·have:=sq h z hj
  lia
 ·exact z
 ·have:=sq h z hi
  lia
def Xn:Sp:=fun vs H Q _=>∃(a:Addr) (ps:aD) (B:Nat) (D:Int),vs=[.ref a]∧aI B H 0 a ps∧ps.length≤100∧aF 0 D∧(∀p∈ps,p.2∣D)∧B<2 ^ 2048∧D.natAbs<2 ^ 2048∧∀(v:V) (H':Hp) (ts:List Int) (b:Int),ah H H'→MH H H' v ts b→GF 0 ps ts b D B→Q v H'
def Xo(C:Addr):Sp:=fun vs H Q _=>∃(z a:Addr) (q:Int) (ps:aD) (B:Nat) (D:Int),vs=[.ref z,.ref a]∧fK C H z q∧aB q∧aI B H q a ps∧ps.length≤100∧aF q D∧(∀p∈ps,p.2∣D)∧B<2 ^ 2048∧1000≤B∧D.natAbs<2 ^ 2048∧∀(v:V) (H':Hp) (ts:List Int) (b:Int),ah H H'→MH H H' v ts b→GF q ps ts b D B→Q v H'
def Xp(C N:Addr):Sp:=fun vs H Q E=>∃(z a:Addr) (q:Int) (B P W:Nat) (aa:aG) (G:Nat→Nat),vs=[.ref z,.ref a]∧fK C H z q∧aB q∧bE B H q a aa∧1000≤B∧B<2 ^ 2048∧1≤aa.length∧aa.length≤40∧(∀ps∈aa,ps.length=W)∧W≤100∧(∀i,i<aa.length→eE q (G i) (aa.getD i []))∧(∀i,1000≤G i∧G i<2 ^ 2048)∧a9 aa.length G≤P∧aa.length*(bA aa.length*P)<2 ^ 2048 ∧
 ∀(p r l:Addr) (H':Hp) (A M:aC) (c:Nat→Int) (L:List Nat) (last:Int) (af:aG),ah H H'→H' p=some (.tup [.ref r,.ref l])→H' l=some (.lst (cY L))→bE (aa.length*(bA aa.length*P)) H' q r af→dE q P W aa A M c L last af→Q (.ref p) H'
def Xq(C N:Addr):Sp:=fun vs H Q E=>∃(z a b:Addr) (q:Int) (B P u:Nat) (aa bO:aG) (G:Nat→Nat),vs=[.ref z,.ref a,.ref b]∧fK C H z q∧aB q∧bE B H q a aa∧bE B H q b bO∧1000≤B∧B<2 ^ 2048∧1≤aa.length∧aa.length≤40∧bO.length=aa.length∧(∀ps∈aa,ps.length=aa.length)∧(∀ps∈bO,ps.length=u)∧u≤40∧(∀ps∈List.zipWith (·++·) aa bO,ps.length=aa.length+u)∧(∀i,i<aa.length→eE q (G i) ((List.zipWith (·++·) aa bO).getD i []))∧(∀i,1000≤G i∧G i<2 ^ 2048)∧a9 aa.length G≤P∧aa.length*(bA aa.length*P)<2 ^ 2048 ∧
 (∀(H':Hp) (A M:aC) (c:Nat→Int) (L:List Nat) (last:Int) (af:aG),ah H H'→dE q P (aa.length+u) (List.zipWith (·++·) aa bO) A M c L last af→L≠List.range aa.length→Q .aY H') ∧
 (∀(H':Hp) (A M:aC) (c:Nat→Int) (last:Int) (af:aG) (r:Addr),ah H H'→dE q P (aa.length+u) (List.zipWith (·++·) aa bO) A M c (List.range aa.length) last af→(∃H1 x,bE (aa.length*(bA aa.length*P)) H1 q x af)→zU (aa.length*(bA aa.length*P)) H H' q r (af.map fun ps=>ps.drop aa.length)→Q (.ref r) H')
def l6(q:Int)(n m:Nat)(aa:aG)(as xs:aD):Prop:=∀T D a F X E,cE q n m (atT aa) T D→kU q n (fun j=>as.getD j o1) a F→kU q m (fun j=>xs.getD j o1) X E→∀t,t<n→Cg q (F*ag m fun k=>T t k*X k) (a t*D*E)
def kW(q:Int)(n m:Nat)(aa:aG)(vs:aD):Prop:=∀T D V E,cE q n m (atT aa) T D→kU q m (fun j=>vs.getD j o1) V E→∀t,t<n→Cg q (ag m fun k=>T t k*V k) 0
def CM(q:Int)(n m:Nat)(aa:aG)(as ys:aD):Prop:=∀T D a F Y E,cE q n m (atT aa) T D→kU q n (fun j=>as.getD j o1) a F→kU q n (fun j=>ys.getD j o1) Y E→(∀k,k<m→Cg q (ag n fun t=>Y t*T t k) 0)∧Cg q (ag n fun t=>Y t*a t) (E*F)
def ix(q:Int)(n m:Nat)(aa:aG)(L:List Nat):Prop:=L.Pairwise (· < ·)∧(∀l∈L,l<m)∧∀T D,cE q n m (atT aa) T D→∀c,c<m→(c∈L↔∀x:Nat→Int,(∀k,c<k→x k=0)→(∀t,t<n→Cg q (ag m fun k=>T t k*x k) 0)→Cg q (x c) 0)
def iy(as:aD):List (List (Int×Int)):=as.map fun p=>[p]
def fc(aa:aG)(as:aD):List (List (Int×Int)):=List.zipWith (·++·) aa (iy as)
theorem nC(as:aD):(iy as).length=as.length:=by unfold iy;simp
theorem Nv(as:aD):∀ps∈iy as,ps.length=1:=fun ps hp=>by unfold iy at hp;obtain ⟨p,_,e⟩:=eZ.mp hp;rw [←e];rfl
section
variable {q:Int} {n m:Nat} {aa:aG} {as:aD}
theorem CN(hn:aa.length=n)(la:as.length=n)(hm:∀ps∈aa,ps.length=m)(hi:i<n)(hk:k<m):atT (fc aa as) i k=atT aa i k:=vD (by rw [nC];lia) hm (by lia) hk
theorem Nw(hn:aa.length=n)(la:as.length=n)(hm:∀ps∈aa,ps.length=m)(hi:i<n):atT (fc aa as) i m=as.getD i o1:=by
 unfold atT fc;rw [qk (by rw [nC];lia) (by lia)]
 have l:(aa.getD i []).length=m:=by
  rw [getD_at (by lia)]
  exact hm _ (aQ _)
 have g:(iy as).getD i []=[as.getD i o1]:=by unfold iy;rw [getD_at (by simpa using (by lia:i<as.length)),jz,getD_at (by lia)]
 rw [g,cu,fN (by lia),l,mF]
 rfl
variable {P W:Nat} {af cZ:aG} {A M:aC} {c:Nat→Int} {L:List Nat} {last:Int}
variable {T:aC}
theorem dE.zX(hq:aB q)(h:dE q P W cZ A M c L last af)(hn:aa.length=n)(iV:cZ.length=n)(hm:∀ps∈aa,ps.length=m)(hl:∀i k,i<n→k<m→atT cZ i k=atT aa i k)(mW:m≤W)(hb:∀ps∈aa,∀p∈ps,aF q p.2)(r:cE q n m (atT aa) T D)(hi:i<n)(hk:k<m):Cg q (T i k*c i) (A i k*D):=by
 have e:=h.row i k (by lia) (by lia)
 rw [hl i k hi hk] at e;obtain ⟨ps,h1,h2⟩:=m9 hn hm hi hk;exact vB hq e (r.2 i k hi hk) (hb ps h1 _ h2)
theorem Hi(hq:aB q){x:Nat→Int}(h:∀k,k<m→Cg q (T t k*c t) (A t k*D)):Cg q (c t*ag m fun k=>T t k*x k) (D*ag m fun k=>A t k*x k):=by rw [a8,a8];exact cU fun k hk=>(Cg.of_eq (by grind)).trans (((h k hk).mulR (x k)).trans (Cg.of_eq (by grind)))
theorem dE.sol(hq:aB q)(h:dE q P (m+1) (fc aa as) A M c L last af)(hn:aa.length=n)(la:as.length=n)(hm:∀ps∈aa,ps.length=m)(hb:∀ps∈aa,∀p∈ps,aF q p.2)(jo:∀p∈as,aF q p.2)(jq:∀ps∈af,∀p∈ps,aF q p.2)(hL:∀l∈L,l<m){xs:aD}(h1:∀j,j<L.length→xs.getD (L.getD j 0) o1=atT af j m)(h0:∀k,k<m→k∉L→xs.getD k o1=(0,1)):l6 q n m aa as xs:=fun T D a F X E rT ra rX t ht=>by
 have lq:(fc aa as).length=n:=by unfold fc;rw [nh (by rw [nC];lia)];exact hn
 have rd:=h.red.rd;rw [lq] at rd;have ct:=h.bot t (by lia)
 have cg:=fun k hk=>h.zX hq hn lq hm (fun i k hi hk=>CN hn la hm hi hk) (kj m) hb rT (i:=t) (k:=k) ht hk;have ca:Cg q (a t*c t) (A t m*F):=by
  have e:=h.row t m (by lia) (by lia)
  rw [Nw hn la hm ht] at e;exact vB hq e (ra.2 t ht) (jo _ (by rw [getD_at (by lia)];exact aQ _))
 have s:=rd.sol hq (m:=m) (c:=m) (X:=X) (E:=E) (kj m) (uT m) hL (fun j hj=>by
  have lm:L.getD j 0<m:=hL _ (by rw [getD_at hj];exact aQ _)
  have w:aO q (xs.getD (L.getD j 0) o1) (X (L.getD j 0),E):=rX.2 _ lm;rw [h1 j hj] at w;have v:=h.val j m hj (uT m);obtain ⟨ps,p1,p2⟩:=m9 h.len h.eF hj (uT m);exact GW hq v w (jq ps p1 _ p2)) (fun k hk nk=>by
  have w:aO q (xs.getD k o1) (X k,E):=rX.2 k hk;rw [h0 k hk nk] at w;obtain ⟨k',e⟩:=w;dsimp only at e;exact ⟨-k',by rw [jy];lia⟩) ht
 refine m8 hq (ct.nz hq) ?_;have t1:=(Hi hq (x:=X) cg).mulL F;have t2:=s.mulL (F*D);have t3:=ca.symm.mulL (D*E);exact (Cg.of_eq (by grind)).trans (t1.trans ((Cg.of_eq (by grind)).trans (t2.trans ((Cg.of_eq (by grind)).trans (t3.trans (Cg.of_eq (by grind)))))))
theorem dE.Hj(hq:aB q)(h:dE q P W cZ A M c L last af)(hn:aa.length=n)(iV:cZ.length=n)(hm:∀ps∈aa,ps.length=m)(hl:∀i k,i<n→k<m→atT cZ i k=atT aa i k)(mW:m≤W)(hb:∀ps∈aa,∀p∈ps,aF q p.2)(jq:∀ps∈af,∀p∈ps,aF q p.2)(hL:∀l∈L,l<m){f:Nat}(fm:f<m)(nf:f∉L){vs:aD}(bv:∀k,k<m→aF q (vs.getD k o1).2)(hf:vs.getD f o1=(1,1))(h1:∀j,j<L.length→aO q (vs.getD (L.getD j 0) o1) (-(atT af j f).1,(atT af j f).2))(h0:∀k,k<m→k∉L→k≠f→vs.getD k o1=(0,1)):kW q n m aa vs:=fun T D V E rT rV t ht=>by
 have rd:=h.red.rd;rw [iV] at rd;have ct:=h.bot t (by lia)
 have cg:=fun k hk=>h.zX hq hn iV hm hl mW hb rT (i:=t) (k:=k) ht hk;have vf:Cg q (V f) E:=by have w:aO q (vs.getD f o1) (V f,E):=rV.2 f fm;rw [hf] at w;obtain ⟨k',e⟩:=w;dsimp only at e;exact ⟨-k',by rw [jy];lia⟩
 have s:=rd.sol hq (m:=m) (c:=f) (X:=fun k=>if k=f then 0 else -(V k)) (E:=E) mW (by lia) hL (fun j hj=>by
  have lm:L.getD j 0<m:=hL _ (by rw [getD_at hj];exact aQ _)
  have ne:L.getD j 0≠f:=fun e=>nf (by rw [←e,getD_at hj];exact aQ _)
  rw [ao ne];obtain ⟨ps,p1,p2⟩:=m9 h.len h.eF hj (show f<W by lia)
  have bp:=jq ps p1 _ p2;have v:=h.val j f hj (by lia)
  have w:=(h1 j hj).symm.trans (rV.2 _ lm) (bv _ lm);have w2:aO q (atT af j f) (-(V (L.getD j 0)),E):=by obtain ⟨k',e⟩:=w;dsimp only at e;exact ⟨-k',by dsimp only;rw [jy];grind⟩
  exact GW hq v w2 bp) (fun k hk nk=>by
  by_cases y:k=f;·rw [ak y];exact Cg.refl _
  ·rw [ao y]
   have w:aO q (vs.getD k o1) (V k,E):=rV.2 k hk;rw [h0 k hk nk y] at w;obtain ⟨k',e⟩:=w;dsimp only at e;exact ⟨k',by lia⟩) ht
 refine fi hq (ct.nz hq) ?_;refine (Hi hq (x:=V) cg).trans ?_;have e1:(ag m fun k=>A t k*V k)=(ag m fun k=>if k=f then A t k*V k else 0)-ag m fun k=>A t k*(if k=f then 0 else -(V k)):=by
  rw [←GU];exact cm fun k _=>by
   by_cases y:k=f;·rw [ak y,ak y];lia
   ·rw [ao y,ao y];grind
 rw [e1,kS m f (fun k=>A t k*V k) fm];have z:=(vf.mulL (A t f)).sub s;rw [Int.sub_self] at z;have:=z.mulL D;rw [bU] at this;exact this
theorem dE.Nx(hq:aB q)(h:dE q P (m+1) (fc aa as) A M c L last af)(hn:aa.length=n)(la:as.length=n)(hm:∀ps∈aa,ps.length=m)(hb:∀ps∈aa,∀p∈ps,aF q p.2)(jo:∀p∈as,aF q p.2)(hc:m∈L){a:Nat→Int}{F:Int}(rT:cE q n m (atT aa) T D)(ra:kU q n (fun j=>as.getD j o1) a F):∃y:Nat→Int,(∀k,k<m→Cg q (ag n fun t=>y t*T t k) 0)∧¬q∣ag n fun t=>y t*a t:=by
 have lq:(fc aa as).length=n:=by unfold fc;rw [nh (by rw [nC];lia)];exact hn
 have rd:=h.red.rd;rw [lq] at rd;obtain ⟨y,h1,h2⟩:=rd.out hq hc;refine ⟨fun t=>y t*c t,fun k hk=>?_,fun dv=>?_⟩
 ·have s:Cg q (ag n fun t=>y t*c t*T t k) (D*ag n fun t=>y t*A t k):=by rw [a8];exact cU fun t ht=>(Cg.of_eq (by grind)).trans (((h.zX hq hn lq hm (fun i k hi hk=>CN hn la hm hi hk) (kj m) hb rT ht hk).mulL (y t)).trans (Cg.of_eq (by grind)))
  refine s.trans ?_;have:=(h1 k hk).mulL D;rw [bU] at this;exact this
 ·have s:Cg q (ag n fun t=>y t*c t*a t) (F*ag n fun t=>y t*A t m):=by
   rw [a8];refine cU fun t ht=>?_;have e:=h.row t m (by lia) (by lia)
   rw [Nw hn la hm ht] at e;have ca:=vB hq e (ra.2 t ht) (jo _ (by rw [getD_at (by lia)];exact aQ _))
   exact (Cg.of_eq (by grind)).trans ((ca.mulL (y t)).trans (Cg.of_eq (by grind)))
  exact s.nz (lV hq (ra.1.nz hq) h2) dv
theorem dE.Xr(hq:aB q)(h:dE q P W cZ A M c L last af)(hn:aa.length=n)(iV:cZ.length=n)(hm:∀ps∈aa,ps.length=m)(hl:∀i k,i<n→k<m→atT cZ i k=atT aa i k)(mW:m≤W)(hb:∀ps∈aa,∀p∈ps,aF q p.2)(hL:∀l∈L,l<m):ix q n m aa L:=by
 have rd:=h.red.rd
 rw [iV] at rd
 refine ⟨rd.up,hL,fun T D rT c0 hc=>(rd.G8 hq (show c0<W by lia)).trans ?_⟩
 have conv:∀x:Nat→Int,(∀k,c0<k→x k=0)→∀t,t<n→(Cg q (ag W fun k=>A t k*x k) 0↔Cg q (ag m fun k=>T t k*x k) 0):=fun x x0 t ht=>by
  have cut:Cg q (ag W fun k=>A t k*x k) (ag m fun k=>A t k*x k):=GL mW fun i h1 _=>by
   rw [x0 i (by lia),bU]
   exact Cg.refl _
  have ct:=h.bot t (by lia)
  have s:=Hi (m:=m) hq (x:=x) (T:=T) (A:=A) (c:=c) (D:=D) (t:=t) fun k hk=>h.zX hq hn iV hm hl mW hb rT ht hk
  constructor
  ·intro z
   refine fi hq (ct.nz hq) (s.trans ?_)
   have:=(cut.symm.trans z).mulL D
   rw [bU] at this
   exact this
  ·intro z
   refine cut.trans (fi hq (rT.1.nz hq) (s.symm.trans ?_))
   have:=z.mulL (c t)
   rw [bU] at this
   exact this
 exact ⟨fun g x x0 hx=>g x x0 fun t ht=>(conv x x0 t ht).mpr (hx t ht),fun g x x0 hx=>g x x0 fun t ht=>(conv x x0 t ht).mp (hx t ht)⟩
end
def fL(m:Nat)(aa:aG)(as:aD):List (List (Int×Int)):=eW m aa++[as]
def iz(m:Nat):List (Int×Int):=List.replicate m ((0:Int),(1:Int))++[((1:Int),(1:Int))]
section
variable {q:Int} {n m:Nat} {aa:aG} {as:aD}
theorem oY:(fL m aa as).length=m+1:=by unfold fL;simp [nj]
theorem vF:(iz m).length=m+1:=by unfold iz;simp
theorem Ny(ht:t<m):(eW m aa).getD t []=aa.map fun ps=>ps.getD t (0,1):=by
 rw [getD_at (by rw [nj];exact ht)]
 unfold eW;simp
theorem Nz(ht:t<m):(fL m aa as).getD t []=aa.map fun ps=>ps.getD t (0,1):=by unfold fL;rw [cu,fD (by rw [nj];exact ht),←cu,Ny ht]
theorem NA:(fL m aa as).getD m []=as:=by
 unfold fL;rw [cu,fN (by rw [nj];exact aH _),nj,mF]
 rfl
theorem NB(hn:aa.length=n)(la:as.length=n):∀ps∈fL m aa as,ps.length=n:=fun ps hp=>by
 unfold fL eW at hp;rcases kh.mp hp with h | h
 ·obtain ⟨j,_,e⟩:=eZ.mp h
  rw [←e,bL];exact hn
 ·rw [i8.mp h]
  exact la
theorem Xs(hn:aa.length=n)(ht:t<m)(hk:k<n):atT (fL m aa as) t k=atT aa k t:=by
 unfold atT;rw [Nz ht,getD_at (by simpa using (by lia:k<aa.length)),jz,getD_at (show k<aa.length by lia)]
 rfl
theorem Xt:atT (fL m aa as) m k=as.getD k o1:=by unfold atT;rw [NA]
theorem NC(ht:t<m):(iz m).getD t o1=(0,1):=by
 unfold iz;rw [cu,fD (by simpa using ht)]
 simp [ht]
theorem ND:(iz m).getD m o1=(1,1):=by
 unfold iz;rw [cu,fN (by simp)]
 simp
theorem NF:∀p∈iz m,aF q p.2:=fun p hp=>by
 unfold iz at hp;rcases kh.mp hp with h | h
 ·rw [(yV.mp h).2]
  exact aF.one
 ·rw [i8.mp h]
  exact aF.one
theorem Xu(hm:∀ps∈aa,ps.length=m)(h:ps∈eW m aa)(hp:p∈ps):∃rs∈aa,p∈rs:=by
 unfold eW at h;obtain ⟨j,hj,e⟩:=eZ.mp h;rw [←e] at hp;obtain ⟨rs,h1,h2⟩:=eZ.mp hp;have jm:j<rs.length:=by rw [hm rs h1];exact fe.mp hj
 exact ⟨rs,h1,by rw [←h2,getD_at jm];exact aQ _⟩
theorem NG(hm:∀ps∈aa,ps.length=m)(hb:∀ps∈aa,∀p∈ps,aF q p.2)(jo:∀p∈as,aF q p.2):∀ps∈fL m aa as,∀p∈ps,aF q p.2:=fun ps h p hp=>by
 unfold fL at h;rcases kh.mp h with h | h
 ·obtain ⟨rs,h1,h2⟩:=Xu hm h hp
  exact hb rs h1 p h2
 ·rw [i8.mp h] at hp
  exact jo p hp
variable {T:aC} {a:Nat→Int} {D F:Int}
def sy(m:Nat)(T:aC)(a:Nat→Int)(D F:Int):Nat→Nat→Int:=fun t k=>if t<m then T k t*F else a k*D
def sA(m:Nat):Nat→Int:=fun t=>if t<m then 0 else 1
theorem NH(hn:aa.length=n)(rT:cE q n m (atT aa) T D)(ra:kU q n (fun j=>as.getD j o1) a F):cE q (m+1) n (atT (fL m aa as)) (sy m T a D F) (D*F):=by
 refine ⟨rT.1.mul ra.1,fun t k ht hk=>?_⟩;unfold sy;by_cases y:t<m
 ·rw [Xs hn y hk,ak y]
  obtain ⟨c,e⟩:=rT.2 k t hk y;dsimp only at e;exact ⟨c*F,by dsimp only;grind⟩
 ·have e:t=m:=by lia
  subst e;rw [Xt,ao y];obtain ⟨c,e⟩:=ra.2 k hk;dsimp only at e;exact ⟨c*D,by dsimp only;grind⟩
theorem NI:kU q (m+1) (fun j=>(iz m).getD j o1) (sA m) 1:=by
 refine ⟨aF.one,fun t ht=>?_⟩;unfold sA;dsimp only;by_cases y:t<m
 ·rw [NC y,ak y]
  exact aO.refl _
 ·have e:t=m:=by lia
  subst e;rw [ND,ao y];exact aO.refl _
theorem Xv(hq:aB q)(hn:aa.length=n){xs:aD}(h:l6 q (m+1) n (fL m aa as) (iz m) xs):CM q n m aa as xs:=fun T D a F Y E rT ra rY=>by
 have s:=h _ _ _ _ Y E (NH hn rT ra) NI rY;refine ⟨fun k hk=>?_,?_⟩
 ·have e:=s k (by lia)
  unfold sy sA at e;rw [ak hk,gX,gX,mG] at e;refine fi hq (ra.1.nz hq) ?_;rw [a8];refine (Cg.of_eq (cm fun t _=>?_)).trans e;rw [ak hk];grind
 ·have e:=s m (by lia)
  unfold sy sA at e;rw [ao (by lia),mG,mG] at e
  refine m8 hq (rT.1.nz hq) ?_;rw [a8];refine (Cg.of_eq (cm fun t _=>?_)).trans (e.trans (Cg.of_eq (by grind)))
  rw [ao (by lia)]
  grind
theorem Xw(hq:aB q){y y':Nat→Int}(h1:∀k,k<m→Cg q (ag n fun t=>y t*T t k) 0)(h2:¬q∣ag n fun t=>y t*a t)(nD:¬q∣D)(h3:∀k,k<n→Cg q (ag (m+1) fun t=>y' t*sy m T a D F t k) 0)(h4:¬q∣ag (m+1) fun t=>y' t*sA m t):False:=by
 have e4:(ag (m+1) fun t=>y' t*sA m t)=y' m:=by
  rw [m6];unfold sA;rw [ao (by lia),iB,cm (g:=fun _=>0) fun t ht=>by rw [ak ht,bU],e_]
  lia
 rw [e4] at h4;have e3:∀k,(ag (m+1) fun t=>y' t*sy m T a D F t k)=(F*ag m fun t=>y' t*T k t)+y' m*(a k*D):=fun k=>by rw [m6,a8];unfold sy;rw [ao (by lia),cm (g:=fun t=>F*(y' t*T k t)) fun t ht=>by rw [ak ht];grind]
 have s:Cg q (ag n fun k=>y k*((F*ag m fun t=>y' t*T k t)+y' m*(a k*D))) 0:=by
  have:=cU (q:=q) (n:=n) (f:=fun k=>y k*((F*ag m fun t=>y' t*T k t)+y' m*(a k*D))) (g:=fun _=>0) fun k hk=>by have z:=(h3 k hk).mulL (y k);rw [e3 k,bU] at z;exact z
  rw [e_] at this;exact this
 have sp:(ag n fun k=>y k*((F*ag m fun t=>y' t*T k t)+y' m*(a k*D)))=(F*ag m fun t=>y' t*ag n fun k=>y k*T k t)+y' m*D*ag n fun k=>y k*a k:=by
  have e1:(ag m fun t=>y' t*ag n fun k=>y k*T k t)=ag n fun k=>y k*ag m fun t=>y' t*T k t:=by rw [cm (g:=fun t=>ag n fun k=>y' t*(y k*T k t)) fun t _=>a8 _ _ _,vw];refine cm fun k _=>?_;rw [a8];exact cm fun t _=>by grind
  rw [e1,a8,a8,←m5];exact cm fun k _=>by grind
 rw [sp] at s;have z:Cg q (F*ag m fun t=>y' t*ag n fun k=>y k*T k t) 0:=by
  have:=cU (q:=q) (n:=m) (f:=fun t=>y' t*ag n fun k=>y k*T k t) (g:=fun _=>0) fun t ht=>by have z:=(h1 t ht).mulL (y' t);rw [bU] at z;exact z
  rw [e_] at this;have:=this.mulL F;rw [bU] at this;exact this
 have w:=s.sub z;rw [Int.sub_self] at w;have w2:Cg q (y' m*D*ag n fun k=>y k*a k) 0:=(Cg.of_eq (by lia)).trans w
 obtain ⟨c,e⟩:=w2;exact lV hq (lV hq h4 nD) h2 ⟨c,by lia⟩
variable {af:aG}
theorem dE.Xx(hq:aB q){P':Nat}{A' M':aC}{c c':Nat→Int}{L':List Nat}{last Hk:Int}{Xy:aG}(h:dE q P (m+1) (fc aa as) A M c L last af)(h':dE q P' (n+1) (fc (fL m aa as) (iz m)) A' M' c' L' Hk Xy)(hn:aa.length=n)(la:as.length=n)(hm:∀ps∈aa,ps.length=m)(hb:∀ps∈aa,∀p∈ps,aF q p.2)(jo:∀p∈as,aF q p.2)(rT:cE q n m (atT aa) T D)(ra:kU q n (fun j=>as.getD j o1) a F)(hc:m∈L):∀l∈L',l<n:=fun l hl=>by
 have ln:l<n+1:=h'.red.rd.lt l hl;by_cases y:l=n
 ·subst y
  obtain ⟨y,h1,h2⟩:=h.Nx hq hn la hm hb jo hc rT ra;obtain ⟨y',h3,h4⟩:=h'.Nx hq oY vF (NB hn la) (NG hm hb jo) NF hl (NH hn rT ra) NI;exact (Xw hq h1 h2 (rT.1.nz hq) h3 h4).elim
 ·lia
theorem dE.Hl(hq:aB q){cZ:aG}{c:Nat→Int}{last:Int}(h:dE q P W cZ A M c L last af){wide f:Nat}{xs:aD}(lx:xs.length=wide)(hc:∀p∈xs,Canon q p)(fW:f<W)(h1:∀k,k<wide→(∃j,j<L.length∧(aO q (xs.getD k o1) (atT af j f)∨aO q (xs.getD k o1) (-(atT af j f).1,(atT af j f).2))∧(atT af j f).2≠0)∨xs.getD k o1=(0,1)∨xs.getD k o1=(1,1))(hB:1000≤cZ.length*(bA cZ.length*P)):eE q (cZ.length*(bA cZ.length*P)) xs:=by
 by_cases z:q=0
 ·subst z
  obtain ⟨D,d1,dX,hD⟩:=h.common;obtain ⟨y,hy⟩:=m7 (n:=wide) (α:=Int) (R:=fun k x=>(xs.getD k o1).1*D=x*(xs.getD k o1).2∧x.natAbs≤cZ.length*(bA cZ.length*P)) fun k hk=>by
   rcases h1 k hk with ⟨j,hj,w,nz⟩ | e | e
   ·obtain ⟨x,e1,e2⟩:=hD j f hj fW
    rcases w with w | w
    ·have e:=kn.mp w
     refine ⟨x,lg nz ?_,e2⟩;generalize atT af j f=p at *;generalize xs.getD k o1=r at *;grind
    ·have e:=kn.mp w
     dsimp only at e;refine ⟨-x,lg nz ?_,by rw [qR];exact e2⟩
     generalize atT af j f=p at *;generalize xs.getD k o1=r at *;grind
   ·exact ⟨0,by rw [e];simp,by simp⟩
   ·exact ⟨D,by rw [e];simp,dX⟩
  refine ⟨D,y,⟨fun _=>d1,fun z=>absurd rfl z⟩,dX,fun p hp=>?_,fun k hk=>hy k (by lia)⟩
  obtain ⟨k,hk,e⟩:=gh.mp hp;have w:=(hy k (by lia)).1
  rw [getD_at hk,e] at w;exact GX ((hc p hp).1 rfl) w
 ·exact Xa (zV hq z hc) hB
end
variable {a:Addr} {af:aG}
theorem bE.cat{ys:List V}(e:H a=some (.lst (xs++ys)))(l1:xs.length=aa.length)(l2:ys.length=af.length)(h1:∀(i:Nat) (v:V) (ps:aD),xs[i]?=some v→aa[i]?=some ps→∃r:Addr,v=.ref r∧aI B H q r ps)(h2:∀(i:Nat) (v:V) (ps:aD),ys[i]?=some v→af[i]?=some ps→∃r:Addr,v=.ref r∧aI B H q r ps):bE B H q a (aa++af):=by
 refine ⟨_,e,by rw [iS,iS];lia,fun i v ps hv hp=>?_⟩
 by_cases y:i<xs.length
 ·rw [fD y] at hv
  rw [fD (by lia)] at hp
  exact h1 i v ps hv hp
 ·rw [fN (by lia)] at hv hp
  rw [l1] at hv;exact h2 _ v ps hv hp
variable {v:V}
theorem Hm(e:H a=some (.lst [v]))(h:bZ B H q v p.1 p.2):aI B H q a [p]:=by
 refine ⟨_,e,rfl,fun i v' p' h1 h2=>?_⟩;cases i with
 | zero=>cases h1;cases h2;exact h
 | succ i=>simp at h1
theorem Xz(h:eE q E ps)(hp:p=(0,1)∨p=(1,1)):eE q E (ps++[p]):=by
 obtain ⟨D,x,ok,bD,dv,hx⟩:=h;refine ⟨D,fun k=>if k<ps.length then x k else p.1*D,ok,bD,fun r hr=>?_,fun k hk=>?_⟩
 ·rcases kh.mp hr with z | z
  ·exact dv r z
  ·rw [i8.mp z]
   rcases hp with e | e <;> rw [e] <;> exact Int.one_dvd _
 ·dsimp only
  by_cases z:k<ps.length
  ·rw [ak z,show (ps++[p]).getD k o1=ps.getD k o1 by rw [cu,fD z,←cu]]
   exact hx k z
  ·have e:k=ps.length:=by simp at hk;lia
   rw [ao z,e,show (ps++[p]).getD ps.length o1=p by rw [cu,fN (aH _)];simp]
   rcases hp with e | e;·rw [e];exact ⟨by simp,by simp⟩
   ·rw [e];exact ⟨by simp,by simpa using bD⟩
variable {as:aD}
theorem NJ(la:as.length=aa.length)(hi:i<aa.length):(fc aa as).getD i []=aa.getD i []++[as.getD i o1]:=by
 unfold fc;rw [qk (by rw [nC];exact la) hi]
 have g:(iy as).getD i []=[as.getD i o1]:=by unfold iy;rw [getD_at (by simpa using (by lia:i<as.length)),jz,getD_at (by lia)]
 rw [g]
theorem Hn(la:as.length=aa.length):(fc aa as).length=aa.length:=by unfold fc;rw [nh (by rw [nC];exact la)]
theorem NK(la:as.length=aa.length)(hm:∀ps∈aa,ps.length=m):∀ps∈fc aa as,ps.length=m+1:=fun ps hp=>by
 obtain ⟨i,hi,e⟩:=gh.mp hp;have a_:i<aa.length:=by rw [Hn la] at hi;exact hi
 have g:=NJ la a_;rw [getD_at hi,getD_at a_,e] at g;rw [g,iS,hm _ (aQ a_)];rfl
def XA(C:Addr):Sp:=fun vs H Q _=>∃(z a b:Addr) (q:Int) (B P m:Nat) (aa:aG) (as:aD) (G:Nat→Nat),vs=[.ref z,.ref a,.ref b]∧fK C H z q∧aB q∧bE B H q a aa∧aI B H q b as∧1000≤B∧B<2 ^ 2048∧1≤aa.length∧aa.length≤30∧(∀ps∈aa,ps.length=m)∧m≤30∧as.length=aa.length∧(∀i,i<m+1→eE q (G i) ((fL m aa as).getD i []))∧(∀i,1000≤G i∧G i<2 ^ 2048)∧a9 (m+1) G≤P∧(m+1)*(bA (m+1)*P)<2 ^ 2048 ∧
 (∃(P0:Nat) (A M:aC) (c:Nat→Int) (L:List Nat) (last:Int) (af:aG),dE q P0 (m+1) (fc aa as) A M c L last af∧m∈L) ∧
 ∀(r:Addr) (ys:aD) (H':Hp),ah H H'→H r=none→aI ((m+1)*(bA (m+1)*P)) H' q r ys→ys.length=aa.length→CM q aa.length m aa as ys→eE q ((m+1)*(bA (m+1)*P)) ys→Q (.ref r) H'
theorem CO:B4 (.int (i:Int)) (cY L)=decide (i∈L):=by
 unfold cY
 induction L with
 | nil=>rfl
 | cons a L ih=>
  show (gc (.int (a:Int)) (.int (i:Int)) || B4 (.int (i:Int)) ((L.map fun j:Nat=>(j:Int)).map V.int))=_;rw [ih];by_cases e:i=a
  ·subst e
   rw [Cr rfl,Bool.true_or,dj gB]
  ·have h:gc (.int (a:Int)) (.int (i:Int))=false:=by show ((a:Int) == (i:Int))=false;simp;lia
   rw [h,Bool.false_or];simp [e]
theorem Ho:(cY L).all f_=true:=by unfold cY;rw [k9];intro v hv;obtain ⟨i,_,e⟩:=eZ.mp hv;rw [←e];rfl
theorem XB:(cY L).length=L.length:=by simp [cY]
def d3(m:Nat)(L:List Nat):List Nat:=(List.range m).filter fun i=>!decide (i∈L)
theorem NL:i∈d3 m L↔i<m∧i∉L:=by unfold d3;rw [qM,fe];simp
theorem NM{α:Type}(p:α→Bool):∀l:List α,(l.filter fun i=>!p i).length+(l.filter p).length=l.length
 | []=>rfl
 | a::l=>by have ih:=NM p l;rw [Bu,Bu,cS];cases p a <;> simp <;> lia
theorem XC(up:L.Pairwise (· < ·))(lt:∀l∈L,l<m):(d3 m L).length+L.length=m:=by
 have e:(List.range m).filter (fun i=>decide (i∈L))=L:=by refine G9 (List.Pairwise.filter _ Fu) up fun c=>?_;rw [qM,fe];simp;exact fun h=>lt c h
 have h:=NM (fun i=>decide (i∈L)) (List.range m);rw [e,eK] at h;unfold d3;lia
structure XD (q:Int) (n m X:Nat) (aa:aG) (L:List Nat) (eG:aG):Prop where
 len:eG.length=(d3 m L).length
 eF:∀ps∈eG,ps.length=m
 Hj:∀ps∈eG,kW q n m aa ps
 ok:∀i,i<eG.length→eE q X (eG.getD i [])
 own:∀i,i<eG.length→atT eG i ((d3 m L).getD i 0)=(1,1)
 oth:∀i j,i<eG.length→j<eG.length→i≠j→atT eG i ((d3 m L).getD j 0)=(0,1)
def XE(C N:Addr):Sp:=fun vs H Q E=>∃(z a b:Addr) (q:Int) (B P P2 m:Nat) (aa:aG) (as:aD) (G G2:Nat→Nat),vs=[.ref z,.ref a,.ref b]∧fK C H z q∧aB q∧bE B H q a aa∧aI B H q b as∧1000≤B∧B<2 ^ 2048∧1≤aa.length∧aa.length≤30∧(∀ps∈aa,ps.length=m)∧m≤30∧as.length=aa.length∧(∀i,i<aa.length→eE q (G i) ((fc aa as).getD i []))∧(∀i,1000≤G i∧G i<2 ^ 2048)∧a9 aa.length G≤P∧aa.length*(bA aa.length*P)≤10 ^ 290 ∧
 (∀i,i<m+1→eE q (G2 i) ((fL m aa as).getD i []))∧(∀i,1000≤G2 i∧G2 i<2 ^ 2048)∧a9 (m+1) G2≤P2∧(m+1)*(bA (m+1)*P2)<2 ^ 2048 ∧
 (∀(p r:Addr) (ys:aD) (H':Hp),ah H H'→H' p=some (.tup [.str (Str.ofString "barred"),.ref r])→aI ((m+1)*(bA (m+1)*P2)) H' q r ys→ys.length=aa.length→CM q aa.length m aa as ys→eE q ((m+1)*(bA (m+1)*P2)) ys→Q (.ref p) H') ∧
 (∀(p r:Addr) (xs:aD) (L:List Nat) (H':Hp),ah H H'→H' p=some (.tup [.str (Str.ofString "one"),.ref r])→aI (aa.length*(bA aa.length*P)) H' q r xs→xs.length=m→l6 q aa.length m aa as xs→eE q (aa.length*(bA aa.length*P)) xs→ix q aa.length m aa L→L.length=m→Q (.ref p) H') ∧
 (∀(p r t:Addr) (xs:aD) (L:List Nat) (eG:aG) (H':Hp),ah H H'→H' p=some (.tup [.str (Str.ofString "many"),.ref r,.ref t])→aI (aa.length*(bA aa.length*P)) H' q r xs→xs.length=m→l6 q aa.length m aa as xs→eE q (aa.length*(bA aa.length*P)) xs→ix q aa.length m aa L→L.length≠m→bE (aa.length*(bA aa.length*P)) H' q t eG→XD q aa.length m (aa.length*(bA aa.length*P)) aa L eG→Q (.ref p) H')
section
variable {q:Int} {n m:Nat} {aa:aG} {as xs:aD}
theorem NN{rs:aD}{f g:Nat→Int}{D1 D2:Int}(lp:ps.length=n)(lr:rs.length=n)(h1:∀i,i<n→aO q (ps.getD i o1) (f i,D1))(h2:∀i,i<n→aO q (rs.getD i o1) (g i,D2)):aO q (bu ps rs (0,1)) (ag n fun i=>f i*g i,D1*D2):=by
 have:=GA n ps rs f g (0,1) 0 lp lr h1 h2 ⟨0,by simp⟩
 rw [n5] at this;exact this
theorem XF(hq:aB q)(hn:aa.length=n)(hm:∀ps∈aa,ps.length=m)(la:as.length=n)(lx:xs.length=m)(rT:∃T D,cE q n m (atT aa) T D)(ba:∀p∈as,aF q p.2)(bx:∀p∈xs,aF q p.2)(h:l6 q n m aa as xs)(ht:t<n):aO q (bu (aa.getD t []) xs (0,1)) (as.getD t o1):=by
 obtain ⟨T,D,rT⟩:=rT;obtain ⟨a,F,ra⟩:=jZ ba la;obtain ⟨X,E,rX⟩:=jZ bx lx;have lt:(aa.getD t []).length=m:=by rw [getD_at (by lia)];exact hm _ (aQ _)
 have w:=NN lt lx (fun k hk=>rT.2 t k ht hk) rX.2;refine w.trans (aO.trans ?_ (ra.2 t ht).symm ra.1) (rT.1.mul rX.1);obtain ⟨c,e⟩:=h T D a F X E rT ra rX t ht;refine ⟨c,?_⟩;dsimp only;rw [←h_,←e];grind
theorem XG(hq:aB q)(hn:aa.length=n)(hm:∀ps∈aa,ps.length=m)(lx:xs.length=m)(rT:∃T D,cE q n m (atT aa) T D)(bx:∀p∈xs,aF q p.2)(h:kW q n m aa xs)(ht:t<n):aO q (bu (aa.getD t []) xs (0,1)) (0,1):=by
 obtain ⟨T,D,rT⟩:=rT;obtain ⟨X,E,rX⟩:=jZ bx lx;have lt:(aa.getD t []).length=m:=by rw [getD_at (by lia)];exact hm _ (aQ _)
 have w:=NN lt lx (fun k hk=>rT.2 t k ht hk) rX.2;refine w.trans ?_ (rT.1.mul rX.1);obtain ⟨c,e⟩:=h T D X E rT rX t ht;exact ⟨c,by dsimp only;lia⟩
end
theorem Hq{q:Int}(hq:aB q)(n:Nat)(A:aC):∀cur,∃(M:aC) (L:List Nat),dZ q n A M L cur
 | 0=>⟨A,[],dZ.start hq n A⟩
 | cur+1=>by
  obtain ⟨M,L,h⟩:=Hq hq n A cur;by_cases z:∀i,i<n→L.length≤i→Cg q (M i cur) 0;·exact ⟨M,L,h.skip z⟩
  ·obtain ⟨s,hs⟩:=Classical.not_forall.mp z
   obtain ⟨sn,hs⟩:=BG.mp hs;obtain ⟨ls,hs⟩:=BG.mp hs;have ns:¬q∣M s cur:=fun d=>hs (by obtain ⟨k,e⟩:=d;exact ⟨k,by lia⟩)
   have e1:bT M L.length s L.length=M s:=by
    unfold bT;by_cases y:L.length=s;·rw [ak y,y]
    ·rw [ao y,ak rfl]
   have h':=h.swap hq ls sn (M':=bT M L.length s) e1 (by unfold bT;rw [ak rfl]) (fun i h1 h2=>by unfold bT;rw [ao h2,ao h1])
   generalize bT M L.length s=M1 at e1 h';have np:¬q∣M1 L.length cur:=by rw [e1];exact ns
   refine ⟨fun i k=>if i=L.length then M1 i k else M1 L.length cur*M1 i k-M1 i cur*M1 L.length k,L++[cur],h'.step hq (u:=1) (by lia) (fun d=>?_) np (by funext k;rw [ak rfl]) fun i k _ ne=>?_⟩
   ·exact (aF.one (q:=q)).nz hq d
   ·rw [ao ne,mG]
    exact Cg.refl _
theorem XH(hq:aB q){r:Nat}(rk:r<k)(N:aC):∃(x:Nat→Int) (c:Nat),c<k∧¬q∣x c∧∀j,j<r→Cg q (ag k fun s=>N j s*x s) 0:=by
 obtain ⟨M,L,h⟩:=Hq hq r N k;have fl:=XC h.up h.lt;have ll:=h.len;have f0:0<(d3 k L).length:=by lia
 obtain ⟨ck,cL⟩:=NL.mp (aQ f0);generalize (d3 k L)[0]=c at ck cL;have no:=fun y=>cL ((h.G8 hq ck).mpr y);obtain ⟨x,hx⟩:=Classical.not_forall.mp no;obtain ⟨x0,hx⟩:=BG.mp hx;obtain ⟨xk,nx⟩:=BG.mp hx;exact ⟨x,c,ck,fun d=>nx (by obtain ⟨k',e⟩:=d;exact ⟨k',by lia⟩),xk⟩
def sC(L:List Nat)(x:Nat→Int)(k:Nat):Int:=ag L.length fun j=>if L.getD j 0=k then x j else 0
theorem XI(hL:∀l∈L,l<W)(B:Nat→Int)(x:Nat→Int):(ag W fun k=>B k*sC L x k)=ag L.length fun j=>B (L.getD j 0)*x j:=by
 unfold sC;rw [cm (g:=fun k=>ag L.length fun j=>B k*(if L.getD j 0=k then x j else 0)) fun k _=>a8 _ _ _,vw]
 refine cm fun j hj=>?_;have lw:L.getD j 0<W:=hL _ (by rw [getD_at hj];exact aQ _)
 rw [←kS W (L.getD j 0) (fun k=>B k*x j) lw];exact cm fun k _=>by
  by_cases y:k=L.getD j 0;·rw [ak y,ak y.symm]
  ·rw [ao y,ao (fun e=>y e.symm),bU]
theorem XJ(up:L.Pairwise (· < ·))(x:Nat→Int)(hj:j<L.length):sC L x (L.getD j 0)=x j:=by
 unfold sC;rw [←kS L.length j x hj];exact cm fun i hi=>by
  by_cases y:i=j;·rw [ak y,ak (by rw [y])]
  ·rw [ao y,ao fun e=>y (CL up hi hj e)]
theorem XM(x:Nat→Int)(hk:k∉L):sC L x k=0:=by unfold sC;rw [cm (g:=fun _=>0) fun j hj=>ao fun e=>hk (by rw [←e,getD_at hj];exact aQ _),e_]
theorem dE.col(hq:aB q){cZ:aG}{R:aC}{c:Nat→Int}{last E:Int}(h:dE q P W cZ A M c L last af)(jq:∀ps∈af,∀p∈ps,aF q p.2)(rR:cE q L.length W (atT af) R E)(ht:t<cZ.length)(hk:k<W):Cg q (ag L.length fun j=>A t (L.getD j 0)*R j k) (A t k*E):=by
 have s:=h.red.rd.sol hq (m:=W) (c:=k) (X:=sC L fun j=>R j k) (E:=E) (aH _) hk h.red.rd.lt (fun j hj=>by rw [XJ h.red.rd.up _ hj];obtain ⟨ps,p1,p2⟩:=m9 h.len h.eF hj hk;exact GW hq (h.val j k hj hk) (rR.2 j k hj hk) (jq ps p1 _ p2)) (fun k' _ nk=>by rw [XM _ nk];exact Cg.refl _) ht
 rw [XI h.red.rd.lt] at s;exact s
theorem dZ.XN(hq:aB q)(h:dZ q n A M L W)(ind:∀y:Nat→Int,(∀k,k<W→Cg q (ag n fun t=>y t*A t k) 0)→∀t,t<n→Cg q (y t) 0):L.length=n:=by
 refine gE fun ne=>?_;have ll:=h.len;obtain ⟨f,hf⟩:=m7 (n:=n) (α:=Int×(Nat→Int)) (R:=fun t p=>¬q∣p.1∧∀k,k<W→Cg q (p.1*A t k) (ag L.length fun j=>p.2 j*M j k)) fun t ht=>by obtain ⟨e,y,n1,h1,_⟩:=h.done ht;exact ⟨(e,y),n1,h1⟩
 obtain ⟨x,c,cn,nx,hx⟩:=XH hq (show L.length<n by lia) fun j t=>(f t).2 j
 have z:=ind (fun t=>x t*(f t).1) (fun k hk=>by
  have e1:Cg q (ag n fun t=>x t*(f t).1*A t k) (ag n fun t=>x t*ag L.length fun j=>(f t).2 j*M j k):=cU fun t ht=>(Cg.of_eq (by grind)).trans (((hf t ht).2 k hk).mulL (x t))
  refine e1.trans ?_;have e2:(ag n fun t=>x t*ag L.length fun j=>(f t).2 j*M j k)=ag L.length fun j=>M j k*ag n fun t=>(f t).2 j*x t:=by rw [cm (g:=fun t=>ag L.length fun j=>x t*((f t).2 j*M j k)) fun t _=>a8 _ _ _,vw];refine cm fun j _=>?_;rw [a8];exact cm fun t _=>by grind
  rw [e2];have:=cU (q:=q) (n:=L.length) (f:=fun j=>M j k*ag n fun t=>(f t).2 j*x t) (g:=fun _=>0) fun j hj=>by have z:=(hx j hj).mulL (M j k);rw [bU] at z;exact z
  rw [e_] at this;exact this) c cn
 exact lV hq nx (hf c cn).1 (G6 z)
section
variable {q:Int} {n m:Nat} {aa:aG} {L D:List Nat}
theorem NO(ht:t<m)(hk:k<aa.length):atT (eW m aa) t k=atT aa k t:=by
 unfold atT;rw [Ny ht,getD_at (by simpa using hk),jz,getD_at hk]
 rfl
variable {P P2:Nat} {af ahS:aG} {A M A2 M2:aC} {c c2:Nat→Int} {last ahT:Int}
end
section
variable {q:Int} {m:Nat} {aa af i5:aG} {L D:List Nat}
end
def XO(q:Int)(n W:Nat)(M:aC):Prop:=∀y:Nat→Int,(∀k,k<W→Cg q (ag n fun t=>y t*M t k) 0)→∀t,t<n→Cg q (y t) 0
structure iN (q:Int) (n W B:Nat) (A M:aC) (c j:Nat) (f:Nat→Nat):Prop where
 cn:c≤n
 Hr:∀x:Nat→Int,(∀i,i<n→Cg q (ag W fun k=>A i k*x k) 0)→∀i,i<n→Cg q (ag W fun k=>M i k*x k) 0
 zW:∀x:Nat→Int,(∀i,i<n→Cg q (ag W fun k=>M i k*x k) 0)→∀i,i<n→Cg q (ag W fun k=>A i k*x k) 0
 fj:∀i,i<c→f i<j
 oS:∀i,i<c→¬q∣M i (f i)
 Hs:∀i t,i<c→i<t→t<n→Cg q (M t (f i)) 0
 low:∀i k,c≤i→i<n→k<j→Cg q (M i k) 0
 rem:q≠0→∀i k,i<n→k<W→0≤M i k∧M i k<q
 bd:q=0→∀i k,i<n→k<W→2*(M i k).natAbs≤B ^ (2 ^ c)
theorem iN.start(hr:q≠0→∀i k,i<n→k<W→0≤A i k∧A i k<q)(hb:q=0→∀i k,i<n→k<W→2*(A i k).natAbs≤B):iN q n W B A A 0 0 (fun _=>0):=
 ⟨eJ _,fun _ h=>h,fun _ h=>h,fun i h=>absurd h (nV _),fun i h=>absurd h (nV _),fun i _ h=>absurd h (nV _),fun _ k _ _ h=>absurd h (nV _),hr,fun z i k hi hk=>by rw [show (2:Nat) ^ 0=1 from rfl,Nat.pow_one];exact hb z i k hi hk⟩
variable {f:Nat→Nat}
theorem iN.skip(h:iN q n W B A M c j f)(z:∀i,c≤i→i<n→M i j=0):iN q n W B A M c (j+1) f:=
 ⟨h.cn,h.Hr,h.zW,fun i hi=>yR (h.fj i hi),h.oS,h.Hs,fun i k h1 h2 h3=>by
  by_cases y:k=j;·rw [y,z i h1 h2];exact Cg.refl _
  ·exact h.low i k h1 h2 (by lia),h.rem,h.bd⟩
theorem iN.next(hq:aB q)(b1:1≤B){s:Nat}(h:iN q n W B A M c j f)(jn:j<W)(hs:c≤s)(sn:s<n)(ns:M s j≠0) :
  iN q n W B A (iw q (bT M c s) c j (n-(c+1))) (c+1) (j+1) (fun i=>if i=c then j else f i)∧(∀i k,i<n→k<W→(q≠0→0≤bT M c s i k∧bT M c s i k<q)∧(q=0→2*(bT M c s i k).natAbs≤B ^ (2 ^ c))):=by
 have e1:bT M c s c=M s:=by
  unfold bT;by_cases z:c=s;·rw [ak z,z]
  ·rw [ao z,ak rfl]
 have up:∀i,i<n→∃i',i'<n∧bT M c s i=M i'∧(i<c→i'=i)∧(c≤i→c≤i'):=fun i hi=>by
  unfold bT;by_cases z1:i=s;·rw [ak z1];exact ⟨c,by lia,rfl,fun _=>by lia,fun _=>aH _⟩
  ·rw [ao z1]
   by_cases z2:i=c;·rw [ak z2];exact ⟨s,sn,rfl,fun _=>by lia,fun _=>hs⟩
   ·rw [ao z2];exact ⟨i,hi,rfl,fun _=>rfl,fun z=>z⟩
 have dn:∀i,i<n→∃i',i'<n∧bT M c s i'=M i:=fun i hi=>by
  by_cases z1:i=s;·exact ⟨c,by lia,by rw [e1,z1]⟩
  ·by_cases z2:i=c
   ·exact ⟨s,sn,by unfold bT;rw [ak rfl,z2]⟩
   ·exact ⟨i,hi,by unfold bT;rw [ao z1,ao z2]⟩
 have CP:∀x:Nat→Int,(∀i,i<n→Cg q (ag W fun k=>A i k*x k) 0)→∀i,i<n→Cg q (ag W fun k=>bT M c s i k*x k) 0:=fun x hx i hi=>by obtain ⟨i',h1,h2,_⟩:=up i hi;rw [h2];exact h.Hr x hx i' h1
 have NP:∀x:Nat→Int,(∀i,i<n→Cg q (ag W fun k=>bT M c s i k*x k) 0)→∀i,i<n→Cg q (ag W fun k=>A i k*x k) 0:=fun x hx=>h.zW x fun i hi=>by obtain ⟨i',h1,h2⟩:=dn i hi;have:=hx i' h1;rw [h2] at this;exact this
 have Ht:q≠0→∀i k,i<n→k<W→0≤bT M c s i k∧bT M c s i k<q:=fun z i k hi hk=>by obtain ⟨i',h1,h2,_⟩:=up i hi;rw [h2];exact h.rem z i' k h1 hk
 have sD:q=0→∀i k,i<n→k<W→2*(bT M c s i k).natAbs≤B ^ (2 ^ c):=fun z i k hi hk=>by obtain ⟨i',h1,h2,_⟩:=up i hi;rw [h2];exact h.bd z i' k h1 hk
 have Hu:∀i k,c≤i→i<n→k<j→Cg q (bT M c s i k) 0:=fun i k hc hi hk=>by obtain ⟨i',h1,h2,_,h4⟩:=up i hi;rw [h2];exact h.low i' k (h4 hc) h1 hk
 have CQ:∀i t,i<c→i<t→t<n→Cg q (bT M c s t (f i)) 0:=fun i t h1 h2 h3=>by
  obtain ⟨t',k1,k2,k3,k4⟩:=up t h3;rw [k2];refine h.Hs i t' h1 ?_ k1;by_cases z:t<c;·rw [k3 z];exact h2
  ·have:=k4 (by lia);lia
 have NQ:∀i,i<c→i<n→bT M c s i=M i:=fun i hi hn=>by obtain ⟨i',h1,h2,h3,_⟩:=up i hn;rw [h2,h3 hi]
 have np:¬q∣bT M c s c j:=by rw [e1];exact Nb hq (fun z=>h.rem z s j sn jn) ns
 refine ⟨?_,fun i k hi hk=>⟨fun z=>Ht z i k hi hk,fun z=>sD z i k hi hk⟩⟩;generalize bT M c s=M1 at CP NP Ht sD Hu CQ NQ np;have oZ:c<n:=by lia
 have new:∀i,c<i→i<n→iw q M1 c j (n-(c+1)) i=fun k=>if q=0 then M1 i k*M1 c j-M1 c k*M1 i j else (M1 i k*M1 c j-M1 c k*M1 i j) % q:=fun i h1 h2=>by unfold iw;rw [ak ⟨h1,by lia⟩]
 have same:∀i,i≤c→iw q M1 c j (n-(c+1)) i=M1 i:=fun i h1=>by unfold iw;rw [ao (fun z=>by lia)]
 have CS:∀i k,c<i→i<n→Cg q (iw q M1 c j (n-(c+1)) i k) (M1 i k*M1 c j-M1 c k*M1 i j):=fun i k h1 h2=>by
  rw [new i h1 h2];dsimp only;by_cases z:q=0;·rw [ak z];exact Cg.refl _
  ·rw [ao z];exact zL q _
 have NR:∀x:Nat→Int,∀i,c<i→i<n→Cg q (ag W fun k=>iw q M1 c j (n-(c+1)) i k*x k) (M1 c j*(ag W fun k=>M1 i k*x k)-M1 i j*ag W fun k=>M1 c k*x k):=fun x i h1 h2=>by
  have s1:Cg q (ag W fun k=>iw q M1 c j (n-(c+1)) i k*x k) (ag W fun k=>M1 c j*(M1 i k*x k)-M1 i j*(M1 c k*x k)):=cU fun k _=>((CS i k h1 h2).mulR (x k)).trans (Cg.of_eq (by grind))
  refine s1.trans ?_;rw [GU,←a8,←a8];exact Cg.refl _
 refine ⟨by lia,fun x hx i hi=>?_,fun x hx=>NP x fun i hi=>?_,fun i hi=>?_,fun i hi=>?_,fun i t hi it tn=>?_,fun i k h1 h2 h3=>?_,fun z i k hi hk=>?_,fun z i k hi hk=>?_⟩
 ·by_cases y:i≤c
  ·rw [same i y]
   exact CP x hx i hi
  ·refine (NR x i (by lia) hi).trans ?_
   have a:=(CP x hx i hi).mulL (M1 c j);have b:=(CP x hx c oZ).mulL (M1 i j);exact (a.sub b).trans (Cg.of_eq (by simp))
 ·have c0:Cg q (ag W fun k=>M1 c k*x k) 0:=by have:=hx c oZ;rw [same c (aH _)] at this;exact this
  by_cases y:i≤c
  ·have:=hx i hi
   rw [same i y] at this;exact this
  ·refine fi hq np ?_
   have a:=(NR x i (by lia) hi).symm.trans (hx i hi)
   have b:=c0.mulL (M1 i j);have d:=a.add b;exact (Cg.of_eq (by lia)).trans (d.trans (Cg.of_eq (by simp)))
 ·skip
  by_cases y:i=c;·rw [ak y];lia
  ·rw [ao y];exact yR (h.fj i (by lia))
 ·skip
  rw [same i (by lia)]
  by_cases y:i=c;·rw [ak y,y];exact np
  ·rw [ao y,NQ i (by lia) (by lia)]
   exact h.oS i (by lia)
 ·skip
  by_cases y:i=c
  ·rw [ak y]
   exact (CS t j (by lia) tn).trans (Cg.of_eq (by grind))
  ·rw [ao y]
   by_cases w:t≤c
   ·rw [same t w]
    exact CQ i t (by lia) it tn
   ·refine (CS t (f i) (by lia) tn).trans ?_
    have a:=(CQ i t (by lia) it tn).mulR (M1 c j)
    have b:=(CQ i c (by lia) (by lia) oZ).mulR (M1 t j)
    exact (a.sub b).trans (Cg.of_eq (by simp))
 ·refine (CS i k (by lia) h2).trans ?_
  by_cases w:k=j
  ·rw [w]
   exact Cg.of_eq (by grind)
  ·have a:=(Hu i k (by lia) h2 (by lia)).mulR (M1 c j)
   have b:=(Hu c k (aH _) oZ (by lia)).mulR (M1 i j)
   exact (a.sub b).trans (Cg.of_eq (by simp))
 ·by_cases y:i≤c
  ·rw [same i y]
   exact Ht z i k hi hk
  ·rw [new i (by lia) hi]
   dsimp only;rw [ao z];have q2:0<q:=by rcases hq with h | h <;> lia
   exact ⟨d4 _ z,d8 _ q2⟩
 ·have pw:B ^ (2 ^ (c+1))=B ^ (2 ^ c)*B ^ (2 ^ c):=by rw [n6,Nat.mul_two,Nat.pow_add]
  have p1:1≤B ^ (2 ^ c):=pL b1;by_cases y:i≤c
  ·rw [same i y,pw]
   exact aq (sD z i k hi hk) (ia _ p1)
  ·rw [new i (by lia) hi,pw]
   dsimp only;rw [ak z];have a1:=sD z i k hi hk;have a2:=sD z c j oZ jn;have a3:=sD z c k oZ hk;have a4:=sD z i j hi jn;generalize B ^ (2 ^ c)=X at a1 a2 a3 a4 p1 ⊢;have t:(M1 i k*M1 c j-M1 c k*M1 i j).natAbs≤(M1 i k).natAbs*(M1 c j).natAbs+(M1 c k).natAbs*(M1 i j).natAbs:=by refine aq (Int.natAbs_sub_le ..) ?_;rw [bz,bz];exact aH _
   have m1:=aZ a1 a2;have m2:=aZ a3 a4;have e1:2*(M1 i k).natAbs*(2*(M1 c j).natAbs)=4*((M1 i k).natAbs*(M1 c j).natAbs):=by grind
   have e2:2*(M1 c k).natAbs*(2*(M1 i j).natAbs)=4*((M1 c k).natAbs*(M1 i j).natAbs):=by grind
   lia
theorem iN.ind(hq:aB q)(h:iN q n W B A M c W f):XO q c W M:=fun y hy=>by
 have cn:=h.cn;have main:∀m t,t<c→t<m→Cg q (y t) 0:=fun m=>by
  induction m with
  | zero=>intro t _ ht;lia
  | succ m ih=>
   intro t tc tm;refine fi hq (h.oS t tc) ?_;have z:=hy (f t) (h.fj t tc);have s:Cg q (ag c fun s=>y s*M s (f t)) (ag c fun s=>if s=t then y s*M s (f t) else 0):=cU fun s hs=>by
    by_cases w:s=t;·rw [ak w];exact Cg.refl _
    ·rw [ao w]
     by_cases v:s<t
     ·have:=(ih s hs (by lia)).mulR (M s (f t))
      rw [gX] at this;exact this
     ·have:=(h.Hs t s tc (by lia) (by lia)).mulL (y s)
      rw [bU] at this;exact this
   rw [kS c t (fun s=>y s*M s (f t)) tc] at s;exact (Cg.of_eq (d5 ..)).trans (s.symm.trans z)
 exact fun t ht=>main (t+1) t ht (by lia)
theorem NS(hq:aB q){T:aC}{b:Nat→Int}(hn:aa.length=n)(hm:∀ps∈aa,ps.length=m)(hb:∀ps∈aa,∀p∈ps,aF q p.2)(hc:∀i,i<n→aF q (b i))(row:∀i k,i<n→k<m→A i k*(atT aa i k).2=(atT aa i k).1*b i)(r:cE q n m (atT aa) T D)(x:Nat→Int)(hi:i<n):Cg q (ag m fun k=>A i k*x k) 0↔Cg q (ag m fun k=>T i k*x k) 0:=by
 have s1:Cg q (D*ag m fun k=>A i k*x k) (b i*ag m fun k=>T i k*x k):=by rw [a8,a8];refine cU fun k hk=>?_;obtain ⟨ps,h1,h2⟩:=m9 hn hm hi hk;have:=(vB hq (row i k hi hk) (r.2 i k hi hk) (hb ps h1 _ h2)).symm.mulR (x k);exact (Cg.of_eq (by grind)).trans (this.trans (Cg.of_eq (by grind)))
 constructor
 ·intro h
  have:=h.mulL D;rw [bU] at this;exact fi hq ((hc i hi).nz hq) (s1.symm.trans this)
 ·intro h
  have:=h.mulL (b i);rw [bU] at this;exact fi hq (r.1.nz hq) (s1.trans this)
theorem iN.lead(hq:aB q)(h:iN q n W B A M c W f){b:Nat→Int}(hn:aa.length=n)(hm:∀ps∈aa,ps.length=W)(hb:∀ps∈aa,∀p∈ps,aF q p.2)(hc:∀i,i<n→aF q (b i))(row:∀i k,i<n→k<W→A i k*(atT aa i k).2=(atT aa i k).1*b i):∃L,ix q n W aa L∧L.length=c:=by
 obtain ⟨M2,L,h2⟩:=Hq hq c M W
 have cn:=h.cn
 refine ⟨L,⟨h2.up,h2.lt,fun T D r c0 XQ=>(h2.G8 hq XQ).trans ?_⟩,h2.XN hq (h.ind hq)⟩
 have conv:∀x:Nat→Int,(∀t,t<c→Cg q (ag W fun k=>M t k*x k) 0)↔(∀t,t<n→Cg q (ag W fun k=>T t k*x k) 0):=fun x=>by
  constructor
  ·intro g t ht
   refine (NS hq hn hm hb hc row r x ht).mp (h.zW x (fun i hi=>?_) t ht)
   by_cases y:i<c
   ·exact g i y
   ·have:=cU (q:=q) (n:=W) (f:=fun k=>M i k*x k) (g:=fun _=>0) fun k hk=>by
     have:=(h.low i k (by lia) hi hk).mulR (x k)
     rw [gX] at this
     exact this
    rw [e_] at this
    exact this
  ·intro g t ht
   exact h.Hr x (fun i hi=>(NS hq hn hm hb hc row r x hi).mpr (g i hi)) t (by lia)
 exact ⟨fun g x x0 hx=>g x x0 ((conv x).mpr hx),fun g x x0 hx=>g x x0 ((conv x).mp hx)⟩
def XR:Sp:=fun vs H Q _=>∃(q:Int) (a:Addr) (B m:Nat) (aa:aG),vs=[.int q,.ref a,.int (m:Int)]∧aB q∧bE B H q a aa∧aa.length≤40∧(∀ps∈aa,ps.length=m)∧m≤40∧1000≤B∧(q=0→(2*B ^ (m+1)) ^ (2 ^ (aa.length-2))<2 ^ 8192)∧∀(L:List Nat) (H':Hp),ah H H'→ix q aa.length m aa L→Q (.int (L.length:Int)) H'
def NT:Sp:=fun vs H Q _=>∃(q:Int) (a b:Addr) (B C:Nat) (ps rs:aD),vs=[.int q,.ref a,.ref b]∧aB q∧aI B H q a ps∧aI C H q b rs∧1≤B∧1≤C∧ps.length≤40∧rs.length≤40∧(q=0→40*(B*C) ^ ps.length<2 ^ 8192)∧∀(v:V) (H':Hp),ah H H'→cJ H' q v (bu ps rs (0,1)).1 (bu ps rs (0,1)).2→Q v H'
theorem a7.imp{P:Program}{w:World}{K:aJ}{mg:dU}{base:Heap}{CX:jd}{f:Addr}{fd:FuncData}{ps:List Str}{sp NU:Sp}(F:a7 P w K mg base CX k f fd ps sp)(h:∀vs H Q E,NU vs H Q E→sp vs H Q E):a7 P w K mg base CX k f fd ps NU:=
 ⟨fun vs H Q E q=>F.len vs H Q E (h vs H Q E q),fun A outer s H args us vs Q E hr he hb hv hs=>F.run A outer s H args us vs Q E hr he hb hv (h vs H Q E hs)⟩
theorem NV(hq:aB q){d:Int}(hd:d=0∨d=1){c:TT}{ta tb:TE}{Hd:Hp}(hc:∀Q':Bool→Hp→Prop,Q' (q != 0) Hd→c σ Hd Q')(ha:∀Q':VK,Q' (.int d) Hd→ta σ Hd Q')(hb:∀Q':VK,(∀r,Hd r=none→Q' (.ref r) (upd Hd r (.tup [.int d,.int 1])))→tb σ Hd Q')(k:∀u He,ah Hd He→cJ He q u d 1→Q u He):FC c ta tb σ Hd Q:=by
 refine hc _ ?_;by_cases hp:q=0
 ·subst hp
  exact cP (hb _ fun r nr=>k _ _ (aS nr) (.bH aA ⟨by decide,pH ..⟩ (by decide) rfl))
 ·rw [show (q != 0)=true by simpa using hp]
  exact fg (ha _ (k _ _ (ah.refl _) (WZ hq hp hd)))
theorem NW{K1:aJ}{C:Nat}{x:Addr}{xs:aD}{E:XK}(e:σ[i]?=some (some (.ref a)))(hq:aB q)(h:bE B H q a aa)(hx:aI C H q x xs)(hm:∀ps∈aa,ps.length=m)(dF:aa.length≤40)(o4:m≤40)(NX:xs.length≤40)(b1:1≤B)(c1:1≤C)(fit:q=0→40*(B*C) ^ m<2 ^ 8192)
  (XS:∀(r:Addr) (Hc:Hp) (R:VK),ah H Hc→NT [.int q,.ref r,.ref x] Hc R E→te (some (.ref r)::ρ σ) Hc R) (k:∀D H',H D=none→ah H H'→p_ H' q D (aa.map fun ps=>bu ps xs (0,1))→Q (.ref D) H'):jM (BQ K1 (pM i)) ρ (fun _ H Q=>Q true H) te σ H Q:=by
 obtain ⟨us,eb,lu,fu⟩:=id h;refine iu (xs:=us) (fun R h=>⟨_,e,a,rfl,⟨_,.of eb⟩,h _ _ (ah.refl _) (iI (.of eb))⟩) (by rw [lu];exact dO (by lia)) (fun D l y Hx=>cJ Hx q y (bu (aa.getD l []) xs (0,1)).1 (bu (aa.getD l []) xs (0,1)).2) (fun D l y Ha Hb ys h e f=>h.bC e f) ?_ ?_
 ·intro D l v hl Hf R sf _ kf
  have l1:l<us.length:=(aP.mp hl).1;have l2:l<aa.length:=by lia
  obtain ⟨ry,rfl,hr⟩:=fu l v aa[l] hl (by simp [l2])
  have lp:=hm _ (aQ l2);refine XS ry Hf R sf ⟨q,ry,x,B,C,aa[l],xs,rfl,hq,hr.mono sf,hx.mono sf,b1,c1,by lia,NX,fun z=>by rw [lp];exact fit z,fun v H' s' hN=>kf v H' s' ?_⟩
  rw [getD_at l2];exact hN
 ·intro D ys Hf nD sf dY hP eD
  refine k D Hf nD sf ⟨ys,eD,by rw [dY,lu,bL],fun l v p h1 h2=>?_⟩
  have l2:l<aa.length:=by have:=(aP.mp h2).1;rw [bL] at this;exact this
  have z:=hP l v h1;rw [cF] at h2;simp [l2] at h2;rw [getD_at l2] at z;rw [←h2];exact z
theorem XT{t:TE}{Q:Bool→Hp→Prop}(h:t σ H fun x H'=>∃k,x=.bl k∧Q k H'):u_ t σ H Q:=h
theorem p_.mono{H':Hp}{tb:aD}(h:p_ H q a tb)(s:ah H H'):p_ H' q a tb:=by obtain ⟨vs,e,l,f⟩:=h;exact ⟨vs,s _ _ e,l,fun i v p h1 h2=>(f i v p h1 h2).mono s⟩
theorem CT:∀(n:Nat) (f g:Nat→Nat),a9 n (fun i=>f i*g i)=a9 n f*a9 n g
 | 0,_,_=>rfl
 | n+1,f,g=>by show a9 n (fun i=>f i*g i)*(f n*g n)=a9 n f*f n*(a9 n g*g n);rw [CT n f g];grind
theorem XU:∀(n:Nat) (g:Nat→Nat),(∀i,i<n→1≤g i)→1≤a9 n g∧∀i,i<n→g i≤a9 n g
 | 0,_,_=>⟨aH 1,fun i h=>absurd h (nV _)⟩
 | n+1,g,h=>by
  obtain ⟨h1,h2⟩:=XU n g fun i hi=>h i (by lia)
  have h3:=h n (by lia)
  refine ⟨n8 h1 h3,fun i hi=>?_⟩;show g i≤a9 n g*g n;by_cases e:i=n;·rw [e];exact fO _ h1
  ·exact aq (h2 i (by lia)) (ia _ h3)
theorem NY:∀{n:Nat} {f g:Nat→Nat},(∀i,i<n→f i≤g i)→a9 n f≤a9 n g
 | 0,_,_,_=>aH _
 | n+1,f,g,h=>aZ (NY fun i hi=>h i (by lia)) (h n (by lia))
theorem NZ{V:Nat}{Dl:Nat→Nat}{p:Nat→Int×Int}:∀n,(∀i,i<n→∃D x:Int,1≤D∧D.natAbs≤Dl i∧(p i).1*D=x*(p i).2∧x.natAbs≤V*D.natAbs)→∃D:Int,1≤D∧D.natAbs≤a9 n Dl∧∀i,i<n→∃x:Int,(p i).1*D=x*(p i).2∧x.natAbs≤V*D.natAbs
 | 0,_=>⟨1,by decide,aH 1,fun i h=>absurd h (nV _)⟩
 | n+1,h=>by
  obtain ⟨D,d1,d2,hx⟩:=NZ n fun i hi=>h i (by lia)
  obtain ⟨D',x',e1,e2,e3,e4⟩:=h n (by lia)
  have pd:=d6 (show 0<D by lia) (show 0<D' by lia)
  refine ⟨D*D',by lia,?_,fun i hi=>?_⟩
  ·rw [bz]
   exact aZ d2 e2
  ·by_cases e:i=n
   ·subst e
    refine ⟨x'*D,by grind,?_⟩
    rw [bz,bz];exact aq (d9 _ e4) (ki (by grind))
   ·obtain ⟨x,x1,x2⟩:=hx i (by lia)
    refine ⟨x*D',by grind,?_⟩
    rw [bz,bz];exact aq (d9 _ x2) (ki (by grind))
theorem XW(hn:aa.length=n)(la:as.length=n)(hi:i<n):(fc aa as).getD i []=aa.getD i []++[as.getD i o1]:=by
 unfold fc;rw [qk (by rw [nC];lia) (by lia)]
 have g:(iy as).getD i []=[as.getD i o1]:=by unfold iy;rw [getD_at (by simpa using (by lia:i<as.length)),jz,getD_at (by lia)]
 rw [g]
variable {N:Nat}
theorem XX(dF:N≤40)(gL:∀R:It→Hp→Prop,(∀J H1,ah H H1→mX J ((List.range N).map fun i:Nat=>V.int (0+(i:Int))) H1→R J H1)→wi σ H R)
  (step:∀i,i<N→∀(Hc:Hp) (R:VK),ah H Hc→(∀(v:V) (x m:Int) (H':Hp),ah Hc H'→bZ (10 ^ 6) H' q v x m→m.natAbs≤1000→R v H')→te (some (.int (i:Int))::ρ σ) Hc R)
  (fin:∀(D:Addr) (H':Hp) (ps:aD),H D=none→ah H H'→aI (10 ^ 6) H' q D ps→ps.length=N→vC ps→Q (.ref D) H'):jM wi ρ (fun _ H Q=>Q true H) te σ H Q:=by
 refine iu gL (by rw [bL,eK];exact dO (by lia)) (fun D j y Hx=>∃p:Int×Int,bZ (10 ^ 6) Hx q y p.1 p.2∧p.2.natAbs≤1000) (fun D j y Ha Hb ys ⟨p,h1,h2⟩ e f=>⟨p,h1.bC e f,h2⟩) ?_ ?_
 ·intro D j v hj Hd R sd _ kd
  obtain ⟨di,rfl⟩:=oP hj;exact step j di Hd R sd fun v x m H' s' h1 h2=>kd v H' s' ⟨(x,m),h1,h2⟩
 ·intro D ys Hd nD sd dY hP eD
  obtain ⟨ps,Hv,CU⟩:=pick (R:=fun(_:Nat) (y:V) (p:Int×Int)=>bZ (10 ^ 6) Hd q y p.1 p.2∧p.2.natAbs≤1000) hP;have l:ps.length=N:=by rw [Hv,dY,bL,eK]
  refine fin D Hd ps nD sd ⟨ys,eD,by lia,fun i v p h1 h2=>(CU i v p h1 h2).1⟩ l fun p hp=>?_
  obtain ⟨i,hi,e⟩:=gh.mp hp;have a_:i<ys.length:=by lia
  obtain ⟨h1,h2⟩:=CU i ys[i] p (by simp [a_]) (by rw [←e];simp [hi])
  exact ⟨(h1.both (by decide)).1,h2⟩
theorem N2{t b:Int}(hq:aB q)(h:cJ H q v t b)(ok:aF q b)(c:Canon q p)(w:aO q p (t,b))(b1:p.1.natAbs≤B)(b2:p.2.natAbs≤B):bZ B H q v p.1 p.2:=by
 cases h with
 | bH e l hb h=>
  rename_i r u d
  have e1:p=(u,d):=Cz hq c ⟨fun _=>l,fun y=>absurd rfl y⟩ (w.trans (aO.symm (p:=(u,d)) ⟨0,by dsimp only;lia⟩) ok)
  subst e1;exact .bH e l b1 b2
 | rem q2 h0 h1 g h=>
  rename_i r
  have q3:q≤997:=by rcases hq with h | h <;> lia
  have e1:p=(r,1):=Cz hq c ⟨fun y=>by lia,fun _=>⟨rfl,h0,h1⟩⟩ (w.trans (aO.symm (p:=(r,1)) (by unfold aO;dsimp only;rw [iB];exact h)) ok)
  subst e1;exact .rem h0 h1 q3
theorem CV(hq:aB q):Canon q o1:=⟨fun _=>⟨by decide,by decide⟩,fun z=>⟨rfl,by decide,by rcases hq with h | h;exact absurd h z;show (0:Int)<q;lia⟩⟩
theorem jr(hq:aB q)(h:∀p∈ps,Canon q p)(k:Nat):Canon q (ps.getD k o1):=by
 by_cases hk:k<ps.length;·rw [getD_at hk];exact h _ (aQ _)
 ·rw [oR (by lia)];exact CV hq
def dG(q:Int)(n m k u:Nat)(aa af:aG):List (List (Int×Int)):=
 (List.range (n*k)).map fun a=>(List.range (m*u)).map fun b=>mulQ q (atT aa (a / k) (b / u)) (atT af (a % k) (b % u))
theorem CW{α:Type}{F:Nat→α}{d:α}(hi:i<N):((List.range N).map F).getD i d=F i:=by rw [getD_at (by simpa using hi),jz,yU]
section
variable {q:Int} {n m k u:Nat} {aa af:aG}
theorem CY:(dG q n m k u aa af).length=n*k:=by simp [dG]
theorem N3{a:Nat}(ha:a<n*k):(dG q n m k u aa af).getD a []=(List.range (m*u)).map fun b=>mulQ q (atT aa (a / k) (b / u)) (atT af (a % k) (b % u)):=by unfold dG;rw [CW ha]
theorem CZ:∀ps∈dG q n m k u aa af,ps.length=m*u:=fun ps hp=>by unfold dG at hp;obtain ⟨a,_,rfl⟩:=eZ.mp hp;simp
theorem C0{a b:Nat}(ha:a<n*k)(hb:b<m*u):atT (dG q n m k u aa af) a b=mulQ q (atT aa (a / k) (b / u)) (atT af (a % k) (b % u)):=by unfold atT;rw [N3 ha,CW hb];rfl
def fk(q:Int)(aa:aG):Prop:=∀ps∈aa,∀p∈ps,Canon q p
theorem fk.at'(hq:aB q)(h:fk q aa)(i j:Nat):Canon q (atT aa i j):=by
 unfold atT;by_cases hi:i<aa.length
 ·rw [getD_at hi]
  exact jr hq (h _ (aQ hi)) j
 ·rw [oR (xs:=aa) (by lia)]
  exact CV hq
theorem zY(hq:aB q)(h1:fk q aa)(h2:fk q af):fk q (dG q n m k u aa af):=fun ps hp p j8=>by unfold dG at hp;obtain ⟨a,_,rfl⟩:=eZ.mp hp;obtain ⟨b,_,rfl⟩:=eZ.mp j8;exact (qe hq (h1.at' hq _ _) (h2.at' hq _ _)).1
variable {T:aC}
theorem Hw{S:aC}{E:Int}(hq:aB q)(c1:fk q aa)(c2:fk q af)(h1:cE q n m (atT aa) T D)(h2:cE q k u (atT af) S E):cE q (n*k) (m*u) (atT (dG q n m k u aa af)) (fun a b=>T (a / k) (b / u)*S (a % k) (b % u)) (D*E):=by refine ⟨h1.1.mul h2.1,fun a b ha hb=>?_⟩;rw [C0 ha hb];have x:=c1.at' hq (a / k) (b / u);have y:=c2.at' hq (a % k) (b % u);exact ((qe hq x y).2).trans (Na (h1.2 _ _ (iJ ha) (iJ hb)) (h2.2 _ _ (gN ha) (gN hb))) (x.bot.mul y.bot)
variable {T':aC} {D':Int}
theorem N4{f:Nat→Nat→Int×Int}(hb:∀i j,aF q (f i j).2)(h:cE q n m f T D)(h':cE q n m f T' D')(hi:i<n)(hj:j<m):Cg q (T' i j*D) (T i j*D'):=by obtain ⟨x,e⟩:=(h'.2 i j hi hj).symm.trans (h.2 i j hi hj) (hb i j);exact ⟨x,e⟩
theorem Hy{f:Nat→Nat→Int×Int}(hq:aB q)(hb:∀i j,aF q (f i j).2)(h:cE q n m f T D)(h':cE q n m f T' D'){x:Nat→Int}(hi:i<n)(k0:Cg q (ag m fun j=>T i j*x j) 0):Cg q (ag m fun j=>T' i j*x j) 0:=by
 refine fi hq (h.1.nz hq) ?_;have s:Cg q (D*ag m fun j=>T' i j*x j) (D'*ag m fun j=>T i j*x j):=by rw [a8,a8];refine cU fun j hj=>?_;have z:=(N4 hb h h' hi hj).mulR (x j);exact (Cg.of_eq (by grind)).trans (z.trans (Cg.of_eq (by grind)))
 have z:=k0.mulL D';rw [bU] at z;exact s.trans z
end
def l_(L L':List Nat)(u:Nat):List Nat:=(List.range (L.length*L'.length)).map fun a=>L.getD (a / L'.length) 0*u+L'.getD (a % L'.length) 0
section
variable {L L':List Nat} {m u:Nat}
theorem zZ:(l_ L L' u).length=L.length*L'.length:=by simp [l_]
theorem vG{a:Nat}(ha:a<L.length*L'.length):(l_ L L' u).getD a 0=L.getD (a / L'.length) 0*u+L'.getD (a % L'.length) 0:=by unfold l_;rw [CW ha]
theorem getD_mem(h:i<L.length):L.getD i 0∈L:=by rw [getD_at h];exact aQ _
theorem XY{a:Nat}(h2:∀l∈L',l<u)(ha:a<L.length*L'.length):(l_ L L' u).getD a 0 / u=L.getD (a / L'.length) 0:=by rw [vG ha];exact lY (h2 _ (getD_mem (gN ha)))
theorem XZ{a:Nat}(h2:∀l∈L',l<u)(ha:a<L.length*L'.length):(l_ L L' u).getD a 0 % u=L'.getD (a % L'.length) 0:=by rw [vG ha];exact m4 (h2 _ (getD_mem (gN ha)))
theorem X3(h1:∀l∈L,l<m)(h2:∀l∈L',l<u):∀c∈l_ L L' u,c<m*u:=fun c hc=>by obtain ⟨a,ha,rfl⟩:=yW hc;rw [zZ] at ha;rw [←getD_at (d:=0),vG ha];have x:=h1 _ (getD_mem (iJ ha));have y:=h2 _ (getD_mem (gN ha));have:(L.getD (a / L'.length) 0+1)*u≤m*u:=d9 _ x;rw [gT] at this;lia
theorem X4(h1:L.Pairwise (· < ·))(h2:L'.Pairwise (· < ·))(l2:∀l∈L',l<u):(l_ L L' u).Pairwise (· < ·):=by
 refine Fs.mpr fun a b ha hb G5=>?_;rw [zZ] at ha hb;rw [←getD_at (d:=0),←getD_at (d:=0),vG ha,vG hb];have y:=l2 _ (getD_mem (gN ha));have y':=l2 _ (getD_mem (gN hb));by_cases e:a / L'.length=b / L'.length
 ·have lt:a % L'.length<b % L'.length:=by have d1:=n9 a L'.length;have d2:=n9 b L'.length;rw [e] at d1;lia
  have:=sq h2 lt (gN hb);rw [e];lia
 ·have lt:a / L'.length<b / L'.length:=by have:=Nat.div_le_div_right (c:=L'.length) (yA G5);lia
  have:=sq h1 lt (iJ hb);have:(L.getD (a / L'.length) 0+1)*u≤L.getD (b / L'.length) 0*u:=d9 _ this;rw [gT] at this;lia
theorem X5(h2:∀l∈L',l<u):c∈l_ L L' u↔c / u∈L∧c % u∈L':=by
 refine ⟨fun hc=>?_,fun⟨h,h'⟩=>?_⟩
 ·obtain ⟨a,ha,rfl⟩:=yW hc
  rw [zZ] at ha;rw [←getD_at (d:=0),XY h2 ha,XZ h2 ha];exact ⟨getD_mem (iJ ha),getD_mem (gN ha)⟩
 ·obtain ⟨i,hi,ei⟩:=yW h
  obtain ⟨j,hj,ej⟩:=yW h';have ha:i*L'.length+j<L.length*L'.length:=by have:(i+1)*L'.length≤L.length*L'.length:=d9 _ hi;rw [gT] at this;lia
  have e:(l_ L L' u).getD (i*L'.length+j) 0=c:=by rw [vG ha,lY hj,m4 hj,getD_at hi,getD_at hj,ei,ej,iT];exact n9 c u
  rw [←e];exact getD_mem (by rw [zZ];exact ha)
end
section
variable {q:Int} {n m k u:Nat} {aa af:aG} {T S:aC} {D E:Int} {L L':List Nat}
theorem Hz(x:Nat→Int)(i p:Nat):(ag (m*u) fun c=>(T i (c / u)*S p (c % u))*x c)=ag m fun j=>T i j*ag u fun l=>S p l*x (j*u+l):=by rw [GQ];refine cm fun j _=>?_;rw [a8];exact cm fun l hl=>by rw [lY hl,m4 hl];grind
theorem X6(hq:aB q)(c1:fk q aa)(c2:fk q af)(hT:cE q n m (atT aa) T D)(hS:cE q k u (atT af) S E)(h:ix q n m aa L)(h':ix q k u af L'):ix q (n*k) (m*u) (dG q n m k u aa af) (l_ L L' u):=by
 refine ⟨X4 h.1 h'.1 h'.2.1,X3 h.2.1 h'.2.1,fun T' D' r c hc=>?_⟩;have hb:∀i j,aF q (atT (dG q n m k u aa af) i j).2:=fun i j=>((zY hq c1 c2).at' hq i j).bot;have kr:=Hw hq c1 c2 hT hS;have u0:0<u:=by refine Nat.pos_of_ne_zero fun z=>?_;rw [z,Nat.mul_zero] at hc;lia
 have cj:c / u<m:=iJ hc;have cl:c % u<u:=Nat.mod_lt _ u0;have ce:c / u*u+c % u=c:=by rw [iT];exact n9 c u
 have j6:∀x:Nat→Int,(∀t,t<n*k→Cg q (ag (m*u) fun c=>T' t c*x c) 0)↔∀i p,i<n→p<k→Cg q (ag m fun j=>T i j*ag u fun l=>S p l*x (j*u+l)) 0:=fun x=>by
  refine ⟨fun hx i p hi hp=>?_,fun hx t ht=>?_⟩
  ·have ht:i*k+p<n*k:=by have:(i+1)*k≤n*k:=d9 _ hi;rw [gT] at this;lia
   have z:=Hy hq hb r kr ht (hx _ ht);rw [lY hp,m4 hp,Hz] at z;exact z
  ·refine Hy hq hb kr r ht ?_
   rw [Hz];exact hx _ _ (iJ ht) (gN ht)
 rw [X5 h'.2.1];constructor
 ·rintro ⟨jL,lL⟩ x x0 hx
  have hx:=(j6 x).mp hx;have y0:∀p,p<k→Cg q (ag u fun l=>S p l*x (c / u*u+l)) 0:=fun p hp=>by refine (h.2.2 T D hT (c / u) cj).mp jL (fun j=>ag u fun l=>S p l*x (j*u+l)) (fun j hj=>?_) fun i hi=>hx i p hi hp;refine (cm (g:=fun _=>0) fun l _=>?_).trans (e_ u);have:(c / u+1)*u≤j*u:=d9 _ hj;rw [gT] at this;rw [x0 _ (by lia),bU]
  have z:=(h'.2.2 S E hS (c % u) cl).mp lL (fun l=>if l<u then x (c / u*u+l) else 0) (fun l hl=>?_) fun p hp=>?_
  ·rw [ak cl,ce] at z
   exact z
  ·split
   ·exact x0 _ (by lia)
   ·rfl
  ·rw [cm (g:=fun l=>S p l*x (c / u*u+l)) fun l hl=>by rw [ak hl]]
   exact y0 p hp
 ·intro all
  constructor
  ·refine (h.2.2 T D hT (c / u) cj).mpr fun y y0 hy=>?_
   have z:=all (fun c'=>if c' % u=c % u then y (c' / u) else 0) (fun c' eQ=>?_) ((j6 _).mpr fun i p hi hp=>?_)
   ·rw [ak rfl] at z
    exact z
   ·split
    ·rename_i e
     refine y0 _ (Nat.lt_of_not_le fun le=>?_);have:=gW u le;have d1:=n9 c' u;have d2:=n9 c u;lia
    ·rfl
   ·have e:(ag m fun j=>T i j*ag u fun l=>S p l*(fun c'=>if c' % u=c % u then y (c' / u) else 0) (j*u+l))=S p (c % u)*ag m fun j=>T i j*y j:=by
     rw [a8];refine cm fun j _=>?_;rw [cm (g:=fun l=>if l=c % u then S p l*y j else 0) fun l hl=>by
      dsimp only;rw [m4 hl,lY hl]
      split
      ·rfl
      ·rw [bU],kS u (c % u) (fun l=>S p l*y j) cl]
     grind
    rw [e];have:=(hy i hi).mulL (S p (c % u));rw [bU] at this;exact this
  ·refine (h'.2.2 S E hS (c % u) cl).mpr fun z z0 hz=>?_
   have w:=all (fun c'=>if c' / u=c / u then z (c' % u) else 0) (fun c' eQ=>?_) ((j6 _).mpr fun i p hi hp=>?_)
   ·rw [ak rfl] at w
    exact w
   ·split
    ·rename_i e
     refine z0 _ (Nat.lt_of_not_le fun le=>?_);have d1:=n9 c' u;have d2:=n9 c u;rw [e] at d1;lia
    ·rfl
   ·have:=cU (q:=q) (n:=m) (f:=fun j=>T i j*ag u fun l=>S p l*(fun c'=>if c' / u=c / u then z (c' % u) else 0) (j*u+l)) (g:=fun _=>0) fun j _=>by
     have e:(ag u fun l=>S p l*(fun c'=>if c' / u=c / u then z (c' % u) else 0) (j*u+l))=if j=c / u then ag u fun l=>S p l*z l else 0:=by
      by_cases y:j=c / u
      ·rw [ak y]
       exact cm fun l hl=>by dsimp only;rw [lY hl,m4 hl,ak y]
      ·rw [ao y]
       exact (cm (g:=fun _=>0) fun l hl=>by dsimp only;rw [lY hl,ao y,bU]).trans (e_ u)
     dsimp only;rw [e]
     split
     ·have:=(hz p hp).mulL (T i j)
      rw [bU] at this;exact this
     ·rw [bU]
      exact Cg.refl 0
    rw [e_] at this;exact this
end
section
variable {q:Int} {n m k u s s':Nat} {aa af HA X7:aG} {T S R1 R2:aC} {D E F1 F2:Int} {L L':List Nat}
end
theorem bE.C2(h:bE B H q a aa)(hi:i<aa.length):∃(vs:List V) (r:Addr),H a=some (.lst vs)∧vs.length=aa.length∧vs[i]?=some (.ref r)∧aI B H q r aa[i]:=by
 obtain ⟨vs,e,l,k⟩:=h;have hv:i<vs.length:=by lia
 obtain ⟨r,e1,e2⟩:=k i vs[i] aa[i] (by simp [hv]) (by simp [hi])
 exact ⟨vs,r,e,l,by rw [←e1];simp [hv],e2⟩
theorem aI.HB(h:aI B H q r ps)(hj:j<ps.length):∃(vs:List V) (v:V),H r=some (.lst vs)∧vs.length=ps.length∧vs[j]?=some v∧bZ B H q v (ps.getD j o1).1 (ps.getD j o1).2:=by
 obtain ⟨vs,e,l,k⟩:=h;have hv:j<vs.length:=by lia
 refine ⟨vs,vs[j],e,l,by simp [hv],?_⟩
 rw [getD_at hj];exact k j vs[j] ps[j] (by simp [hv]) (by simp [hj])
def ql(q:Int)(B:Nat)(aa:aG):Prop:=q=0→∀ps∈aa,∀p∈ps,p.1.natAbs≤B∧p.2.natAbs≤B
theorem bE.iM(hq:aB q)(h:bE B H q a aa):fk q aa:=fun ps hp p j8=>(h.nums hq ps hp p j8).1
theorem bE.N5(h:bE B H q a aa):ql q B aa:=fun z ps hp p j8=>by
 obtain ⟨x,vs,e,l,k⟩:=h.each ps hp;obtain ⟨j,hj,rfl⟩:=yW j8;have hv:j<vs.length:=by lia
 have n:=k j vs[j] ps[j] (by simp [hv]) (by simp [hj])
 subst z;generalize ps[j]=p at n;generalize vs[j]=v at n;obtain ⟨x,m⟩:=p;cases n with
 | bH e l bx bm=>exact ⟨bx,bm⟩
 | rem h0 h1 h2=>lia
theorem HC{t b:Int}(hq:aB q)(h:cJ H q v t b)(ok:aF q b)(c:Canon q p)(w:aO q p (t,b))(bd:q=0→p.1.natAbs≤B∧p.2.natAbs≤B):bZ B H q v p.1 p.2:=by
 by_cases z:q=0;·exact N2 hq h ok c w (bd z).1 (bd z).2
 ·have e:=c.2 z
  have q3:q≤997:=by rcases hq with h | h <;> lia
  have n:=N2 (B:=1000) hq h ok c w (by lia) (by lia)
  obtain ⟨x,m⟩:=p;cases n with
  | bH _ _ _ _=>exact absurd rfl z
  | rem h0 h1 h2=>exact .rem h0 h1 h2
theorem zJ.X8{H0:Hp}{M:Nat}{f:Nat→Nat→Int×Int}{bB:aG}(hq:aB q)(h:zJ H0 H q a N M f)(lw:bB.length=N)(ww:∀ps∈bB,ps.length=M)(cw:fk q bB)(bw:ql q B bB)(ok:∀i j,i<N→j<M→aF q (f i j).2)(w:∀i j,i<N→j<M→aO q (atT bB i j) (f i j)):bE B H q a bB:=by
 obtain ⟨vs,e,l,k⟩:=h;refine ⟨vs,e,by lia,fun i v ps h1 h2=>?_⟩
 have hi:i<N:=by rw [←l];exact (aP.mp h1).1
 obtain ⟨r,e1,_,_,ws,e2,l2,k2⟩:=k i v h1;have a_:i<bB.length:=by lia
 have X9:ps=bB[i]:=by simpa [a_] using h2.symm
 subst X9;have wi:=ww _ (aQ a_);refine ⟨r,e1,ws,e2,by lia,fun j u p g1 g2=>?_⟩
 have hj:j<M:=by rw [←l2];exact (aP.mp g1).1
 have di:j<bB[i].length:=by lia
 have ep:p=atT bB i j:=by unfold atT;rw [getD_at a_,getD_at di];simpa [di] using g2.symm
 have mem:atT bB i j∈bB[i]:=by unfold atT;rw [getD_at a_,getD_at di];exact aQ di
 rw [ep];exact HC hq (k2 j u g1) (ok i j hi hj) (cw _ (aQ a_) _ mem) (w i j hi hj) fun z=>bw z _ (aQ a_) _ mem
section
variable {q:Int} {n m k u B C:Nat} {aa af:aG}
theorem N6(bd:ql q B aa)(z:q=0)(b1:1≤B)(i j:Nat):(atT aa i j).1.natAbs≤B∧(atT aa i j).2.natAbs≤B:=by
 unfold atT;by_cases hi:i<aa.length
 ·rw [getD_at hi]
  by_cases hj:j<aa[i].length
  ·rw [getD_at hj]
   exact bd z _ (aQ hi) _ (aQ hj)
  ·rw [oR (by lia)]
   exact ⟨eJ _,b1⟩
 ·rw [oR (xs:=aa) (by lia)]
  exact ⟨eJ _,b1⟩
theorem X_(hq:aB q)(c1:fk q aa)(c2:fk q af)(b1:ql q B aa)(b2:ql q C af)(B1:1000≤B)(C1:1≤C):ql q (B*C) (dG q n m k u aa af):=fun z ps hp p j8=>by
 unfold dG at hp;obtain ⟨a,_,rfl⟩:=eZ.mp hp;obtain ⟨b,_,rfl⟩:=eZ.mp j8;have x:=N6 b1 z (by lia) (a / k) (b / u)
 have y:=N6 b2 z C1 (a % k) (b % u);have ok:=(c1.at' hq (a / k) (b / u)).bot.mul (c2.at' hq (a % k) (b % u)).bot;exact MP hq ok (aq B1 (ia _ C1)) (by rw [bz];exact aZ x.1 y.1) (by rw [bz];exact aZ x.2 y.2)
theorem zJ.dG{H0:Hp}(hq:aB q)(h:zJ H0 H q a (n*k) (m*u) (cellOf aa af k u))(c1:fk q aa)(c2:fk q af)(b1:ql q B aa)(b2:ql q C af)(B1:1000≤B)(C1:1≤C):bE (B*C) H q a (dG q n m k u aa af):=
 h.X8 hq CY CZ (zY hq c1 c2) (X_ hq c1 c2 b1 b2 B1 C1) (fun i j _ _=>(c1.at' hq (i / k) (j / u)).bot.mul (c2.at' hq (i % k) (j % u)).bot) fun i j hi hj=>by rw [C0 hi hj];exact (qe hq (c1.at' hq _ _) (c2.at' hq _ _)).2
end
theorem C3(hq:aB q):Canon q (1,1):=⟨fun _=>⟨by decide,by decide⟩,fun z=>⟨rfl,by decide,by rcases hq with h | h;exact absurd h z;show (1:Int)<q;lia⟩⟩
def Ya:Sp:=fun vs H Q _=>∃(a b:Addr) (q:Int) (aa af:aG) (m u:Nat),vs=[.int q,.ref a,.ref b]∧aB q∧bE (10 ^ 60) H q a aa∧bE (10 ^ 60) H q b af∧1≤aa.length∧aa.length≤40∧1≤af.length∧af.length≤40∧(∀ps∈aa,ps.length=m)∧(∀ps∈af,ps.length=u)∧m≤40∧1≤u∧u≤40 ∧
 ∀(r:Addr) (H':Hp),ah H H'→H r=none→zJ H H' q r (aa.length*af.length) (m*u) (cellOf aa af af.length u)→Q (.ref r) H'
section
variable {q:Int} {n m k u E1 E2:Nat} {aa af:aG} {L L':List Nat}
theorem z8(hq:aB q)(c:fk q aa)(i:Nat):∀p∈aa.getD i [],Canon q p:=fun p hp=>by
 by_cases hi:i<aa.length
 ·rw [getD_at hi] at hp
  exact c _ (aQ hi) p hp
 ·rw [oR (by lia)] at hp
  cases hp
end
theorem Yb{r:Nat}(h:r≤9):r*bA r≤10 ^ 7:=by
 have:∀r∈List.range 10,r*bA r≤10 ^ 7:=by decide
 exact this r (fe.mpr (by lia))
end My
namespace L2
open PySem PySem.Spec PyProof.Rows
section
variable {X:Cx} {N:List Str} {scope:Scope} {cl:List (Str×Addr)} {x y:Str} {px py pos tp:Pos} {lS:Nat} {iter elt:Expr} {ifs:List Expr} {wi:TI} {ρ:St→St} {tt:TT} {te:TE}
theorem Yc{y9:Str}{vH zB:Pos}{i0:Nat}(B:Gu X N scope cl x y ρ)(hc:X.calm=true)(hN:X.N.Nodup)(vo:X.N[i0]?=some y9)(hy:Loc X.env.scope y9)(hi:PI X (.Tuple [.Name x px,.Name y py] lS tp) iter wi)(ht:∀s₃ H₃ fp,kK (X.bK N scope cl s₃ H₃ fp) ifs tt)(he:∀s₃ H₃ fp,PE (X.bK N scope cl s₃ H₃ fp) elt te)
  (Gs:swapsWith (.ListComp elt [⟨.Tuple [.Name x px,.Name y py] lS tp,iter,ifs,0⟩] scope pos) (some (.Name y9 vH)) zB.line X.env=pure true:=by rfl) (hf:X.fn y9=true∨X.env.scope.names.lookup y9=some .local:=by first | exact .inl rfl | exact .inr rfl | assumption)
  (hs:∀x,foldedSetIterable iter X.env x=pure x:=by intro _;rfl):PS X (.Assign [.Name y9 vH] (.ListComp elt [⟨.Tuple [.Name x px,.Name y py] lS tp,iter,ifs,0⟩] scope pos) zB) (ou (vt X.K wi ρ tt te) (aT i0)):=by
 intro pins s σ H D0 I h
 have h:vt X.K wi ρ tt te σ H (fun v H1=>D0.nx (σ.set i0 (some v)) H1):=h
 rw [exec_Assign_Name_used _ _ _ _ Gs]
 refine cR (yB (cR ?_))
 show wpAny _ X.A (do let _ ←comprehension (.ListComp elt [⟨.Tuple [.Name x px,.Name y py] lS tp,iter,ifs,0⟩] scope pos) scope X.env _ (newList []) false (eval iter X.env) (some (assign (.Name y9 vH) X.env))) _ _ s
 refine cR (cI (Q:=fun _ s'=>SP X pins D0 .next s') ?_ (fun _ s' hq=>fz (fz hq)) fun _ _ e=>e)
 refine yH (use:=some (assign (.Name y9 vH) X.env)) rfl hs B.rS B.kind B.names (aV (hi pins s σ H _ I h) fun v s1 h1=>aV h1 fun rj s2 h2=>?_)
 obtain ⟨it,fp,tn,J,H2,rfl,I2,T,fY,f2,q2⟩:=h2
 have nD:H2 s2.heap.objs.size=none:=I2.aN.fresh (aH _)
 obtain ⟨W,⟨m0,w0⟩,turn⟩:=q2 _ nD
 refine uR (Br B.zt (by intro y hy;simp at hy) (fun h₁ gf gJ=>?_) B.kind)
 dsimp only at gf gJ ⊢
 generalize hD:s2.heap.objs.size=D at nD w0 turn gf gJ ⊢
 generalize fJ:({s2 with heap:=s2.heap.push {cls:=.type "list",dict:=none,data:=.seq ([]:List Value).toArray}}:Shared)=s3
 have I3:Inv X pins σ (upd H2 D (.lst [])) s3:=by
  subst hD fJ
  exact I2.laid (t':=s2.toks) (fun b u e=>dA _ e) (aH _) ⟨eJ _,[],_,.nil,gR _ rfl⟩
 have e3:s3.heap=s2.heap.push {cls:=.type "list",dict:=none,data:=.seq ([]:List Value).toArray}:=by rw [←fJ]
 have e9:∀b o,s2.heap.get? b=some o→s3.heap.get? b=some o:=fun b o e=>by rw [e3];exact dA _ e
 rw [←e3] at gf gJ ⊢
 have below:∀b o,s3.heap.get? b=some o→b≠s3.heap.objs.size:=fun b o e=>ft (bV e)
 have du:∀b o,s3.heap.get? b=some o→h₁.get? b=some o:=fun b o e=>gJ.extBut b o (below b o e) (dA _ e)
 have gu:∀b∈fp,∃o,s2.heap.get? b=some o∧∀v,o.data≠.cell v:=T.obj _ _ fY
 have oC:∀b∈fp,b≠D:=fun b hb z=>by
  obtain ⟨o,e,_⟩:=gu b hb
  rw [z,←hD] at e
  exact absurd (bV e) (gz _)
 have cX:∀y c,cl.lookup y=some c→X.env.cells.lookup y=some c:=fun y c e=>B.sub (y,c) (kl e)
 have oE:=I3.q_
 have eR:(X.bK N scope cl s3 (upd H2 D (.lst [])) fp).Ok:=by
  refine ⟨I.ok.mod,B.kind,I.ok.glob,I.ok.blt,aH _,fun a b c e1 e2=>I.ok.inj a b c (cX a c e1) (cX b c e2),fun y hy=>B.has y hy,(fun _ _ z _=>absurd z dB),(fun _=>I.ok.hd hc),I.ok.frames,.inl rfl,fun b hb=>⟨?_,fun y c e z=>?_⟩,fun b o e=>?_,aq I.ok.ig I3.sz,fun b o e hb=>?_,fun b hb z=>?_,I3.stack,oE⟩
  ·obtain ⟨o,e,_⟩:=gu b hb
   exact below b o (e9 b o e)
  ·exact (f2 b hb).2.2.2.2.1 y c (cX y c e) z
  ·exact I3.bs b o e
  ·rcases (f2 b hb).2.2.2.1 with z | z
   ·exact I.ok.oi b o e z
   ·exact absurd (dy (bV e) (aq I.ok.ig z)) (gz _)
  ·rcases eY.mp (I3.q8 b z) with z | z
   ·exact (f2 b hb).2.1 z
   ·exact (f2 b hb).2.2.1 z
 have IB:∀tk:Nat,Inv (X.bK N scope cl s3 (upd H2 D (.lst [])) fp) [] (none::none::ρ σ) (upd H2 D (.lst [])) {s3 with heap:=h₁,toks:=tk}:=fun tk=>by
  refine ⟨eR,rfl,I3.bare,Un.kept du,⟨_,gf,fun j y v e1 e2 e3=>?_⟩,fun y c e=>?_,?_,fun y c e=>I3.ja y c (cX y c e),(fun p hp=>nomatch hp),I3.aN.kept du,?_⟩
  ·cases j with
   | zero=>cases e2
   | succ j=>
   cases j with
   | zero=>cases e2
   | succ j=>
    obtain ⟨i,y',a1,a2,a3,a4,a5,a6⟩:=B.rW σ j v e2
    have jN:N[j+1+1]?=some y:=e1
    rw [jN] at a1
    cases a1
    obtain ⟨m,hn,hl⟩:=I3.loc
    obtain ⟨u,r,l⟩:=hl i y v a2 a3 a4
    refine ⟨u,r,.inr ⟨a6,?_⟩⟩
    obtain ⟨c,ec⟩:=B.has y a6
    rcases l with ⟨k,_⟩ | ⟨_,c',jf,z⟩
    ·rcases a5 with q | q <;> (rw [k] at q;cases q)
    ·have:=cX y c ec
     rw [this] at jf
     cases jf
     obtain ⟨o,ho,hd⟩:=z
     exact ⟨c,ec,o,du _ _ ho,hd⟩
  ·obtain ⟨v,o,ho,hd⟩:=I3.cell y c (cX y c e)
   exact ⟨v,o,du _ _ ho,hd⟩
  ·exact I3.aN.fresh (aH _)
  ·show (none::none::ρ σ).length=N.length
   rw [cS,cS]
   exact B.len σ I.len
 have r9:∀b o,s3.heap.get? b=some o→b≠s3.heap.objs.size:=below
 have fin:∀{σ':St} {H':Hp} {s':Shared},Inv (X.bK N scope cl s3 (upd H2 D (.lst [])) fp) [] σ' H' s'→D0.nx (σ.set i0 (some (.ref D))) H'→compPost (model X.prog X.w) X.A X.xe (some (assign (.Name y9 vH) X.env)) (fun _ s'=>SP X pins D0 .next s') (.ref D) s3.heap.objs.size (.ok .next) s':=fun{σ' H' s'} J q=>by
  obtain ⟨m,hn,_⟩:=J.loc
  have hn:s'.heap.Ns s3.heap.objs.size m:=hn
  have JC:H' s3.heap.objs.size=none:=J.free
  have u1:Un (dh X.stack) fp (upd H2 D (.lst [])) H' s3.heap s'.heap:=by
   refine ⟨fun b o e n hb hx=>J.base.keep b o e n hb hx,fun b o e n hb hx=>J.base.slot b o e n hb hx,J.base.free,fun b o e hx=>J.base.there b o e hx,J.base.ic,J.base.gZ,J.base.ie⟩
  have IX:Inv X pins σ H' s':=I3.oq (ch:=fp) (J.os) u1 J.aN J.bare fun b hb=>by
   obtain ⟨g0,g1,g2,g3,g4,g5⟩:=f2 b hb
   exact ⟨g3,g1,g4,g5⟩
  have nl:X.env.locals≠s3.heap.objs.size:=by
   obtain ⟨m3,⟨o3,_,_,e3,_⟩,_⟩:=I3.loc
   exact r9 _ _ e3
  have nc:∀z c,X.env.cells.lookup z=some c→c≠s3.heap.objs.size:=fun z c e=>by
   obtain ⟨v3,o3,e3,_⟩:=I3.cell z c e
   exact r9 _ _ e3
  refine wpAny_assign_Name (Fz (v:=.ref D) IX hN vo hy rfl (fun jJ r_ sh=>?_) hf)
  obtain ⟨a,sh,ha⟩:=sh
  have na:s3.heap.objs.size≠a:=by
   rcases ha with rfl | e
   ·exact fun z=>nl z.symm
   ·exact fun z=>nc _ _ e z.symm
  refine ⟨m,hn.sameBut sh na,fun h' dR=>⟨σ.set i0 (some (.ref D)),H',?_,q⟩⟩
  have u2:Un (dh X.stack) [s3.heap.objs.size] H' H' jJ.heap h':=by
   refine ⟨fun b o e n hb hx=>(dR.2 b (by simpa using hx)).trans e,fun b o e n hb hx=>⟨o.slots,(dR.2 b (by simpa using hx)).trans e⟩,fun b o e n hx=>n,fun b o e hx=>⟨o,(dR.2 b (by simpa using hx)).trans e⟩,fun b xs z=>z,fun b o u z=>z,fun b ps z=>⟨#[],by simpa using z⟩⟩
  have oF:dC X.prog X.w H' h':=fun b u e=>by
   refine (r_.aN b u e).jD (fun c v hc z=>(dR.2 c fun y=>?_).trans z) (fun _ z=>z) fun _ _ z=>z
   have y':c=s3.heap.objs.size:=y
   rcases hc with hc | hc
   ·rw [←hc,y',JC] at e
    cases e
   ·rw [y',JC] at hc
    cases hc
  refine r_.oq (s':={jJ with heap:=h'}) (ch:=[s3.heap.objs.size]) rfl u2 oF r_.bare fun b hb=>?_
  have eb:b=s3.heap.objs.size:=by simpa using hb
  subst eb
  refine ⟨.inr I3.sz,fun z=>nl z.symm,fun z c e=>nc z c e,fun p hp=>?_⟩
  exact r9 _ _ (I3.pin p hp).1
 have fE:∀{H':Hp},(∀b∈fp,H' b=none)→∀b∈fp,lj (X.bK N scope cl s3 (upd H2 D (.lst [])) fp) [] H' b:=fun hn b hb=>by
  refine ⟨hn b hb,?_,?_,.inl hb,fun y c e z=>(f2 b hb).2.2.2.2.1 y c (cX y c e) z,fun p hp=>nomatch hp⟩
  ·obtain ⟨o,e,_⟩:=gu b hb
   exact below b o (e9 b o e)
  ·exact eR.oj b hb
 have loop:∀tk:Nat,codeAny (model X.prog X.w) X.A (.compLoop (.ListComp elt [⟨.Tuple [.Name x px,.Name y py] lS tp,iter,ifs,0⟩] scope pos) 0 (.ref it) (.ref D) (compEnvC scope cl s3.heap.objs.size X.env))
   (compPost (model X.prog X.w) X.A X.xe (some (assign (.Name y9 vH) X.env)) (fun _ s'=>SP X pins D0 .next s') (.ref D) s3.heap.objs.size) {s3 with heap:=h₁,toks:=tk}:=fun tk=>by
  refine Mt (fun n s'=>∃i ys o o2 H',Inv (X.bK N scope cl s3 (upd H2 D (.lst [])) fp) [] (o::o2::ρ σ) H' s'∧tn i s'.heap∧(∀b∈fp,H' b=none)∧W i n ys H') ?_ m0
   ⟨0,[],none,none,_,IB tk,T.keep _ _ _ fY fun b hb o e=>du _ _ (e9 _ _ e),fun b hb=>by rw [bI (oC b hb)];exact (f2 b hb).1,w0⟩
  rintro n s4 ⟨i,ys,o,o2,H4,I4,jg,jh,w4⟩
  obtain ⟨Cc,oG⟩:=turn i n ys H4 w4
  rcases oG with ⟨stop,qn⟩ | ⟨go,step⟩
  ·refine cI (T.done (X.bK N scope cl s3 (upd H2 D (.lst [])) fp) rfl rfl rfl hc i [] s4 _ H4 (fun _ _=>False) I4 (fE jh) jg stop) (fun r s5 ⟨hr,I5⟩=>?_) fun _ _ z=>z.elim
   subst hr
   exact fin I5 qn
  ·refine cI (T.item (X.bK N scope cl s3 (upd H2 D (.lst [])) fp) rfl rfl rfl hc i [] s4 _ H4 (fun _ _=>False) I4 (fE jh) jg go) (fun r s5 ⟨u,hr,h5⟩=>?_) fun _ _ z=>z.elim
   subst hr
   refine cI h5 (fun _ s5 ⟨y0,H5,I5,r5,y5,fF,lD⟩=>?_) fun _ _ z=>z.elim
   obtain ⟨Tt,x1,x2,e0,Gv,oH⟩:=step y0 _ y5
   subst e0
   have lE:=I5.pinned (fE lD) (T.obj _ _ fF)
   have pg:PG (X.bK N scope cl s3 (upd H2 D (.lst [])) fp) (.Tuple [.Name x px,.Name y py] lS tp) (FH X.K 2 (y7 (aT 0) (y7 (aT 1) FG))):=
    y_ (X:=X.bK N scope cl s3 (upd H2 D (.lst [])) fp) hc (mM (d_ (i:=0) B.nd B.n0 (.inl (km B.hx)) (.inr (km B.hx))) (mM (d_ (i:=1) B.nd B.n1 (.inl (km B.hy)) (.inr (km B.hy))) y8))
   have again:∀{σ7:St} {H7:Hp} {s7:Shared},Inv (X.bK N scope cl s3 (upd H2 D (.lst [])) fp) ([]++jb fp s5.heap) σ7 H7 s7→Inv (X.bK N scope cl s3 (upd H2 D (.lst [])) fp) [] σ7 H7 s7∧tn (i+1) s7.heap∧∀b∈fp,H7 b=none:=fun{σ7 H7 s7} I7=>by
    refine ⟨I7.pP,T.keep _ _ _ fF fun b hb o e=>(I7.pin (b,o) (eI _ (eI _ (kF hb e)))).1,fun b hb=>?_⟩
    obtain ⟨o,e,d⟩:=T.obj _ _ fF b hb
    exact (I7.pin (b,o) (eI _ (eI _ (kF hb e)))).2.1
   refine cI (pg _ s5 _ H5 (.ref Tt) u (fun σ2 H6=>σ2=some x1::some x2::ρ σ∧H6=H5) lE r5 ⟨Tt,_,rfl,Gv,rfl,_,_,rfl,_,_,rfl,rfl,rfl,rfl⟩) (fun _ s6 ⟨σ6,H6,I6,q6⟩=>?_) fun _ _ z=>z.elim
   obtain ⟨rfl,rfl⟩:=q6
   have tests:∀{gK:TT},kK (X.bK N scope cl s3 (upd H2 D (.lst [])) fp) ifs gK→∀{R:Bool→Hp→Prop},gK (some x1::some x2::ρ σ) H6 R→wpAny (model X.prog X.w) X.A
     (forIn ifs true fun c r=>if r=true then do let ok ←isTrue c (compEnvC scope cl s3.heap.objs.size X.env) (eval c (compEnvC scope cl s3.heap.objs.size X.env));pure (ForInStep.yield ok) else pure (ForInStep.yield r))
     (fun ok s7=>∃H7,Inv (X.bK N scope cl s3 (upd H2 D (.lst [])) fp) ([]++jb fp s5.heap) (some x1::some x2::ρ σ) H7 s7∧R ok H7) (fun _ _=>False) s6:=fun{gK} p {R} hR=>by
    cases p with
    | nil=>exact yI ⟨_,I6,hR⟩
    | one p=>exact yJ (p _ s6 _ _ _ I6 hR)
   refine cI (tests (ht s3 _ fp) oH) (fun ok s7 ⟨H7,I7,q7⟩=>?_) fun _ _ z=>z.elim
   cases ok with
   | false=>
    obtain ⟨m',gv,w7⟩:=q7
    obtain ⟨a1,a2,a3⟩:=again I7
    exact ⟨m',gv,i+1,ys,_,_,H7,a1,a2,a3,w7⟩
   | true=>
    refine cI (he s3 _ fp _ s7 _ H7 _ I7 q7) (fun ev s8 ⟨z,H8,I8,r8,lK,hz,m',gv,w8⟩=>?_) fun _ _ z=>z.elim
    refine cI (mR (X:=X.bK N scope cl s3 (upd H2 D (.lst [])) fp) _ s8 _ H8 (.ref D) [z] (.ref D) [ev] (fun _ H9=>H9=upd H8 D (.lst (ys++[z]))) I8 rfl (.cons r8 .nil) ⟨D,ys,z,rfl,rfl,lK,hz,rfl⟩) (fun _ s9 ⟨_,H9,I9,_,q9⟩=>?_) fun _ _ z=>z.elim
    subst q9
    obtain ⟨a1,a2,a3⟩:=again I9
    exact ⟨m',gv,i+1,ys++[z],_,_,_,a1,a2,a3,w8⟩
 have start:=loop (s3.toks+([]:List (Str×Value)).length)
 have es:({s3 with heap:=h₁,toks:=s3.toks+([]:List (Str×Value)).length}:Shared)={s2 with heap:=h₁,toks:=s2.toks+([]:List (Str×Value)).length}:=by rw [←fJ]
 rw [es] at start
 exact yK start (T.self _ 0 _ _ _ (T.keep _ _ _ fY fun b hb o e=>du _ _ (e9 _ _ e)) start)
end
end L2
namespace My
open PySem L2
def C4(q:Int)(n u:Nat)(aa bO HA:aG):Prop:=∀T D V F X E,cE q n n (atT aa) T D→cE q n u (atT bO) V F→cE q n u (atT HA) X E→∀t c,t<n→c<u→Cg q (F*ag n fun k=>T t k*X k c) (V t c*D*E)
section
variable {q:Int} {n m k u P W:Nat} {aa cZ bO af HA X7:aG} {A M T S X Y V:aC} {c:Nat→Int} {L:List Nat} {last D E F G:Int}
theorem Yd{i j:Nat}(h:bO.length=aa.length)(hm:∀ps∈aa,ps.length=m)(hi:i<aa.length):atT (List.zipWith (·++·) aa bO) i (m+j)=atT bO i j:=by have l:=hm _ (aQ hi);unfold atT;rw [qk h hi,getD_at hi,cu,fN (by lia),show m+j-aa[i].length=j by lia,←cu]
theorem dE.N7(hq:aB q)(h:dE q P (n+u) (List.zipWith (·++·) aa bO) A M c (List.range n) last af)(hn:aa.length=n)(hu:bO.length=n)(hm:∀ps∈aa,ps.length=n)(wu:∀ps∈bO,ps.length=u)(hb:∀ps∈aa,∀p∈ps,aF q p.2)(Ye:∀ps∈bO,∀p∈ps,aF q p.2)(jq:∀i j,aF q (atT af i j).2)(Yf:∀ps∈af,∀p∈ps,aF q p.2)(rr:∃R E',cE q n (n+u) (atT af) R E'):C4 q n u aa bO (af.map fun ps=>ps.drop n):=fun T D V F X E rT rV rX t b ht dW=>by
 obtain ⟨R,E',rR⟩:=rr;have lz:(List.zipWith (·++·) aa bO).length=n:=by rw [nh (by lia)];exact hn
 have ct:=h.bot t (by lia)
 have lr:af.length=n:=by rw [h.len,eK]
 have Yg:=fun j (hj:j<n)=>h.zX hq hn lz hm (fun i k hi hk=>vD (by lia) hm (by lia) hk) (nZ n u) hb rT (i:=t) (k:=j) ht hj
 have Yh:Cg q (V t b*c t) (A t (n+b)*F):=by
  have e:=h.row t (n+b) (by lia) (by lia)
  rw [Yd (by lia) hm (by lia)] at e
  obtain ⟨ps,h1,h2⟩:=m9 (m:=u) hu wu ht dW;exact vB hq e (rV.2 t b ht dW) (Ye ps h1 _ h2)
 have e0:cE q (List.range n).length (n+u) (atT af) R E':=by rw [eK];exact rR
 have col:=h.col hq Yf e0 (t:=t) (k:=n+b) (by lia) (by lia)
 rw [eK] at col;have col:Cg q (ag n fun j=>A t j*R j (n+b)) (A t (n+b)*E'):=by refine (Cg.of_eq (cm fun j hj=>?_)).trans col;rw [getD_at (by simpa using hj),yU]
 have xr:∀j,j<n→Cg q (X j b*E') (R j (n+b)*E):=fun j hj=>by
  have w1:=rX.2 j b hj dW;have w2:=rR.2 j (n+b) hj (by lia)
  rw [Ng (by lia)] at w1
  obtain ⟨y,ey⟩:=(w1.symm).trans w2 (jq j (n+b));exact ⟨y,ey⟩
 refine m8 hq (ct.nz hq) (m8 hq (rR.1.nz hq) ?_);have s1:Cg q (E'*(c t*(F*ag n fun k=>T t k*X k b))) (F*(D*(E*ag n fun k=>A t k*R k (n+b)))):=by rw [a8,a8,a8,a8,a8,a8];refine cU fun j hj=>?_;have z1:=(Yg j hj).mulR (X j b*E');have z2:=(xr j hj).mulL (A t j*D);exact (Cg.of_eq (by grind)).trans (((z1.trans z2).mulL F).trans (Cg.of_eq (by grind)))
 have s2:=((col.mulL (D*E)).trans (Cg.of_eq (show D*E*(A t (n+b)*E')=D*E*E'*A t (n+b) by grind))).mulL F
 have s3:=(Yh.mulL (D*E*E')).symm;exact s1.trans ((Cg.of_eq (by grind)).trans (s2.trans ((Cg.of_eq (by grind)).trans (s3.trans (Cg.of_eq (by grind))))))
theorem Yi(hq:aB q){HD bB sE:aG}{as xs:aD}{F1:Int}(c1:fk q aa)(c2:fk q af)(hT:cE q n n (atT aa) T D)(hS:cE q k k (atT af) S E)(hX:cE q n k (atT HD) X F1)(s1:C4 q n k aa bO HD)(s2:C4 q k n af sE bB)(ht:∀c j,c<k→j<n→atT sE c j=atT HD j c)(ha:∀i c,i<n→c<k→atT bO i c=as.getD (i*k+c) o1)(hx:∀j l,j<n→l<k→xs.getD (j*k+l) o1=atT bB l j):l6 q (n*k) (n*k) (dG q n n k k aa af) as xs:=fun T2 D2 a F X2 E2 Yj ra rX t HE=>by
 have hb:∀i j,aF q (atT (dG q n n k k aa af) i j).2:=fun i j=>((zY hq c1 c2).at' hq i j).bot;have kr:=Hw hq c1 c2 hT hS;have ti:=iJ HE;have tc:=gN HE;have te:t / k*k+t % k=t:=by rw [iT];exact n9 t k
 have idx:∀i c,i<n→c<k→i*k+c<n*k:=fun i c hi hc=>by have:(i+1)*k≤n*k:=d9 _ hi;rw [gT] at this;lia
 have rV:cE q n k (atT bO) (fun i c=>a (i*k+c)) F:=⟨ra.1,fun i c hi hc=>by rw [ha i c hi hc];exact ra.2 _ (idx i c hi hc)⟩
 have rY:cE q k n (atT bB) (fun l j=>X2 (j*k+l)) E2:=⟨rX.1,fun l j hl hj=>by rw [←hx j l hj hl];exact rX.2 _ (idx j l hj hl)⟩
 have rH:cE q k n (atT sE) (fun c j=>X j c) F1:=⟨hX.1,fun c j hc hj=>by rw [ht c j hc hj];exact hX.2 j c hj hc⟩
 have a1:=s1 T D _ F X F1 hT rV hX (t / k) (t % k) ti tc;have a2:=fun j (hj:j<n)=>s2 S E _ F1 _ E2 hS rH rY (t % k) j tc hj;rw [te] at a1;refine m8 hq (hT.1.nz hq) (m8 hq (hS.1.nz hq) (m8 hq (hX.1.nz hq) ?_));have b1:Cg q (F1*(E*(D*(F*ag (n*k) fun b=>T2 t b*X2 b)))) (F*(D2*(F1*ag (n*k) fun b=>(T (t / k) (b / k)*S (t % k) (b % k))*X2 b))):=by rw [a8,a8,a8,a8,a8,a8,a8];refine cU fun b dW=>?_;have z:=(N4 hb kr Yj HE dW).mulR (F1*F*X2 b);exact (Cg.of_eq (by grind)).trans (z.trans (Cg.of_eq (by grind)))
 rw [Hz] at b1;have b2:Cg q (F1*ag n fun j=>T (t / k) j*ag k fun l=>S (t % k) l*X2 (j*k+l)) (ag n fun j=>T (t / k) j*(X j (t % k)*E*E2)):=by rw [a8];refine cU fun j hj=>?_;exact (Cg.of_eq (by grind)).trans ((a2 j hj).mulL (T (t / k) j))
 have b3:(ag n fun j=>T (t / k) j*(X j (t % k)*E*E2))=E*E2*ag n fun j=>T (t / k) j*X j (t % k):=by rw [a8];exact cm fun j _=>by grind
 rw [b3] at b2;have b4:=(b2.mulL D2).mulL F;have b5:=a1.mulL (D2*E*E2);exact b1.trans (b4.trans ((Cg.of_eq (by grind)).trans (b5.trans (Cg.of_eq (by grind)))))
theorem Yk(hq:aB q){vs es ws:aD}{V1 V2:Nat→Int}{E1 E2:Int}(c1:fk q aa)(c2:fk q af)(hT:cE q n n (atT aa) T D)(hS:cE q k k (atT af) S E)(h1:kU q n (fun j=>vs.getD j o1) V1 E1)(h2:kU q k (fun j=>es.getD j o1) V2 E2)(dW:∀b,aF q (ws.getD b o1).2)(hw:∀b,b<n*k→aO q (ws.getD b o1) (V1 (b / k)*V2 (b % k),E1*E2))(mv:kW q n n aa vs∨kW q k k af es):kW q (n*k) (n*k) (dG q n n k k aa af) ws:=fun T2 D2 V F rT rV t ht=>by
 have hb:∀i j,aF q (atT (dG q n n k k aa af) i j).2:=fun i j=>((zY hq c1 c2).at' hq i j).bot;have kr:=Hw hq c1 c2 hT hS;have ti:=iJ ht;have tc:=gN ht;have z0:Cg q (ag (n*k) fun b=>(T (t / k) (b / k)*S (t % k) (b % k))*(V1 (b / k)*V2 (b % k))) 0:=by
  rw [WN];rcases mv with mv | mv
  ·have z:=(mv T D V1 E1 hT h1 _ ti).mulR (ag k fun j=>S (t % k) j*V2 j)
   rw [gX] at z;exact z
  ·have z:=(mv S E V2 E2 hS h2 _ tc).mulL (ag n fun j=>T (t / k) j*V1 j)
   rw [bU] at z;exact z
 refine fi hq ((h1.1.mul h2.1).nz hq) ?_;have z1:Cg q (E1*E2*ag (n*k) fun b=>T2 t b*V b) (F*ag (n*k) fun b=>T2 t b*(V1 (b / k)*V2 (b % k))):=by rw [a8,a8];refine cU fun b N8=>?_;obtain ⟨x,e⟩:=(rV.2 b N8).symm.trans (hw b N8) (dW b);have z:Cg q (V b*(E1*E2)) ((V1 (b / k)*V2 (b % k))*F):=⟨x,e⟩;exact (Cg.of_eq (by grind)).trans ((z.mulL (T2 t b)).trans (Cg.of_eq (by grind)))
 have z2:=(Hy hq hb kr rT ht z0).mulL F;rw [bU] at z2;exact z1.trans z2
theorem C5(h:ix q n m aa L):L=(List.range m).filter fun c=>decide (c∈L):=
 G9 h.1 (List.Pairwise.filter _ Fu) fun c=>by rw [qM,fe,decide_eq_true_iff];exact ⟨fun x=>⟨h.2.1 c x,x⟩,fun x=>x.2⟩
theorem C6(h:ix q n m aa L)(hl:L.length=m)(hT:cE q n m (atT aa) T D){x:Nat→Int}(hx:∀t,t<n→Cg q (ag m fun j=>T t j*x j) 0){c:Nat}(hc:c<m):Cg q (x c) 0:=by
 have fl:=C5 h;have all:∀c,c<m→c∈L:=fun c hc=>by
  have l:((List.range m).filter fun c=>decide (c∈L)).length=(List.range m).length:=by rw [←fl,hl,eK]
  have:=List.length_filter_eq_length_iff.mp l c (fe.mpr hc);simpa using this
 refine gE fun no=>?_;have ex:∃c,c<m∧¬Cg q (x c) 0:=⟨c,hc,no⟩;have top:∀d,(∃c,c<m∧m-d≤c∧¬Cg q (x c) 0)→∃c,c<m∧¬Cg q (x c) 0∧∀k,c<k→k<m→Cg q (x k) 0:=fun d=>by
  induction d with
  | zero=>rintro ⟨c,h1,h2,_⟩;lia
  | succ d ih=>
   rintro ⟨c,h1,h2,h3⟩;by_cases y:∃c,c<m∧m-d≤c∧¬Cg q (x c) 0;·exact ih y
   ·refine ⟨c,h1,h3,fun k hk dS=>gE fun z=>y ⟨k,dS,by lia,z⟩⟩
 obtain ⟨c0,N9,n0,up⟩:=top m ⟨c,hc,by lia,no⟩
 refine n0 ?_;have z:=(h.2.2 T D hT c0 N9).mp (all c0 N9) (fun k=>if k≤c0 then x k else 0) (fun k hk=>ao (by lia)) fun t ht=>?_
 ·rw [ak (aH _)] at z
  exact z
 ·refine Cg.trans ?_ (hx t ht)
  refine cU fun j hj=>?_
  split
  ·exact Cg.refl _
  ·have:=(up j (by lia) hj).mulL (T t j)
   rw [bU] at this;rw [bU];exact this.symm
theorem HF(h:ix q n m aa L)(hl:L.length≠m)(hT:cE q n m (atT aa) T D):∃(x:Nat→Int) (c:Nat),c<m∧¬Cg q (x c) 0∧∀t,t<n→Cg q (ag m fun j=>T t j*x j) 0:=by
 refine gE fun no=>hl ?_;have all:∀c,c<m→c∈L:=fun c hc=>(h.2.2 T D hT c hc).mpr fun x _ hx=>gE fun y=>no ⟨x,c,hc,y,hx⟩;have l1:L.length≤m:=by rw [C5 h];exact aq (yO _ _) (by rw [eK];exact aH _)
 rw [GV h.1 l1 all,eK]
end
structure iO (q:Int) (n:Nat) (aa:aG) (Dl W:Nat→Nat):Prop where
 d:∀i,1≤Dl i∧Dl i≤10 ^ 24
 w:∀i,10 ^ 6≤W i∧W i≤4*10 ^ 18
 p:q=0→a9 n (fun i=>Dl i*W i)≤10 ^ 67
 v:q=0→∀i,i<n→cM (Dl i) (W i) (aa.getD i [])
 n3:n≤3
 n2:q=0→n≤2
def gA(q:Int)(Dl W:Nat→Nat)(X:Nat):Nat→Nat:=fun i=>if q=0 then W i*Dl i*X else 1000
section
variable {q:Int} {n:Nat} {aa:aG} {Dl W:Nat→Nat}
variable {X:Nat}
theorem iO.prod(h:iO q n aa Dl W)(x1:1≤X):a9 n (gA q Dl W X)≤10 ^ 67*X ^ 2:=by
 by_cases z:q=0
 ·have e:gA q Dl W X=fun i=>(Dl i*W i)*(fun _=>X) i:=by
   funext i
   unfold gA;rw [ak z,iT (W i)]
  rw [e,CT,l5];exact aZ (h.p z) (eO x1 (h.n2 z))
 ·have e:gA q Dl W X=fun _=>1000:=by
   funext i
   unfold gA;rw [ao z]
  rw [e,l5];refine aq (eO (by decide) h.n3) (aq (show 1000 ^ 3≤10 ^ 67 by decide +kernel) (ia _ (pL (by lia))))
theorem iO.ge(h:iO q n aa Dl W)(x1:1≤X)(i:Nat):1000≤gA q Dl W X i∧gA q Dl W X i≤10 ^ 43*X:=by
 unfold gA;by_cases z:q=0
 ·rw [ak z]
  have w:=h.w i;have d:=h.d i;refine ⟨aq (show 1000≤W i by lia) (aq (ia _ d.1) (ia _ x1)),d9 _ (aq (aZ w.2 d.2) (by decide +kernel))⟩
 ·rw [ao z]
  exact ⟨aH _,aq (show 1000≤10 ^ 43 by decide +kernel) (ia _ x1)⟩
variable {i:Nat} {rs:aD}
theorem iO.HG(h:iO q n aa Dl W)(hq:aB q)(hi:i<n)(hr:q=0→∃D:Int,1≤D∧D.natAbs≤X∧∀j,j<rs.length→∃x:Int,(rs.getD j o1).1*D=x*(rs.getD j o1).2∧x.natAbs≤X)(hc:∀p∈aa.getD i []++rs,Canon q p):eE q (gA q Dl W X i) (aa.getD i []++rs):=by
 unfold gA;by_cases z:q=0
 ·rw [ak z]
  subst z;obtain ⟨D,d1,d2,hx⟩:=hr rfl;exact Xf (h.v rfl i hi) d1 d2 hx hc (aH _) (by have:=(h.w i).1;lia)
 ·rw [ao z]
  exact zV hq z hc
theorem iO.N_(h:iO q n aa Dl W)(hq:aB q)(hi:i<n)(hc:∀p∈aa.getD i [],Canon q p):eE q (gA q Dl W 1 i) (aa.getD i []):=by
 have:=h.HG (X:=1) (rs:=[]) hq hi (fun _=>⟨1,by decide,by decide,fun j hj=>by cases hj⟩) (by simpa using hc)
 rw [List.append_nil] at this;exact this
theorem Yl{k:Nat}(hb:vC rs)(hp:∀p∈rs,1≤p.2)(l:rs.length=k)(k2:k≤2):∃D:Int,1≤D∧D.natAbs≤10 ^ 12∧∀j,j<rs.length→∃x:Int,(rs.getD j o1).1*D=x*(rs.getD j o1).2∧x.natAbs≤10 ^ 12:=by
 obtain ⟨D,x,d1,d2,hx⟩:=CH rs fun p h=>⟨(hb p h).1,hp p h,(hb p h).2⟩;have l2:1000 ^ rs.length≤10 ^ 6:=aq (eO (by decide) (show rs.length≤2 by lia)) (by decide)
 refine ⟨D,d1,aq d2 (aq l2 (by decide)),fun j hj=>⟨x j,(hx j hj).1,?_⟩⟩
 have:=(hx j hj).2;lia
end
def Ym(C:Addr):Sp:=fun vs H Q _=>∃(z a:Addr) (q:Int) (B P:Nat) (aa:aG) (G:Nat→Nat),vs=[.ref z,.ref a]∧fK C H z q∧aB q∧bE B H q a aa∧1000≤B∧B<2 ^ 2048∧1≤aa.length∧aa.length≤40∧(∀ps∈aa,ps.length=aa.length)∧(∀i,i<aa.length→eE q (G i) (aa.getD i []))∧(∀i,1000≤G i∧G i<2 ^ 2048)∧a9 aa.length G≤P∧aa.length*(bA aa.length*P)≤10 ^ 290∧oV q aa.length aa ∧
 ∀(r:Addr) (ps:aD) (f:Nat) (H':Hp),ah H H'→H r=none→aI (aa.length*(bA aa.length*P)) H' q r ps→ps.length=aa.length→kW q aa.length aa.length aa ps→f<aa.length→ps.getD f o1=(1,1)→Q (.ref r) H'
def Yn(C:Addr):Sp:=fun vs H Q _=>∃(z a b d:Addr) (q:Int) (aa af:aG) (as:aD) (n k:Nat) (DA WA DB WB:Nat→Nat),vs=[.ref z,.ref a,.ref b,.ref d]∧fK C H z q∧aB q∧bE (10 ^ 60) H q a aa∧bE (10 ^ 60) H q b af∧aI (10 ^ 6) H q d as∧vC as∧aa.length=n∧af.length=k∧(∀ps∈aa,ps.length=n)∧(∀ps∈af,ps.length=k)∧1≤n∧1≤k∧as.length=n*k∧iO q n aa DA WA∧iO q k af DB WB ∧
 (∀(tp r:Addr) (s:Int) (ws:aD) (f:Nat) (H':Hp),ah H H'→H' tp=some (.tup [.str (Str.ofString "loose"),.int s,.ref r])→H r=none→aI (10 ^ 255) H' q r ws→ws.length=n*k→kW q (n*k) (n*k) (dG q n n k k aa af) ws→f<n*k→ws.getD f o1=(1,1)→(s=0∧oV q n aa)∨(s=1∧oX q n aa∧oV q k af)→Q (.ref tp) H') ∧
 (∀(tp r:Addr) (xs:aD) (H':Hp),ah H H'→H' tp=some (.tup [.str (Str.ofString "one"),.ref r])→H r=none→aI (10 ^ 255) H' q r xs→xs.length=n*k→l6 q (n*k) (n*k) (dG q n n k k aa af) as xs→oX q n aa→oX q k af→Q (.ref tp) H')
def nE(q:Int)(n k:Nat)(vs es:aD):List (Int×Int):=(List.range (n*k)).map fun b=>mulQ q (vs.getD (b / k) o1) (es.getD (b % k) o1)
section
variable {q:Int} {n k B C:Nat} {H:Hp} {r a:Addr} {vs es ps:aD} {aa af bB:aG}
theorem C7:(nE q n k vs es).length=n*k:=by simp [nE]
theorem HH{b:Nat}(hb:b<n*k):(nE q n k vs es).getD b o1=mulQ q (vs.getD (b / k) o1) (es.getD (b % k) o1):=by unfold nE;rw [CW hb]
theorem aI.Oa(h:aI B H q a ps)(b1:1≤B)(z:q=0)(i:Nat):(ps.getD i o1).1.natAbs≤B∧(ps.getD i o1).2.natAbs≤B:=by
 by_cases hi:i<ps.length
 ·obtain ⟨us,v,_,_,_,hv⟩:=h.HB hi
  subst z;generalize ps.getD i o1=p at hv;obtain ⟨x,m⟩:=p;cases hv with
  | bH e l bx bm=>exact ⟨bx,bm⟩
  | rem h0 h1 h2=>lia
 ·rw [oR (by lia)]
  exact ⟨eJ _,b1⟩
theorem Yo(hq:aB q)(cv:∀p∈vs,Canon q p)(ce:∀p∈es,Canon q p):∀p∈nE q n k vs es,Canon q p:=fun p hp=>by unfold nE at hp;obtain ⟨b,_,rfl⟩:=eZ.mp hp;exact (qe hq (jr hq cv _) (jr hq ce _)).1
theorem Ob(hq:aB q)(h:lX H q r (n*k) fun j=>oQ (vs.getD (j / k) o1) (es.getD (j % k) o1))(cv:∀p∈vs,Canon q p)(ce:∀p∈es,Canon q p)(bv:q=0→∀i,(vs.getD i o1).1.natAbs≤B∧(vs.getD i o1).2.natAbs≤B)(be:q=0→∀i,(es.getD i o1).1.natAbs≤C∧(es.getD i o1).2.natAbs≤C)(B1:1000≤B)(C1:1≤C):aI (B*C) H q r (nE q n k vs es):=by
 obtain ⟨ws,e,l,f⟩:=h;refine ⟨ws,e,by rw [l,C7],fun j v p h1 h2=>?_⟩
 have hj:j<n*k:=by rw [←l];exact (aP.mp h1).1
 have ep:p=mulQ q (vs.getD (j / k) o1) (es.getD (j % k) o1):=by
  have di:j<(nE q n k vs es).length:=by rw [C7];exact hj
  rw [←HH hj,getD_at di];simpa [di] using h2.symm
 have x:=jr hq cv (j / k);have y:=jr hq ce (j % k);have c:=qe hq x y;have ok:=x.bot.mul y.bot;subst ep;refine HC hq (f j v h1) ok c.1 c.2 fun z=>?_;have b1:=bv z (j / k);have b2:=be z (j % k);exact MP hq ok (aq B1 (ia _ C1)) (by rw [bz];exact aZ b1.1 b2.1) (by rw [bz];exact aZ b1.2 b2.2)
theorem Oc(hq:aB q)(c1:fk q aa)(c2:fk q af)(hT:∃T D,cE q n n (atT aa) T D)(hS:∃S E,cE q k k (atT af) S E)(cv:∀p∈vs,Canon q p)(ce:∀p∈es,Canon q p)(lv:vs.length=n)(le:es.length=k)(mv:kW q n n aa vs∨kW q k k af es):kW q (n*k) (n*k) (dG q n n k k aa af) (nE q n k vs es):=by obtain ⟨T,D,hT⟩:=hT;obtain ⟨S,E,hS⟩:=hS;obtain ⟨V1,E1,h1⟩:=jZ (fun p hp=>(cv p hp).bot) lv;obtain ⟨V2,E2,h2⟩:=jZ (fun p hp=>(ce p hp).bot) le;refine Yk hq c1 c2 hT hS h1 h2 (fun b=>(jr hq (Yo hq cv ce) b).bot) (fun b hb=>?_) mv;rw [HH hb];have x:=jr hq cv (b / k);have y:=jr hq ce (b % k);exact ((qe hq x y).2).trans (Na (h1.2 _ (iJ hb)) (h2.2 _ (gN hb))) (x.bot.mul y.bot)
theorem Od(hq:aB q){f g:Nat}(hf:f<n)(hg:g<k)(e1:vs.getD f o1=(1,1))(e2:es.getD g o1=(1,1)):f*k+g<n*k∧(nE q n k vs es).getD (f*k+g) o1=(1,1):=by
 have h:f*k+g<n*k:=by have:(f+1)*k≤n*k:=d9 _ hf;rw [gT] at this;lia
 refine ⟨h,?_⟩;rw [HH h,lY hg,m4 hg,e1,e2];have c:=qe hq (C3 hq) (C3 hq);exact Cz hq c.1 (C3 hq) c.2
variable {i:Nat}
theorem C8(hq:aB q):∀p∈jV n i,Canon q p:=fun p hp=>by
 unfold jV at hp;obtain ⟨j,_,rfl⟩:=eZ.mp hp
 split
 ·exact C3 hq
 ·exact CV hq
theorem HI{j:Nat}:((jV n i).getD j o1).1.natAbs≤1∧((jV n i).getD j o1).2.natAbs≤1:=by
 by_cases hj:j<n
 ·rw [GD hj]
  split <;> decide
 ·rw [oR (by rw [qc];lia)]
  decide
theorem Yp:∀{aa:aG} {k j l:Nat},(∀ps∈aa,ps.length=k)→j<aa.length→l<k→aa.flatten.getD (j*k+l) o1=atT aa j l:=fun{aa}=>by
 induction aa with
 | nil=>intro k j l _ hj _;cases hj
 | cons x xs ih=>
  intro k j l w hj hl;have lx:=w x gB;rw [uW,cu];cases j with
  | zero=>
   rw [fD (by lia),Nat.zero_mul,uY,←cu]
   rfl
  | succ j=>
   have e:(j+1)*k+l=x.length+(j*k+l):=by rw [gT,lx];lia
   rw [fN (by lia),e,show x.length+(j*k+l)-x.length=j*k+l by lia,←cu,ih (fun ps hp=>w ps (gg _ hp)) (by simpa using hj) hl]
   rfl
theorem Yq(w:∀ps∈aa,ps.length=k):aa.flatten.length=aa.length*k:=by
 induction aa with
 | nil=>simp
 | cons x xs ih=>rw [uW,iS,ih fun ps hp=>w ps (gg _ hp),w x gB,cS,gT];lia
end
end My
namespace L2
open PySem PySem.Spec PyProof.Rows
def vI(K:aJ)(H:Hp):Nat→V→V→Bool→Prop
 | 0,v,u,b=>f_ v=true∧f_ u=true∧b=gc v u
 | n+1,v,u,b=>(f_ v=true∧f_ u=true∧b=gc v u)∨∃a c xs ys e,v=.ref a∧u=.ref c∧(a=c→b=true)∧((bP K H a xs∧bP K H c ys)∨(fX K H a xs∧fX K H c ys))∧xs.length=ys.length∧(∀(j:Nat) (x y:V),xs[j]?=some x→ys[j]?=some y→vI K H n x y (e j))∧b=(List.range xs.length).all e
section
variable {X:Cx} {pins:bM} {σ:St} {H:Hp} {s:Shared}
theorem C9{xs ys:List V}{us vs:List Value}(r1:Vals xs us)(r2:Vals ys vs){j:Nat}(h1:j<us.toArray.size)(h2:j<vs.toArray.size):∃x y,xs[j]?=some x∧ys[j]?=some y∧RelV x us.toArray[j]∧RelV y vs.toArray[j]:=by
 have zF:j<us.length:=by simpa using h1
 have zG:j<vs.length:=by simpa using h2
 have l1:=r1.length;have l2:=r2.length;obtain ⟨x,ex⟩:∃x,xs[j]?=some x:=⟨xs[j],by simp [show j<xs.length by lia]⟩
 obtain ⟨y,ey⟩:∃y,ys[j]?=some y:=⟨ys[j],by simp [show j<ys.length by lia]⟩
 obtain ⟨x',ko,rx⟩:=r1.get ex;obtain ⟨y',lT,ry⟩:=r2.get ey;have e1:us.toArray[j]=x':=by simpa using (aP.mp ko).2
 have e2:vs.toArray[j]=y':=by simpa using (aP.mp lT).2
 exact ⟨x,y,ex,ey,by rw [e1];exact rx,by rw [e2];exact ry⟩
theorem HJ(I:Inv X pins σ H s):∀(n:Nat) (A:Around) (v u:V) (a b:Value) (e:Bool),vI X.K H n v u e→RelV v a→RelV u b→A.units+n<cLine→SeqAt.EqAt A s a b e
 | 0,A,v,u,a,b,e,h,ra,rb,hu=>by obtain ⟨h1,h2,rfl⟩:=h;exact rF (A:=A) (s:=s) ra rb h1 h2
 | n+1,A,v,u,a,b,e,h,ra,rb,hu=>by
  rcases h with ⟨h1,h2,rfl⟩ | ⟨p,q,xs,ys,e',rfl,rfl,Yr,hs,hl,hi,rfl⟩;·exact rF (A:=A) (s:=s) ra rb h1 h2
  ·cases ra
   cases rb;by_cases pq:p=q
   ·rw [Yr pq]
    subst pq;exact SeqAt.EqAt.same _
   rcases hs with ⟨h1,h2⟩ | ⟨h1,h2⟩
   ·obtain ⟨us,r1,t1,_⟩:=I.list h1
    obtain ⟨vs,r2,t2,_⟩:=I.list h2;have l1:=r1.length;have l2:=r2.length;have z:=SeqAt.RcAt.lists (A:=A) (e:=e') t1.isList t2.isList (by simp;lia) (by lia) (fun j z1 z2=>by obtain ⟨x,y,ex,ey,rx,ry⟩:=C9 r1 r2 z1 z2;exact HJ I n A.in1 x y _ _ _ (hi j x y ex ey) rx ry (by rw [pJ];lia))
    rw [show us.toArray.size=xs.length by simp;lia] at z
    exact By pq z
   ·obtain ⟨us,r1,t1,_⟩:=I.tuple h1
    obtain ⟨vs,r2,t2,_⟩:=I.tuple h2;have l1:=r1.length;have l2:=r2.length;have z:=SeqAt.RcAt.tuples (A:=A) (e:=e') t1 t2 (by lia) (fun j z1 z2=>by obtain ⟨x,y,ex,ey,rx,ry⟩:=C9 r1 r2 z1 z2;exact HJ I n A.in1 x y _ _ _ (hi j x y ex ey) rx ry (by rw [pJ];lia))
    have e3:(us.toArray.size == vs.toArray.size)=true:=by simp;lia
    rw [e3,Bool.and_true,show min us.toArray.size vs.toArray.size=xs.length by simp;lia] at z
    exact By pq z
end
section
variable {X:Cx}
def Ys(K:aJ)(n:Nat)(r:Bool→Bool):R2:=fun x y H Q=>∃a b xs ys e,x=.ref a∧y=.ref b∧bP K H a xs∧bP K H b ys∧xs.length=ys.length∧(∀(j:Nat) (x y:V),xs[j]?=some x→ys[j]?=some y→vI K H n x y (e j))∧Q (.bl (r ((List.range xs.length).all e))) H
variable {n:Nat}
theorem Yt(hu:X.A.units+64<cLine)(hn:n<60:=by decide):cT X (compareOp .Eq) (Ys X.K n id):=by
 intro pins s σ H x y v u Q I rx ry h;obtain ⟨a,b,xs,ys,e,rfl,rfl,h1,h2,hl,hi,q⟩:=h;cases rx;cases ry;obtain ⟨us,r1,t1,_⟩:=I.list h1;obtain ⟨vs,r2,t2,_⟩:=I.list h2;have l1:=r1.length;have l2:=r2.length;refine SeqAt.eq_listAt (e:=e) t1.isList t2.isList (by simp;lia) (by lia) (fun j z1 z2=>?_) ?_
 ·obtain ⟨x,y,ex,ey,rx,ry⟩:=C9 r1 r2 z1 z2
  exact HJ I n X.A.in1 x y _ _ _ (hi j x y ex ey) rx ry (by rw [pJ];lia)
 ·rw [show us.toArray.size=xs.length by simp;lia]
  exact ⟨.bl ((List.range xs.length).all e),H,I,rfl,q⟩
def Yu(K:aJ)(n:Nat)(r:Bool):R2:=fun x y H Q=>∃a b xs ys,x=.ref a∧y=.ref b∧fX K H a xs∧fX K H b ys∧xs.length=ys.length∧(∀(j:Nat) (x y:V),xs[j]?=some x→ys[j]?=some y→sj K H n x y)∧Q (.bl r) H
theorem Yv(hu:X.A.units+64<cLine)(hn:n<60:=by decide):cT X (compareOp .Eq) (Yu X.K n true):=by
 intro pins s σ H x y v u Q I rx ry h;obtain ⟨a,b,xs,ys,rfl,rfl,h1,h2,hl,hi,q⟩:=h;cases rx;cases ry;obtain ⟨us,r1,t1,_⟩:=I.tuple h1;obtain ⟨vs,r2,t2,_⟩:=I.tuple h2;have l1:=r1.length;have l2:=r2.length;refine SeqAt.eq_tupleAt (e:=fun _=>true) t1 t2 (by lia) (fun j z1 z2=>?_) ⟨.bl true,H,I,?_,q⟩
 ·obtain ⟨x,y,ex,ey,rx,ry⟩:=C9 r1 r2 z1 z2
  exact zE I n X.A.in1 x y _ _ (hi j x y ex ey) rx ry (by rw [pJ];lia)
 ·have e3:(us.toArray.size == vs.toArray.size)=true:=by simp;lia
  rw [all_range,e3];rfl
end
end L2
namespace My
open PySem L2
section
variable {q:Int} {n k N X:Nat} {H:Hp} {aa af bB:aG} {as xs ys ps:aD}
variable {p:Int×Int}
theorem Yw{K:aJ}{v u:V}(h:bZ X H q v p.1 p.2)(hu:cJ H q u 0 1):∃b,vI K H 2 v u b∧(b=true→p.1=0):=by
 obtain ⟨x,m⟩:=p;dsimp only at h ⊢;cases h with
 | bH e l bx bm=>
  rename_i a
  cases hu with
  | bH e2 l2 hb h=>
   rename_i r t d
   refine ⟨(List.range 2).all fun j=>gc ([V.int x,V.int m].getD j .aY) ([V.int t,V.int d].getD j .aY),.inr ⟨a,r,[.int x,.int m],[.int t,.int d],_,rfl,rfl,fun ar=>?_,.inr ⟨.of e,.of e2⟩,rfl,fun j y z h1 h2=>.inl ?_,rfl⟩,fun hb=>?_⟩
   ·subst ar
    rw [e] at e2;cases e2;show ((x == x) && ((m == m) && true))=true;simp
   ·match j,h1,h2 with
    | 0,h1,h2=>cases h1;cases h2;exact ⟨rfl,rfl,rfl⟩
    | 1,h1,h2=>cases h1;cases h2;exact ⟨rfl,rfl,rfl⟩
   ·have hb:((x == t) && ((m == d) && true))=true:=hb
    simp at hb;lia
  | rem q2 _ _ _ _=>lia
 | rem h0 h1 h2=>
  cases hu with
  | bH e2 l2 hb h=>lia
  | rem q2 g0 g1 g h=>
   rename_i r
   refine ⟨x == r,.inl ⟨rfl,rfl,rfl⟩,fun hb=>?_⟩;have hb:x=r:=by simpa using hb
   obtain ⟨c,hc⟩:=h;have:r=0:=by
    refine gE fun ne=>?_;have dv:q∣r:=⟨c,by lia⟩
    have:=uX (by lia) dv
    lia
   lia
variable {T:aC} {D:Int}
theorem Yx(hq:aB q)(hT:cE q N N (atT bB) T D)(nk:∀x:Nat→Int,(∀t,t<N→Cg q (ag N fun j=>T t j*x j) 0)→∀c,c<N→Cg q (x c) 0)(ba:∀p∈as,aF q p.2)(la:as.length=N)(cx:∀p∈xs,Canon q p)(cy:∀p∈ys,Canon q p)(lx:xs.length=N)(ly:ys.length=N)(h1:l6 q N N bB as xs)(h2:l6 q N N bB as ys):xs=ys:=by
 obtain ⟨a,F,ra⟩:=jZ ba la;obtain ⟨X,E,rX⟩:=jZ (fun p hp=>(cx p hp).bot) lx;obtain ⟨Y,G,rY⟩:=jZ (fun p hp=>(cy p hp).bot) ly;have j6:=nk (fun j=>X j*G-Y j*E) fun t ht=>by
  refine fi hq (ra.1.nz hq) ?_;have e:(F*ag N fun j=>T t j*(X j*G-Y j*E))=G*(F*ag N fun j=>T t j*X j)-E*(F*ag N fun j=>T t j*Y j):=by rw [a8,a8,a8,a8,a8,←GU];exact cm fun j _=>by grind
  rw [e];obtain ⟨c1,e1⟩:=h1 T D a F X E hT ra rX t ht;obtain ⟨c2,e2⟩:=h2 T D a F Y G hT ra rY t ht;exact ⟨G*c1-E*c2,by grind⟩
 refine uZ (by lia) fun j g1 g2=>?_
 have hj:j<N:=by lia
 have c1:=cx _ (aQ g1);have c2:=cy _ (aQ g2);have w1:aO q (xs.getD j o1) (X j,E):=rX.2 j hj;have w2:aO q (ys.getD j o1) (Y j,G):=rY.2 j hj;rw [getD_at g1] at w1;rw [getD_at g2] at w2;refine Cz hq c1 c2 (w1.trans (aO.trans (t:=(Y j,G)) ?_ w2.symm rY.1) rX.1);obtain ⟨c,e⟩:=j6 j hj;exact ⟨c,by dsimp only at e ⊢;lia⟩
theorem Yy(hq:aB q)(hT:cE q N N (atT bB) T D)(ba:∀p∈as,aF q p.2)(la:as.length=N)(cx:∀p∈xs,aF q p.2)(cy:∀p∈ys,aF q p.2)(lx:xs.length=N)(ly:ys.length=N)(h1:l6 q N N bB as xs)(h2:CM q N N bB as ys):False:=by
 obtain ⟨a,F,ra⟩:=jZ ba la;obtain ⟨X,E,rX⟩:=jZ cx lx;obtain ⟨Y,G,rY⟩:=jZ cy ly;obtain ⟨b1,b2⟩:=h2 T D a F Y G hT ra rY;have z0:Cg q (ag N fun j=>(ag N fun t=>Y t*T t j)*X j) 0:=by
  have:=cU (q:=q) (n:=N) (f:=fun j=>(ag N fun t=>Y t*T t j)*X j) (g:=fun _=>0) fun j hj=>by have:=(b1 j hj).mulR (X j);rw [gX] at this;exact this
  rw [e_] at this;exact this
 have z1:(ag N fun j=>(ag N fun t=>Y t*T t j)*X j)=ag N fun t=>Y t*ag N fun j=>T t j*X j:=by
  rw [cm (g:=fun j=>ag N fun t=>Y t*T t j*X j) fun j _=>by rw [d5,a8];exact cm fun t _=>by grind,vw]
  exact cm fun t _=>by rw [a8];exact cm fun j _=>by grind
 have z2:Cg q (F*ag N fun t=>Y t*ag N fun j=>T t j*X j) (D*E*ag N fun t=>Y t*a t):=by rw [a8,a8];refine cU fun t ht=>?_;have:=(h1 T D a F X E hT ra rX t ht).mulL (Y t);exact (Cg.of_eq (by grind)).trans (this.trans (Cg.of_eq (by grind)))
 rw [z1] at z0;have z3:=z0.mulL F;rw [bU] at z3;have z4:Cg q (D*E*(G*F)) 0:=((b2.symm).mulL (D*E)).trans (z2.symm.trans z3);have nz:=((hT.1.mul rX.1).mul (rY.1.mul ra.1)).nz hq;obtain ⟨c,e⟩:=z4;exact nz ⟨c,by omega⟩
theorem Oe{D1 V1 D2 V2:Nat}{ws:aD}(cx:∀p∈xs,Canon 0 p)(cy:∀p∈ys,Canon 0 p)(h1:cM D1 V1 xs)(h2:cM D2 V2 ys)(lx:xs.length=n)(ly:ys.length=k)(lw:ws.length=n*k)(hw:∀b,b<n*k→ws.getD b o1=mulQ 0 (xs.getD (b / k) o1) (ys.getD (b % k) o1)):cM (D1*D2) (V1*V2) ws:=by
 obtain ⟨D,x,d1,d2,hx⟩:=h1;obtain ⟨D',y,e1,e2,hy⟩:=h2;refine ⟨D*D',fun b=>x (b / k)*y (b % k),d6 (show 0<D by omega) (show 0<D' by omega),by rw [bz];exact aZ d2 e2,fun b hb=>?_⟩
 have dW:b<n*k:=by omega
 have i1:=iJ dW;have i2:=gN dW;obtain ⟨x1,x2⟩:=hx (b / k) (by omega)
 obtain ⟨y1,y2⟩:=hy (b % k) (by omega)
 rw [hw b dW];have a1:=jr (.inl rfl) cx (b / k);have a2:=jr (.inl rfl) cy (b % k);obtain ⟨_,w⟩:=qe (.inl rfl) a1 a2;generalize mulQ 0 (xs.getD (b / k) o1) (ys.getD (b % k) o1)=r at w ⊢;have p1:=a1.bot.1 rfl;have p2:=a2.bot.1 rfl;generalize xs.getD (b / k) o1=p at x1 w p1;generalize ys.getD (b % k) o1=s at y1 w p2;obtain ⟨c,hc⟩:=w;dsimp only at hc;rw [gX] at hc;have hc:r.1*(p.2*s.2)=p.1*s.1*r.2:=by omega
 refine ⟨?_,?_⟩
 ·have nz:p.2*s.2≠0:=pI (by omega) (by omega)
  refine lg nz ?_;have e:p.2*s.2*(r.1*(D*D'))=r.1*(p.2*s.2)*(D*D'):=by grind
  rw [e,hc,show p.1*s.1*r.2*(D*D')=(p.1*D)*(s.1*D')*r.2 by grind,x1,y1]
  grind
 ·rw [bz,bz]
  exact aq (aZ x2 y2) (ki (by ac_rfl))
theorem Yz{Dl V:Nat}(h:cM Dl V ps)(v6:10 ^ 6≤V)(hp:p.1.natAbs≤10 ^ 6∧p.2.natAbs≤1000)(p1:1≤p.2)(hc:∀r∈ps++[p],Canon 0 r)(d1:1≤Dl):eE 0 (Dl*V*1000) (ps++[p]):=by
 obtain ⟨D,x,a1,a2,hx⟩:=h;refine (show cM (Dl*1000) V (ps++[p]) from ⟨D*p.2,fun j=>if j<ps.length then x j*p.2 else p.1*D,d6 (show 0<D by omega) (show 0<p.2 by omega),by rw [bz];exact aZ a2 hp.2,fun j hj=>?_⟩).e hc (ki (by ac_rfl)) (by omega)
 dsimp only;by_cases y:j<ps.length
 ·rw [ak y,cu,fD y,←cu]
  obtain ⟨e1,e2⟩:=hx j y;refine ⟨by rw [←h_,e1];grind,?_⟩
  rw [bz,bz,←jA];exact d9 _ e2
 ·have ej:j=ps.length:=by rw [iS] at hj;simp at hj;omega
  subst ej;rw [ao y,cu,fN (aH _),mF];refine ⟨by show p.1*(D*p.2)=p.1*D*p.2;grind,?_⟩
  rw [bz,bz];refine aZ (aq hp.1 v6) (ia _ (by omega))
theorem Of(f:Nat→Nat)(a:Nat):∀b,a9 (a+b) f=a9 a f*a9 b fun i=>f (a+i)
 | 0=>by simp [a9]
 | b+1=>by show a9 (a+b) f*f (a+b)=_;rw [Of f a b,jA];rfl
theorem Og{f g:Nat→Nat}{k:Nat}(k1:1≤k):∀n,a9 (n*k) (fun i=>f (i / k)*g (i % k))=a9 n f ^ k*a9 k g ^ n
 | 0=>by simp [a9]
 | n+1=>by
  rw [gT,Of,Og k1 n,lZ (f:=fun i=>f ((n*k+i) / k)*g ((n*k+i) % k)) (g:=fun i=>(fun _=>f n) i*g i) fun i hi=>by rw [lY hi,m4 hi],CT,l5]
  show _=(a9 n f*f n) ^ k*(a9 k g ^ n*a9 k g);rw [Nat.mul_pow]
  ac_rfl
end
inductive qm (q:Int) (N X:Nat) (bB:aG) (as:aD) (H:Hp) (p:Addr):Int→Prop where
 | one (l:Int) (r:Addr) (xs:aD) (l0:l<0) (e:H p=some (.tup [.str (Str.ofString "one"),.ref r])) (hx:aI X H q r xs) (lx:xs.length=N) (sol:l6 q N N bB as xs) (nk:∀T D,cE q N N (atT bB) T D→∀x:Nat→Int,(∀t,t<N→Cg q (ag N fun j=>T t j*x j) 0)→∀c,c<N→Cg q (x c) 0):qm q N X bB as H p l
 | loose (l:Int) (r:Addr) (ws:aD) (f:Nat) (l0:0≤l) (e:H p=some (.tup [.str (Str.ofString "loose"),.int l,.ref r])) (hx:aI X H q r ws) (lx:ws.length=N) (mv:kW q N N bB ws) (hf:f<N) (ef:ws.getD f o1=(1,1)):qm q N X bB as H p l
theorem qm.mono{q l:Int}{N X:Nat}{bB:aG}{as:aD}{H H':Hp}{p:Addr}(h:qm q N X bB as H p l)(s:ah H H'):qm q N X bB as H' p l:=by
 cases h with
 | one r xs l0 e hx lx sol nk=>exact .one l r xs l0 (s _ _ e) (hx.mono s) lx sol nk
 | loose r ws f l0 e hx lx mv hf ef=>exact .loose l r ws f l0 (s _ _ e) (hx.mono s) lx mv hf ef
def YA:Sp:=fun vs H Q _=>∃(a b p:Addr) (q l:Int) (B X N:Nat) (bB:aG) (as:aD),vs=[.int q,.ref a,.ref b,.int l,.ref p]∧aB q∧bE B H q a bB∧aI B H q b as∧bB.length=N∧(∀ps∈bB,ps.length=N)∧1≤N∧N≤40∧as.length=N∧1≤B∧1000≤X∧X<2 ^ 2048∧(q=0→40*(B*X) ^ N<2 ^ 8192)∧qm q N X bB as H p l∧∀H',ah H H'→Q (.bl true) H'
structure Oh (q:Int) (N B:Nat) (bB:aG) (as:aD) (P P2:Nat) (G G2:Nat→Nat):Prop where
 b1:1000≤B
 b2:B<2 ^ 2048
 hE:∀i,i<N→eE q (G i) ((fc bB as).getD i [])
 hG:∀i,1000≤G i∧G i<2 ^ 2048
 hP:a9 N G≤P
 hX:N*(bA N*P)≤10 ^ 290
 HK:∀i,i<N+1→eE q (G2 i) ((fL N bB as).getD i [])
 HL:∀i,1000≤G2 i∧G2 i<2 ^ 2048
 z9:a9 (N+1) G2≤P2
 YB:(N+1)*(bA (N+1)*P2)<2 ^ 2048
def YC(C:Addr):Sp:=fun vs H Q _=>∃(z a b p:Addr) (q l:Int) (B X N P P2:Nat) (bB:aG) (as:aD) (G G2:Nat→Nat),vs=[.ref z,.ref a,.ref b,.ref p]∧fK C H z q∧aB q∧bE B H q a bB∧aI B H q b as∧bB.length=N∧(∀ps∈bB,ps.length=N)∧1≤N∧N≤30∧as.length=N∧Oh q N B bB as P P2 G G2∧qm q N X bB as H p l∧∀H',ah H H'→Q (.bl true) H'
section
variable {q:Int} {n k:Nat} {aa af:aG} {as:aD} {Dl W DA WA DB WB:Nat→Nat}
variable {j:Nat}
theorem C_{i:Nat}(hi:i<aa.length):(aa.map fun ps=>ps.getD j ((0:Int),(1:Int))).getD i o1=atT aa i j:=by
 unfold atT;rw [getD_at (by simpa using hi),jz,getD_at hi]
 rfl
theorem iO.Oi(h:iO 0 n aa Dl W)(ln:aa.length=n)(wd:∀ps∈aa,ps.length=n)(hj:j<n):cM (10 ^ 48) (4*10 ^ 18) (aa.map fun ps=>ps.getD j (0,1)):=by
 obtain ⟨E,e1,e2,e3⟩:=NZ (V:=4*10 ^ 18) (Dl:=Dl) (p:=fun i=>atT aa i j) n fun i hi=>by
  obtain ⟨D,x,a1,a2,hx⟩:=h.v rfl i hi;have l:(aa.getD i []).length=n:=by rw [getD_at (by omega)];exact wd _ (aQ _)
  obtain ⟨b1,b2⟩:=hx j (by omega)
  exact ⟨D,x j,a1,a2,b1,aq b2 (d9 _ (h.w i).2)⟩
 obtain ⟨f,hf⟩:=m7 (n:=n) (α:=Int) (R:=fun i y=>(atT aa i j).1*E=y*(atT aa i j).2∧y.natAbs≤4*10 ^ 18*E.natAbs) e3;refine ⟨E,f,e1,aq e2 (aq (NY (g:=fun _=>10 ^ 24) fun i _=>(h.d i).2) ?_),fun i hi=>?_⟩
 ·rw [l5]
  exact aq (eO (by decide) (h.n2 rfl)) (by decide +kernel)
 ·rw [bL] at hi
  rw [C_ hi];exact hf i (by omega)
theorem YD(hq:aB q)(fM:iO q n aa DA WA)(fo:iO q k af DB WB)(cA:fk q aa)(cB:fk q af)(ln:aa.length=n)(lk:af.length=k)(wA:∀ps∈aa,ps.length=n)(wB:∀ps∈af,ps.length=k)(n1:1≤n)(k1:1≤k)(ca:∀p∈as,Canon q p)(na:vC as)(la:as.length=n*k):∃P P2 G G2,Oh q (n*k) (10 ^ 60*10 ^ 60) (dG q n n k k aa af) as P P2 G G2:=by
 have z_:n*k≤9:=aZ fM.n3 fo.n3;have cW:=zY (n:=n) (m:=n) (k:=k) (u:=k) hq cA cB;have lW:(dG q n n k k aa af).length=n*k:=CY;have wW:=CZ (q:=q) (n:=n) (m:=n) (k:=k) (u:=k) (aa:=aa) (af:=af);have HM:a9 (n*k) (fun i=>if q=0 then (DA (i / k)*DB (i % k))*(WA (i / k)*WB (i % k))*1000 else 1000)≤10 ^ 280:=by
  by_cases z:q=0
  ·have vJ:n*k≤4:=aZ (fM.n2 z) (fo.n2 z)
   rw [lZ (g:=fun i=>(fun i=>(fun i=>DA i*WA i) (i / k)*(fun i=>DB i*WB i) (i % k)) i*(fun _=>1000) i) fun i _=>by rw [ak z];dsimp only;ac_rfl,CT,l5]
   have e2:=Og (f:=fun i=>DA i*WA i) (g:=fun i=>DB i*WB i) k1 n;dsimp only at e2 ⊢;rw [e2];refine aq (aZ (aZ (Nat.pow_le_pow_left (fM.p z) _) (Nat.pow_le_pow_left (fo.p z) _)) (eO (by decide) vJ)) ?_
   refine aq (d9 _ (aZ (eO (by decide +kernel) (fo.n2 z)) (eO (by decide +kernel) (fM.n2 z)))) (by decide +kernel)
  ·rw [lZ (g:=fun _=>1000) fun i _=>ao z,l5]
   exact aq (eO (by decide) z_) (by decide +kernel)
 have z9:a9 (n*k+1) (fun i=>if q=0 then (if i<n*k then 10 ^ 134 else 10 ^ 18) else 1000)≤10 ^ 554:=by
  show a9 (n*k) _*(if q=0 then (if n*k<n*k then 10 ^ 134 else 10 ^ 18) else 1000)≤10 ^ 554
  rw [ao (gz _)];by_cases z:q=0
  ·have vJ:n*k≤4:=aZ (fM.n2 z) (fo.n2 z)
   rw [ak z,lZ (g:=fun _=>10 ^ 134) fun i hi=>by rw [ak z,ak hi],l5]
   exact aq (d9 _ (eO (by decide +kernel) vJ)) (by decide +kernel)
  ·rw [ao z,lZ (g:=fun _=>1000) fun i _=>ao z,l5]
   exact aq (d9 _ (eO (by decide) z_)) (by decide +kernel)
 have f9:=Yb z_;have YE:(n*k+1)*bA (n*k+1)≤10 ^ 9:=by
  have:∀r∈List.range 10,(r+1)*bA (r+1)≤10 ^ 9:=by decide
  exact this _ (fe.mpr (by omega))
 refine ⟨10 ^ 280,10 ^ 554,_,_,⟨by decide +kernel,by decide +kernel,fun i hi=>?_,fun i=>?_,HM,?_,fun i hi=>?_,fun i=>?_,z9,?_⟩⟩
 ·rw [XW lW la hi]
  have iM:∀r∈(dG q n n k k aa af).getD i []++[as.getD i o1],Canon q r:=fun r hr=>by
   rcases kh.mp hr with y | y;·exact z8 hq cW i r y
   ·rw [i8.mp y]
    exact jr hq ca i
  by_cases z:q=0
  ·rw [ak z]
   subst z;have ti:=iJ hi;have tc:=gN hi;have lA:(aa.getD (i / k) []).length=n:=by rw [getD_at (by omega)];exact wA _ (aQ _)
   have lB:(af.getD (i % k) []).length=k:=by rw [getD_at (by omega)];exact wB _ (aQ _)
   have rv:=Oe (ws:=(dG 0 n n k k aa af).getD i []) (z8 hq cA _) (z8 hq cB _) (fM.v rfl _ ti) (fo.v rfl _ tc) lA lB (by rw [N3 hi];simp) fun b hb=>C0 hi hb
   have i1:i<as.length:=by omega
   have mem:as.getD i o1∈as:=by rw [getD_at i1];exact aQ _
   refine Yz rv ?_ (na _ mem) ((ca _ mem).bot.1 rfl) iM (aZ (fM.d _).1 (fo.d _).1);exact aq (fM.w _).1 (ia _ (by have:=(fo.w (i % k)).1;omega))
  ·rw [ao z]
   exact zV hq z iM
 ·split
  ·have a1:=fM.d (i / k)
   have a2:=fM.w (i / k);have b1:=fo.d (i % k);have b2:=fo.w (i % k);refine ⟨fO _ (n8 (n8 a1.1 b1.1) (n8 (by omega) (by omega))),dq (d9 _ (aZ (aZ a1.2 b1.2) (aZ a2.2 b2.2))) (by decide +kernel)⟩
  ·exact ⟨aH _,by decide +kernel⟩
 ·rw [←jA]
  exact aq (d9 _ f9) (by decide +kernel)
 ·by_cases y:i<n*k
  ·rw [Nz y]
   have ti:=iJ y;have tc:=gN y;have iM:∀r∈(dG q n n k k aa af).map fun ps=>ps.getD i ((0:Int),(1:Int)),Canon q r:=fun r hr=>by obtain ⟨ps,hp,rfl⟩:=eZ.mp hr;exact jr hq (cW ps hp) i
   by_cases z:q=0
   ·rw [ak z,ak y]
    subst z;have c1:∀r∈aa.map fun ps=>ps.getD (i / k) ((0:Int),(1:Int)),Canon 0 r:=fun r hr=>by obtain ⟨ps,hp,rfl⟩:=eZ.mp hr;exact jr hq (cA ps hp) _
    have c2:∀r∈af.map fun ps=>ps.getD (i % k) ((0:Int),(1:Int)),Canon 0 r:=fun r hr=>by obtain ⟨ps,hp,rfl⟩:=eZ.mp hr;exact jr hq (cB ps hp) _
    have rv:=Oe (n:=n) (k:=k) (ws:=(dG 0 n n k k aa af).map fun ps=>ps.getD i ((0:Int),(1:Int))) c1 c2 (fM.Oi ln wA ti) (fo.Oi lk wB tc) (by rw [bL];exact ln) (by rw [bL];exact lk) (by rw [bL];exact lW) fun b hb=>by rw [C_ (by rw [lW];exact hb),C0 hb y,C_ (by rw [ln];exact iJ hb),C_ (by rw [lk];exact gN hb)]
    exact rv.e iM (by decide +kernel) (by decide)
   ·rw [ao z]
    exact zV hq z iM
  ·have e:i=n*k:=by omega
   subst e;rw [NA,ao y];by_cases z:q=0
   ·rw [ak z]
    subst z;have vJ:n*k≤4:=aZ (fM.n2 rfl) (fo.n2 rfl);refine (CH as fun p hp=>⟨(na p hp).1,(ca p hp).bot.1 rfl,(na p hp).2⟩).e ca ?_ (by decide)
    refine aq (gW _ (eO (by decide) (show as.length≤4 by omega))) (by decide +kernel)
   ·rw [ao z]
    exact zV hq z ca
 ·split
  ·split
   ·exact ⟨by decide +kernel,by decide +kernel⟩
   ·exact ⟨by decide +kernel,by decide +kernel⟩
  ·exact ⟨aH _,by decide +kernel⟩
 ·rw [←jA]
  exact dq (d9 _ YE) (by decide +kernel)
end
end My
set_option maxRecDepth 100000
set_option maxHeartbeats 4000000
namespace My
open PySem L2
def top(i:Nat):Stmt:=PySem.Challenge.pw_bandwright_k68_whole_twofold_undone.main.body.getD i (.Pass ⟨0,0,0,0⟩)
abbrev De:Stmt:=top 8
abbrev Df:Stmt:=top 9
abbrev Dg:Stmt:=top 10
abbrev Dh:Stmt:=top 11
abbrev Di:Stmt:=top 12
abbrev Dj:Stmt:=top 13
abbrev Dk:Stmt:=top 15
abbrev Dm:Stmt:=top 16
abbrev Dn:Stmt:=top 17
abbrev Dq:Stmt:=top 18
abbrev Ds:Stmt:=top 19
abbrev Dt:Stmt:=top 21
abbrev Du:Stmt:=top 22
abbrev Dv:Stmt:=top 23
abbrev Dw:Stmt:=top 24
abbrev Dx:Stmt:=top 25
abbrev Dy:Stmt:=top 26
abbrev Dz:Stmt:=top 27
abbrev DC:Stmt:=top 29
abbrev DD:Stmt:=top 30
abbrev DE:Stmt:=top 31
abbrev DF:Stmt:=top 32
abbrev DG:Stmt:=top 36
abbrev DH:Stmt:=top 38
abbrev DI:Stmt:=top 39
abbrev DJ:Stmt:=top 41
abbrev DK:Stmt:=top 42
abbrev DL:Stmt:=top 43
abbrev DM:Stmt:=top 44
abbrev DN:Stmt:=top 46
abbrev DO:Stmt:=top 48
abbrev DP:Stmt:=top 49
abbrev DQ:Stmt:=top 52
abbrev DR:Stmt:=top 53
abbrev DS:Stmt:=top 56
abbrev DT:Stmt:=top 57
abbrev DU:Stmt:=top 58
abbrev DV:Stmt:=top 59
abbrev DW:Stmt:=top 60
abbrev DX:Stmt:=top 61
abbrev DY:Stmt:=top 62
abbrev DZ:Stmt:=top 63
abbrev D3:Stmt:=top 64
abbrev D4:Stmt:=top 65
abbrev D5:Stmt:=top 66
abbrev D8:Stmt:=top 67
abbrev D9:Stmt:=top 68
abbrev D_:Stmt:=top 69
abbrev Ea:Stmt:=top 70
abbrev Eb:Stmt:=top 71
abbrev Ec:Stmt:=inClass (top 54) 0
abbrev kX:Stmt:=inClass (top 54) 3
abbrev Ed:Stmt:=inClass (top 54) 5
abbrev Ee:Stmt:=inClass (top 54) 6
abbrev Eg:Stmt:=inClass (top 54) 8
set_option genInjectivity false in
set_option genSizeOf false in
structure HN where
 sF:Addr
 vK:FuncData
 sG:Addr
 vL:FuncData
 sI:Addr
 vM:FuncData
 sJ:Addr
 vN:FuncData
 sL:Addr
 vO:FuncData
 sM:Addr
 vP:FuncData
 sN:Addr
 vQ:FuncData
 sO:Addr
 vR:FuncData
 sP:Addr
 vS:FuncData
 sQ:Addr
 vT:FuncData
 sR:Addr
 vU:FuncData
 sS:Addr
 vV:FuncData
 sU:Addr
 vW:FuncData
 sV:Addr
 vX:FuncData
 sW:Addr
 vY:FuncData
 sX:Addr
 vZ:FuncData
 sY:Addr
 v_:FuncData
 sZ:Addr
 wc:FuncData
 s_:Addr
 wg:FuncData
 td:Addr
 wj:FuncData
 tq:Addr
 wk:FuncData
 tu:Addr
 wo:FuncData
 tx:Addr
 wq:FuncData
 tD:Addr
 wt:FuncData
 tE:Addr
 wy:FuncData
 tF:Addr
 wz:FuncData
 tG:Addr
 wD:FuncData
 tH:Addr
 wF:FuncData
 tI:Addr
 wG:FuncData
 tJ:Addr
 wH:FuncData
 tK:Addr
 wI:FuncData
 tL:Addr
 wJ:FuncData
 tM:Addr
 wK:FuncData
 tN:Addr
 wL:FuncData
 tO:Addr
 wM:FuncData
 tP:Addr
 wN:FuncData
 tQ:Addr
 wO:FuncData
 tR:Addr
 wQ:FuncData
 tS:Addr
 wR:FuncData
 tT:Addr
 wV:FuncData
 tV:Addr
 wX:FuncData
 tW:Addr
 wY:FuncData
 qo:Addr
 tX:FuncData
 tY:Addr
 wZ:FuncData
 tZ:Addr
 w6:FuncData
 t4:Addr
 w9:FuncData
 t5:Addr
 w_:FuncData
 t6:Addr
 xc:FuncData
 t7:Addr
 xf:FuncData
 qp:Addr
 t8:FuncData
 t9:Addr
 xg:FuncData
 o5:Addr
 Aa:FuncData
 t_:Addr
 xh:FuncData
 ua:Addr
 xi:FuncData
 ub:Addr
 xj:FuncData
 cq:Addr
 uc:Addr
 nF:Addr
 jt:Addr
 xn:Addr
abbrev b6 (mg:dU) (x:Str) (f:Addr):Prop:=mg x=some (.ref f)
abbrev Eh (K:aJ) (a:Addr):Prop:=PySem.W.excIn K a [.type "ValueError",.type "Exception",.type "BaseException",.type "object"] "ValueError.__new__"=true
structure Txt (K:aJ) (mg:dU) (t:HN):Prop where
 kY:aL K "width" De t.sF t.vK
 qr:Binds K t.vK ["table"] []
 qs:b6 mg "width" t.sF
 qt:aL K "square_size" Df t.sG t.vL
 Ei:Binds K t.vL ["table"] []
 Ej:b6 mg "square_size" t.sG
 ud:aL K "check_aim" Dg t.sI t.vM
 HP:Binds K t.vM ["n","aim"] []
 HQ:b6 mg "check_aim" t.sI
 xo:aL K "column" Dh t.sJ t.vN
 Oj:Binds K t.vN ["table","place"] []
 Ol:b6 mg "column" t.sJ
 qu:aL K "columns" Di t.sL t.vO
 Ek:Binds K t.vO ["table"] []
 El:b6 mg "columns" t.sL
 ue:aL K "one_table_row" Dj t.sM t.vP
 HR:Binds K t.vP ["world","n","place"] []
 HS:b6 mg "one_table_row" t.sM
 xp:aL K "cleared" Dk t.sN t.vQ
 Om:Binds K t.vQ ["world","row","head","lead","last"] []
 Oo:b6 mg "cleared" t.sN
 xq:aL K "first_filled" Dm t.sO t.vR
 Oq:Binds K t.vR ["rows","start","lead"] []
 Ot:b6 mg "first_filled" t.sO
 xt:aL K "swapped" Dn t.sP t.vS
 Ou:Binds K t.vS ["rows","one","other"] []
 Ov:b6 mg "swapped" t.sP
 xu:aL K "row_over" Dq t.sQ t.vT
 Ow:Binds K t.vT ["world","row","lead"] []
 Ox:b6 mg "row_over" t.sQ
 o6:aL K "reduced" Ds t.sR t.vU
 Ab:Binds K t.vU ["world","table"] []
 Ac:b6 mg "reduced" t.sR
 qv:aL K "beside" Dt t.sS t.vV
 Em:Binds K t.vV ["table","other"] []
 En:b6 mg "beside" t.sS
 uf:aL K "answer_of" Du t.sU t.vW
 HU:Binds K t.vW ["world","rows","leads","wide"] []
 HV:b6 mg "answer_of" t.sU
 ug:aL K "move_of" Dv t.sV t.vX
 HW:Binds K t.vX ["world","rows","leads","wide","free"] []
 HX:b6 mg "move_of" t.sV
 xv:aL K "bar_of" Dw t.sW t.vY
 Oy:Binds K t.vY ["world","table","aim"] []
 Oz:b6 mg "bar_of" t.sW
 xy:aL K "undone" Dx t.sX t.vZ
 OA:Binds K t.vZ ["world","table","aim"] []
 OB:b6 mg "undone" t.sX
 uh:aL K "back_times" Dy t.sY t.v_
 HY:Binds K t.v_ ["world","table","other"] []
 HZ:b6 mg "back_times" t.sY
 uj:aL K "some_move" Dz t.sZ t.wc
 H_:Binds K t.wc ["world","table"] []
 Ia:b6 mg "some_move" t.sZ
 xA:aL K "check_sizes" DC t.s_ t.wg
 OC:Binds K t.wg ["one","other"] []
 OD:b6 mg "check_sizes" t.s_
 uk:aL K "twofold_row" DD t.td t.wj
 Ib:Binds K t.wj ["world","row","more"] []
 Ic:b6 mg "twofold_row" t.td
 xB:aL K "joined" DE t.tq t.wk
 OE:Binds K t.wk ["rows"] []
 OF:b6 mg "joined" t.tq
 xC:aL K "twofold_undone" DF t.tu t.wo
 OG:Binds K t.wo ["world","one","other","aim"] []
 OH:b6 mg "twofold_undone" t.tu
 xD:aL K "is_whole" DG t.tx t.wq
 OI:Binds K t.wq ["thing"] []
 OJ:b6 mg "is_whole" t.tx
 ma:aL K "common_divisor" DH t.tD t.wt
 um:Binds K t.wt ["one","other"] []
 uo:b6 mg "common_divisor" t.tD
 xF:aL K "is_prime" DI t.tE t.wy
 OK:Binds K t.wy ["number"] []
 OL:b6 mg "is_prime" t.tE
 xG:aL K "ratio" DJ t.tF t.wz
 OM:Binds K t.wz ["top","bottom"] []
 ON:b6 mg "ratio" t.tF
 xH:aL K "ratio_plus" DK t.tG t.wD
 OO:Binds K t.wD ["a","b"] []
 OP:b6 mg "ratio_plus" t.tG
 xI:aL K "ratio_minus" DL t.tH t.wF
 OQ:Binds K t.wF ["a","b"] []
 OR:b6 mg "ratio_minus" t.tH
 xJ:aL K "ratio_times" DM t.tI t.wG
 OS:Binds K t.wG ["a","b"] []
 OT:b6 mg "ratio_times" t.tI
 xK:aL K "one_bottom" DN t.tJ t.wH
 OU:Binds K t.wH ["row"] []
 OV:b6 mg "one_bottom" t.tJ
 xM:aL K "remainder_back" DO t.tK t.wI
 OW:Binds K t.wI ["prime","number"] []
 OX:b6 mg "remainder_back" t.tK
 xN:aL K "remainder_over" DP t.tL t.wJ
 OY:Binds K t.wJ ["prime","a","b"] []
 OZ:b6 mg "remainder_over" t.tL
 xO:aL K "is_fractions" DQ t.tM t.wK
 O0:Binds K t.wK ["told"] []
 O1:b6 mg "is_fractions" t.tM
 xP:aL K "is_wheel" DR t.tN t.wL
 O2:Binds K t.wL ["told"] []
 O3:b6 mg "is_wheel" t.tN
 me:aL K "_law_b_draw" DS t.tO t.wM
 uq:Binds K t.wM ["script","k"] []
 ur:b6 mg "_law_b_draw" t.tO
 o7:aL K "_law_b_low" DT t.tP t.wN
 Ad:Binds K t.wN ["top","bottom"] []
 Ae:b6 mg "_law_b_low" t.tP
 xQ:aL K "_law_b_prime" DU t.tQ t.wO
 O4:Binds K t.wO ["cell"] []
 O5:b6 mg "_law_b_prime" t.tQ
 xR:aL K "_law_b_wheel" DV t.tR t.wQ
 O6:Binds K t.wQ ["draw"] []
 O7:b6 mg "_law_b_wheel" t.tR
 xS:aL K "_law_b_world" DW t.tS t.wR
 O8:Binds K t.wR ["p"] []
 O9:b6 mg "_law_b_world" t.tS
 o8:aL K "_law_b_whole" DX t.tT t.wV
 Af:Binds K t.wV ["thing"] []
 Ag:b6 mg "_law_b_whole" t.tT
 xT:aL K "_law_b_is" DY t.tV t.wX
 O_:Binds K t.wX ["p","thing"] []
 Pa:b6 mg "_law_b_is" t.tV
 o9:aL K "_law_b_number" DZ t.tW t.wY
 Ah:Binds K t.wY ["p","draw"] []
 Ai:b6 mg "_law_b_number" t.tW
 mf:aL K "_law_b_dot" D3 t.qo t.tX
 uu:Binds K t.tX ["p","one","other"] []
 uv:b6 mg "_law_b_dot" t.qo
 uw:aL K "_law_b_is_row" D4 t.tY t.wZ
 Ie:Binds K t.wZ ["p","thing","many"] []
 Ig:b6 mg "_law_b_is_row" t.tY
 ux:aL K "_law_b_rank" D5 t.tZ t.w6
 Ih:Binds K t.w6 ["p","rows","many"] []
 Ii:b6 mg "_law_b_rank" t.tZ
 uy:aL K "_law_b_drawn" D8 t.t4 t.w9
 Ij:Binds K t.w9 ["script","p","n","m","head","at"] []
 Ik:b6 mg "_law_b_drawn" t.t4
 xU:aL K "_law_b_twofold" D9 t.t5 t.w_
 Pb:Binds K t.w_ ["p","one","other"] []
 Pc:b6 mg "_law_b_twofold" t.t5
 xV:aL K "_law_b_right" D_ t.t6 t.xc
 Pd:Binds K t.xc ["p","whole","aim","loose","found"] []
 Pe:b6 mg "_law_b_right" t.t6
 xW:aL K "_law_b_as_plainly" Ea t.t7 t.xf
 Pf:Binds K t.xf ["world","whole","aim","found"] []
 Pg:b6 mg "_law_b_as_plainly" t.t7
 xX:aL K "law" Eb t.qp t.t8
 YF:Binds K t.t8 ["script"] []
 Ph:b6 mg "law" t.qp
 Aj:fS K "__init__" "World.__init__" Ec t.t9 t.xg
 Il:Binds K t.xg ["self","told"] []
 Ak:Mk K t.cq t.t9
 Pj:jR K "of" "World.of" kX 1 t.o5 t.Aa
 Pk:Binds K t.Aa ["self","top","bottom"] []
 Al:∃v,Vals [V.int 1] [v]∧Binds K t.Aa ["self","top","bottom"] [v]
 YG:∀(s:Shared) (us ws:List Value),K.In s.heap→ws.length=1→us.length+1=(["self","top","bottom"]:List Str).length→BindsTo s t.Aa ⟨us,[("bottom":Str)].zip ws⟩ ((["self","top","bottom"]:List Str).zip (us++ws))
 nG:Meth K t.cq "of" t.o5
 Am:fS K "minus" "World.minus" Ed t.t_ t.xh
 Pl:Binds K t.xh ["self","a","b"] []
 Eo:Meth K t.cq "minus" t.t_
 An:fS K "times" "World.times" Ee t.ua t.xi
 Pm:Binds K t.xi ["self","a","b"] []
 Ep:Meth K t.cq "times" t.ua
 Ao:fS K "as_wholes" "World.as_wholes" Eg t.ub t.xj
 Pn:Binds K t.xj ["self","row"] []
 Er:Meth K t.cq "as_wholes" t.ub
 eX:lG K t.cq
 Im:b6 mg "World" t.cq
 ju:rB K t.cq "prime"
 Po:b6 mg "NoWorld" t.uc
 Io:b6 mg "NoOver" t.nF
 Ap:b6 mg "NoFit" t.jt
 YH:b6 mg "WrightError" t.xn
 dH:mg "len"=none
 nH:mg "isinstance"=none
 Ip:mg "int"=none
 Iq:mg "bool"=none
 Aq:mg "tuple"=none
 o_:mg "list"=none
 gP:mg "range"=none
 Ar:mg "abs"=none
 Ir:mg "all"=none
 Pp:mg "any"=none
 Pq:mg "sum"=none
 mh:mg "zip"=none
 Pr:mg "min"=none
 Pt:∃u,mg "GREATEST_PRIME"=some u∧RelV (.int 997) u
 Pu:∃u,mg "LONG"=some u∧RelV (.int 2048) u
 Pw:∃u,mg "MOST"=some u∧RelV (.int 40) u
 Px:Eh K t.uc
 Iu:Eh K t.nF
 As:Eh K t.jt
 YI:Eh K t.xn
section
variable {P:Program} {w:World} {K:aJ} {mg:dU} {base:Heap} {t:HN}
theorem YJ:bF ["thing"] ["thing"] (aU DG):=bY
theorem YK(T:Txt K mg t):a7 P w K mg base cz 1 t.tx t.wq ["thing"] Mh:=by
 have S:=YJ;refine T.xD.cN S (fun _ _ _ _ H _ Q _ hr h=>?_);obtain ⟨v,rfl,ha,k⟩:=h;refine ⟨_,(az (aR (rf (cD (oA (K:=K)) rfl T.nH boot_isinstance (ae (pv 0) (ae (ot (v:=.ty "int") rfl T.Ip boot_int rfl) ai))) (y6 (KZ (cD (oA (K:=K)) rfl T.nH boot_isinstance (ae (pv 0) (ae (ot (v:=.ty "bool") rfl T.Iq boot_bool rfl) ai)))))))),?_⟩;obtain ⟨Ty,ty,k1,k2,_⟩:=ha.zo (K:=K);refine ⟨_,rfl,_,_,_,_,rfl,rfl,ty,k1,_,rfl,cH (fun h1=>?_) (fun h1=>?_)⟩
 ·refine ⟨_,rfl,_,_,_,_,rfl,rfl,ty,k2,_,rfl,?_⟩
  have e:(!oI v)=jP v:=by
   cases h2:oI v with
   | true=>rw [Mf h2];rfl
   | false=>rw [h2,Bool.or_false] at h1;rw [h1];rfl
  show Q (.bl (!oI v)) H;rw [e];exact k
 ·have e:jP v=false:=by
   cases h2:jP v with
   | true=>rw [h2] at h1;exact absurd rfl h1
   | false=>rfl
  rw [e] at k;exact k
theorem YL:bF ["one","other","left","shorter"] ["one","other"] (aU DH):=bY
theorem xY(T:Txt K mg t):a7 P w K mg base cz 1 t.tD t.wt ["one","other"] US:=by
 have S:=YL;obtain ⟨uL,hL,rL⟩:=T.Pu;refine T.ma.cN S (fun _ _ _ _ H _ _ _ hr h=>?_);obtain ⟨a,b,rfl,mb,k⟩:=h
 refine ⟨_,(au (putL 0 S.nd (cD BX rfl T.Ar boot_abs (ae (pv 0) ai)))
  (au (putL 1 S.nd (cD BX rfl T.Ar boot_abs (ae (pv 1) ai)))
  (au (zc fP (bJ ze (pv 1) aj) (au (putL 2 S.nd (aw cV (pv 0) (pv 1)))
  (au (putL 0 S.nd (pv 1))
  (au (putL 1 S.nd (pv 2))
  (az (bQ (bJ ze (Tx PySem.F.plainAttrs_int PySem.F.slot_int_bit_length PySem.F.type_int_bit_length UJ (pv 0)) (BM (v:=.int 2048) rfl hL rL)) R6 bW))))))
  (az (aR (pv 0)))))),?_⟩
 refine ⟨_,rfl,a,rfl,_,rfl,b,rfl,fun m σ H'=>H'=H∧∃(x y:Nat) (v u:Option V),σ=[some (.int (x:Int)),some (.int (y:Int)),v,u]∧m=y∧y≤b.natAbs∧Nat.gcd x y=Int.gcd a b,⟨b.natAbs,rfl,a.natAbs,b.natAbs,none,none,?_,rfl,aH _,rfl⟩,?_⟩
 ·show [some (V.int (if a<0 then -a else a)),some (V.int (if b<0 then -b else b)),none,none]=_
  rw [Cf,Cf]
 ·rintro m σ H' ⟨rfl,x,y,v,u,rfl,em,hb,hg⟩
  refine ⟨_,rfl,_,_,rfl,rfl,_,rfl,cH (fun hy=>?_) (fun hy=>?_)⟩
  ·have hy:(0:Int)<y:=gD hy
   refine ⟨fun σ' H2=>H2=H'∧σ'=[some (.int (y:Int)),some (.int (((x % y:Nat)):Int)),some (.int (((x % y:Nat)):Int)),u],?_,?_⟩
   ·rintro σ' H2 ⟨rfl,rfl⟩
    exact ⟨x % y,by rw [em];exact Nat.mod_lt _ (by lia),rfl,y,x % y,_,_,rfl,rfl,aq (yA (Nat.mod_lt _ (by lia))) hb,by rw [Mg];exact hg⟩
   ·have hm:cC (y:Int):=dq (by rw [yL];exact hb) mb
    have uz:=UK hm;refine ⟨_,rfl,_,rfl,_,_,rfl,rfl,hy,_,rfl,_,rfl,_,rfl,rfl,_,rfl,rfl,_,_,rfl,rfl,_,rfl,cH (fun hz=>?_) (fun _=>⟨rfl,rfl⟩)⟩;have hz:=gD hz;exact absurd hz (by lia)
  ·have hy:¬(0:Int)<y:=fun z=>hy (dj z)
   have y0:y=0:=by lia
   subst y0;rw [Nat.gcd_zero_right] at hg;rw [←hg] at k;exact ⟨_,rfl,k⟩
theorem YM:bF ["number","divisor"] ["number"] (aU DI):=bY
theorem YN(T:Txt K mg t):a7 P w K mg base cz 1 t.tE t.wy ["number"] UT:=by
 have S:=YM;refine T.xF.cN S (fun _ _ _ _ H _ Q _ hr h=>?_);obtain ⟨n,rfl,YO,va,k⟩:=h
 refine ⟨_,(au (putL 1 S.nd aj)
  (au (zc fP (bJ BV (aw fG (pv 1) (pv 1)) (pv 0)) (au (bQ (bJ il (aw cV (pv 0) (pv 1)) aj) (az (aR kx)) bW)
  (az (Sd (i:=1) S.nd rfl (Or.inl rfl) aj Sg))))
  (az (aR (mP Sx (pv 0) aj))))),?_⟩
 refine ⟨fun m σ H'=>H'=H∧∃d:Int,σ=[some (.int n),some (.int d)]∧2≤d∧d≤32∧m=(33-d).toNat∧∀e:Int,2≤e→e<d→n % e≠0,⟨_,rfl,2,rfl,by lia,by lia,rfl,fun e a b=>by lia⟩,?_⟩
 rintro m σ H' ⟨rfl,d,rfl,h1,h2,rfl,h3⟩;refine ⟨_,rfl,_,rfl,_,_,rfl,rfl,.inl ⟨by lia,by lia⟩,_,rfl,_,_,rfl,rfl,_,rfl,cH (fun hq=>?_) (fun hq=>?_)⟩
 ·have hq:=gD hq
  have hd:d<32:=by
   by_cases z:d<32;·exact z
   ·have:d=32:=by lia
    subst this;lia
  refine ⟨fun σ' H2=>H2=H'∧σ'=[some (.int n),some (.int (d+1))]∧n % d≠0,?_,?_⟩
  ·rintro σ' H2 ⟨rfl,rfl,hm⟩
   refine ⟨(33-(d+1)).toNat,by lia,rfl,d+1,rfl,by lia,by lia,rfl,fun e a b=>?_⟩
   by_cases z:e=d;·subst z;exact hm
   ·exact h3 e a (by lia)
  ·refine ⟨_,rfl,_,rfl,_,_,rfl,rfl,(show (0:Int)<d by lia),rfl,_,rfl,cH (fun hm=>?_) (fun hm=>?_)⟩
   ·have hm:=V.int.inj (gD hm)
    rw [L8 va h1 hq hm] at k;exact k
   ·exact ⟨_,rfl,_,_,rfl,rfl,rfl,rfl,fun z=>hm (dj (hJ V.int z))⟩
 ·have hq:¬d*d≤n:=fun z=>hq (dj z)
  refine ⟨_,rfl,_,_,rfl,rfl,?_⟩;rw [Uw (n:=n) (d:=d) (by lia) h1 h3] at k
  have e:decide ((2:Int)≤n)=true:=dj YO;show Q (.bl (decide ((2:Int)≤n))) H';rw [e];exact k
theorem YQ:bF ["told"] ["told"] (aU DQ):=bY
theorem YR(T:Txt K mg t):a7 P w K mg base cz 1 t.tM t.wK ["told"] UU:=by
 have S:=YQ;refine T.xO.cN S (fun _ _ _ _ H _ _ _ hr h=>?_);obtain ⟨p,d,rfl,hp,k⟩:=h;refine ⟨_,(az (aR (rf (cD (oA (K:=K)) rfl T.nH boot_isinstance (ae (pv 0) (ae (ot (v:=.ty "tuple") rfl T.Aq boot_tuple rfl) ai))) (rf (mP il (cD dN rfl T.dH dI (ae (pv 0) ai)) aj) (y6 (mP il (aE bG (pv 0) aj) fV)))))),?_⟩;refine ⟨_,rfl,_,_,_,true,rfl,rfl,.of (.tup hp),zu,true,rfl,fg ?_⟩;cases d with
 | a x=>refine ⟨_,rfl,p,_,rfl,.inr (.of hp),rfl,true,rfl,fg ?_⟩;refine ⟨_,rfl,p,_,0,.str x,rfl,rfl,.of hp,rfl,rfl,?_⟩;rw [Gm];exact k
 | b x n=>exact ⟨_,rfl,p,_,rfl,.inr (.of hp),rfl,false,rfl,cP k⟩
theorem YS:bF ["told"] ["told"] (aU DR):=bY
theorem YT(T:Txt K mg t):a7 P w K mg base cz 2 t.tN t.wL ["told"] UW:=by
 have S:=YS;obtain ⟨uG,hG,rG⟩:=T.Pt;refine T.xP.cN S (fun _ _ _ _ H _ _ _ hr h=>?_);obtain ⟨p,d,rfl,hp,k⟩:=h
 refine ⟨_,(au (bQ (PW.pt (pw_or (kz (iW (cD (oA (K:=K)) rfl T.nH boot_isinstance (ae (pv 0) (ae (ot (v:=.ty "tuple") rfl T.Aq boot_tuple rfl) ai))))) (pw_or (bJ iE (cD dN rfl T.dH dI (ae (pv 0) ai)) aj) (pw_or1 (bJ iE (aE bG (pv 0) aj) fV))))) (az (aR kx)) bW)
  (az (aR (rf (aM (YK T) hr T.OJ T.xD.kp T.OI aX (ae (aE bG (pv 0) aj) ai)) (rf (Lg BV BV aj (aE bG (pv 0) aj) (BM (v:=.int 997) rfl hG rG)) (y6 (aM (YN T) hr T.OL T.xF.kp T.OK aX (ae (aE bG (pv 0) aj) ai)))))))),?_⟩
 refine ⟨_,rfl,_,_,_,true,rfl,rfl,.of (.tup hp),zu,true,rfl,cP ?_⟩;cases d with
 | a x=>exact ⟨_,rfl,p,_,rfl,.inr (.of hp),rfl,true,rfl,fg (fg k)⟩
 | b x n=>
  refine ⟨_,rfl,p,_,rfl,.inr (.of hp),rfl,false,rfl,cP ?_⟩;refine ⟨_,rfl,p,_,0,.str x,rfl,rfl,.of hp,rfl,rfl,_,rfl,cH (fun hw=>?_) (fun hw=>?_)⟩
  ·have hw:¬x="wheel":=by rw [Gm] at hw;simpa using hw
   have e:(Td.b x n).kJ=false:=by simp [Td.kJ,hw]
   rw [e] at k;exact k
  ·have hw:x="wheel":=by rw [Gm] at hw;simpa using hw
   refine ⟨_,rfl,p,_,1,.int n,rfl,rfl,.of hp,rfl,.int n,rfl,.int n,true,rfl,fg ?_⟩;refine ⟨_,rfl,p,_,1,.int n,rfl,rfl,.of hp,rfl,_,_,rfl,rfl,_,rfl,?_⟩;refine cH (fun h2=>?_) (fun h2=>?_)
   ·have h2:=gD h2
    refine ⟨_,_,rfl,rfl,_,rfl,cH (fun h3=>?_) (fun h3=>?_)⟩
    ·have h3:=gD h3
     refine ⟨_,rfl,p,_,1,.int n,rfl,rfl,.of hp,rfl,n,rfl,h2,h3,?_⟩;have e:(Td.b x n).kJ=iq n:=by simp [Td.kJ,hw,h2,h3]
     rw [e] at k;exact k
    ·have h3:¬n≤997:=fun z=>h3 (dj z)
     have e:(Td.b x n).kJ=false:=by simp [Td.kJ,h3]
     rw [e] at k;exact k
   ·have h2:¬2≤n:=fun z=>h2 (dj z)
    have e:(Td.b x n).kJ=false:=by simp [Td.kJ,h2]
    rw [e] at k;exact ⟨false,rfl,cP k⟩
theorem YU:bF ["self","told"] ["self","told"] (aU Ec):=bY
theorem YV(T:Txt K mg t):a7 P w K mg base (e8 P w) 3 t.t9 t.xg ["self","told"] (UX t.cq t.uc):=by
 have S:=YU;refine T.Aj.eR S (fun _ _ _ _ H _ _ _ hr h L=>?_);obtain ⟨x,dx,p,d,rfl,hx,hp,k1,k2⟩:=h;refine ⟨_,(az (bQ (iW (aM (YR T) hr T.O1 T.xO.kp T.O0 aX (ae (pv 1) ai))) (az (Lo (pv 0) ky rfl)) (az (bQ (iW (aM (YT T) hr T.O3 T.xP.kp T.O2 aX (ae (pv 1) ai))) (az (Lo (pv 0) (aE bG (pv 1) aj) rfl)) (az (rP L rfl qV T.Px rfl T.Po (ae fV ai))))))),?_⟩;refine ⟨_,rfl,p,d,rfl,hp,_,rfl,cH (fun hF=>?_) (fun hF=>?_)⟩
 ·refine ⟨_,rfl,x,t.cq,dx,[],rfl,hx,T.eX,T.ju,(by show 0<1000;decide),?_⟩
  have e:d.prime=.aY:=by
   cases d with
   | a x=>rfl
   | b x n=>cases hF
  have k:=k1 (by unfold Td.good;rw [hF];rfl)
  rw [e] at k;exact k
 ·have hF:d.zr=false:=by simpa using hF
  refine ⟨_,rfl,p,d,rfl,hp,_,rfl,cH (fun hW=>?_) (fun hW=>?_)⟩
  ·have k:=k1 (by unfold Td.good;rw [hW,Bool.or_true])
   cases d with
   | a x=>cases hW
   | b y n=>exact ⟨_,rfl,p,_,1,.int n,rfl,rfl,.of hp,rfl,_,rfl,x,t.cq,dx,[],rfl,hx,T.eX,T.ju,(by show 0<1000;decide),k⟩
  ·have hW:d.kJ=false:=by simpa using hW
   exact ⟨by show 1≤sizeLine;decide,k2 (by unfold Td.good;rw [hF,hW];rfl)⟩
theorem YW:bF ["top","bottom","shared"] ["top","bottom"] (aU DJ):=bY
theorem YX(T:Txt K mg t):a7 P w K mg base (e8 P w) 2 t.tF t.wz ["top","bottom"] (Vm t.nF):=by
 have S:=YW;refine T.xG.eR S (fun _ _ _ _ H _ _ _ hr h L=>?_);obtain ⟨a,b,rfl,mb,kE,k⟩:=h
 refine ⟨_,(au (bQ (bJ il (pv 1) aj) (az (rP L rfl qV T.Iu rfl T.Io (ae fV ai))) bW)
  (gk.rg (au (putL 2 S.nd (aM (xY T) hr T.uo T.ma.kp T.um aX (ae (pv 0) (ae (pv 1) ai))))
  (au (bQ (bJ iF (pv 1) aj) (az (putL 2 S.nd (FP FR (pv 2)))) bW)
  (az (aR (fZ (ae (aw Gj (pv 0) (pv 2)) (ae (aw Gj (pv 1) (pv 2)) ai))))))))),?_⟩
 have n2:2≤sizeLine:=by decide
 refine ⟨_,rfl,rfl,_,rfl,cH (fun hz=>?_) (fun hz=>?_)⟩
 ·have hz:b=0:=V.int.inj (gD hz)
  exact ⟨by show 1≤sizeLine;decide,kE hz⟩
 have hz:b≠0:=fun z=>hz (dj (by rw [z]))
 have ok:=UR (a:=a) hz mb;have kk:=k hz;unfold jS jT at kk;refine ⟨_,rfl,_,rfl,a,b,rfl,mb,_,rfl,_,_,rfl,rfl,_,rfl,cH (fun hn=>?_) (fun hn=>?_)⟩
 ·have hn:b<0:=gD hn
  have e:lowG a b=-(Int.gcd a b:Int):=by unfold lowG;rw [ak hn,Int.zero_sub]
  rw [e] at ok kk;refine ⟨_,rfl,_,rfl,_,rfl,_,rfl,_,_,rfl,rfl,ok,_,rfl,_,rfl,_,_,rfl,rfl,ok,n2,fun r hr=>kk r _ (aS hr) aA⟩
 ·have hn:¬b<0:=fun z=>hn (dj z)
  have e:lowG a b=(Int.gcd a b:Int):=by unfold lowG;rw [ao hn]
  rw [e] at ok kk;refine ⟨_,rfl,_,rfl,_,_,rfl,rfl,ok,_,rfl,_,rfl,_,_,rfl,rfl,ok,n2,fun r hr=>kk r _ (aS hr) aA⟩
theorem YY:bF ["a","b","shared","top","again"] ["a","b"] (aU DK):=bY
theorem YZ(T:Txt K mg t):a7 P w K mg base cz 2 t.tG t.wD ["a","b"] Vc:=by
 have S:=YY;refine T.xH.cN S (fun _ _ _ _ H _ _ _ hr h=>?_);obtain ⟨p,q,x,m,y,n,rfl,hp,hq,la,lb,bx,bm,xZ,bn,k⟩:=h
 refine ⟨_,(au (putL 2 S.nd (aM (xY T) hr T.uo T.ma.kp T.um aX (ae (aE bG (pv 0) aj) (ae (aE bG (pv 1) aj) ai))))
  (au (bQ (bJ il (pv 2) aj) (az (aR (fZ (ae (aw gG (aw ji (aE bG (pv 0) aj) (aE bG (pv 1) aj)) (aw ji (aE bG (pv 1) aj) (aE bG (pv 0) aj))) (ae (aw ji (aE bG (pv 0) aj) (aE bG (pv 1) aj)) ai))))) bW)
  (au (putL 3 S.nd (aw gG (aw ji (aE bG (pv 0) aj) (aw gw (aE bG (pv 1) aj) (pv 2))) (aw ji (aE bG (pv 1) aj) (aw gw (aE bG (pv 0) aj) (pv 2)))))
  (au (putL 4 S.nd (aM (xY T) hr T.uo T.ma.kp T.um aX (ae (pv 3) (ae (pv 2) ai))))
  (az (aR (fZ (ae (aw gw (pv 3) (pv 4)) (ae (aw ji (aw gw (aE bG (pv 0) aj) (pv 2)) (aw gw (aE bG (pv 1) aj) (pv 4))) ai))))))))),?_⟩
 have n2:2≤sizeLine:=by decide
 have m0:=la.pos;have n0:=lb.pos;refine ⟨_,rfl,p,_,_,_,rfl,rfl,.of hp,rfl,_,rfl,q,_,_,_,rfl,rfl,.of hq,rfl,m,n,rfl,bn.mid,?_⟩;have gp:(0:Int)<(Int.gcd m n:Int):=Cm (by lia)
 have gb:cG (Int.gcd m n:Int):=bn.gcd (by lia)
 refine ⟨_,rfl,rfl,_,rfl,cH (fun e=>?_) (fun _=>?_)⟩
 ·have e:Int.gcd m n=1:=by have z:=gD e;have z:=V.int.inj z;lia
  exact ⟨_,rfl,p,_,_,_,rfl,rfl,.of hp,rfl,_,rfl,q,_,_,_,rfl,rfl,.of hq,rfl,_,_,rfl,rfl,⟨bx.mid,bn.mid⟩,
   _,rfl,q,_,_,_,rfl,rfl,.of hq,rfl,_,rfl,p,_,_,_,rfl,rfl,.of hp,rfl,_,_,rfl,rfl,⟨xZ.mid,bm.mid⟩,_,_,rfl,rfl,
   _,rfl,p,_,_,_,rfl,rfl,.of hp,rfl,_,rfl,q,_,_,_,rfl,rfl,.of hq,rfl,_,_,rfl,rfl,⟨bm.mid,bn.mid⟩,n2,fun r hr=>k r _ _ _ (aS hr) aA (U9 la lb e) rfl⟩
 refine ⟨_,rfl,p,_,_,_,rfl,rfl,.of hp,rfl,_,rfl,q,_,_,_,rfl,rfl,.of hq,rfl,_,rfl,_,_,rfl,rfl,⟨gp,gb.mid⟩,_,_,rfl,rfl,⟨bx.mid,bn.over.mid⟩,
  _,rfl,q,_,_,_,rfl,rfl,.of hq,rfl,_,rfl,p,_,_,_,rfl,rfl,.of hp,rfl,_,rfl,_,_,rfl,rfl,⟨gp,gb.mid⟩,_,_,rfl,rfl,⟨xZ.mid,bm.over.mid⟩,_,_,rfl,rfl,?_⟩
 refine ⟨_,rfl,_,rfl,_,_,rfl,gb.mid,?_⟩;have ap:(0:Int)<(Int.gcd (x*(n / (Int.gcd m n:Int))+y*(m / (Int.gcd m n:Int))) (Int.gcd m n:Int):Int):=Cm (by lia)
 have ab:cG (Int.gcd (x*(n / (Int.gcd m n:Int))+y*(m / (Int.gcd m n:Int))) (Int.gcd m n:Int):Int):=gb.gcd (by lia)
 have z:=U_ la lb _ _ rfl _ rfl rfl
 exact ⟨_,rfl,_,rfl,_,_,rfl,rfl,⟨ap,ab.mid⟩,_,rfl,p,_,_,_,rfl,rfl,.of hp,rfl,_,rfl,_,_,rfl,rfl,⟨gp,gb.mid⟩,_,rfl,q,_,_,_,rfl,rfl,.of hq,rfl,_,rfl,_,_,rfl,rfl,⟨ap,ab.mid⟩,_,_,rfl,rfl,⟨bm.over.mid,bn.over.mid⟩,n2,
  fun r hr=>k r _ _ _ (aS hr) aA z.1 z.2⟩
theorem Y0:bF ["a","b"] ["a","b"] (aU DL):=bY
theorem Y1(T:Txt K mg t):a7 P w K mg base cz 3 t.tH t.wF ["a","b"] Vd:=by
 have S:=Y0;refine T.xI.cN S (fun _ _ _ _ H _ _ _ hr h=>?_);obtain ⟨p,q,x,m,y,n,rfl,hp,hq,la,lb,bx,bm,xZ,bn,k⟩:=h;refine ⟨_,(az (aR (aM (YZ T) hr T.OP T.xH.kp T.OO aX (ae (pv 0) (ae (fZ (ae (FP FR (aE bG (pv 1) aj)) (ae (aE bG (pv 1) aj) ai))) ai))))),?_⟩
 exact ⟨_,rfl,_,rfl,q,_,_,_,rfl,rfl,.of hq,rfl,_,rfl,_,rfl,q,_,_,_,rfl,rfl,.of hq,rfl,by show 2≤sizeLine;decide,fun r hr=>⟨p,r,x,m,-y,n,rfl,aS hr _ _ hp,aA,la,lb.neg,bx,bm,xZ.neg,bn,
  fun r' H' u d s' e l z=>k r' H' u d ((aS hr).trans s') e l (by rw [z,Int.neg_mul,Int.sub_eq_add_neg])⟩⟩
theorem Y2:bF ["a","b","first","second"] ["a","b"] (aU DM):=bY
theorem Y3(T:Txt K mg t):a7 P w K mg base cz 2 t.tI t.wG ["a","b"] Ve:=by
 have S:=Y2;refine T.xJ.cN S (fun _ _ _ _ H _ _ _ hr h=>?_);obtain ⟨p,q,x,m,y,n,rfl,hp,hq,la,lb,bx,bm,xZ,bn,k⟩:=h
 refine ⟨_,(au (putL 2 S.nd (aM (xY T) hr T.uo T.ma.kp T.um aX (ae (aE bG (pv 0) aj) (ae (aE bG (pv 1) aj) ai))))
  (au (putL 3 S.nd (aM (xY T) hr T.uo T.ma.kp T.um aX (ae (aE bG (pv 1) aj) (ae (aE bG (pv 0) aj) ai))))
  (az (aR (fZ (ae (aw ji (aw gw (aE bG (pv 0) aj) (pv 2)) (aw gw (aE bG (pv 1) aj) (pv 3))) (ae (aw ji (aw gw (aE bG (pv 0) aj) (pv 3)) (aw gw (aE bG (pv 1) aj) (pv 2))) ai))))))),?_⟩
 have n2:2≤sizeLine:=by decide
 have m0:=la.pos;have n0:=lb.pos;have gp:(0:Int)<(Int.gcd x n:Int):=Cm (by lia)
 have gb:cG (Int.gcd x n:Int):=bn.gcd (by lia)
 have ap:(0:Int)<(Int.gcd y m:Int):=Cm (by lia)
 have ab:cG (Int.gcd y m:Int):=bm.gcd (by lia)
 refine ⟨_,rfl,p,_,_,_,rfl,rfl,.of hp,rfl,_,rfl,q,_,_,_,rfl,rfl,.of hq,rfl,x,n,rfl,bn.mid,?_⟩;refine ⟨_,rfl,q,_,_,_,rfl,rfl,.of hq,rfl,_,rfl,p,_,_,_,rfl,rfl,.of hp,rfl,y,m,rfl,bm.mid,?_⟩;have z:=U8 la lb
 exact ⟨_,rfl,p,_,_,_,rfl,rfl,.of hp,rfl,_,rfl,_,_,rfl,rfl,⟨gp,gb.mid⟩,_,rfl,q,_,_,_,rfl,rfl,.of hq,rfl,_,rfl,_,_,rfl,rfl,⟨ap,ab.mid⟩,_,_,rfl,rfl,⟨bx.over.mid,xZ.over.mid⟩,
  _,rfl,p,_,_,_,rfl,rfl,.of hp,rfl,_,rfl,_,_,rfl,rfl,⟨ap,ab.mid⟩,_,rfl,q,_,_,_,rfl,rfl,.of hq,rfl,_,rfl,_,_,rfl,rfl,⟨gp,gb.mid⟩,_,_,rfl,rfl,⟨bm.over.mid,bn.over.mid⟩,n2,
  fun r hr=>k r _ _ _ (aS hr) aA z.1 z.2⟩
theorem Y4:bF ["prime","number","last","last_times","now","now_times","fits","left","left_times"] ["prime","number"] (aU DO):=bY
theorem Y5(T:Txt K mg t):a7 P w K mg base (e8 P w) 1 t.tK t.wI ["prime","number"] (Vh t.nF):=by
 have S:=Y4;refine T.xM.eR S (fun _ _ _ _ H _ _ _ hr h L=>?_);obtain ⟨q,b,rfl,q1,q2,q3,b0,b1,kE,k⟩:=h
 refine ⟨_,(au (bQ (bJ il (pv 1) aj) (az (rP L rfl qV T.Iu rfl T.Io (ae fV ai))) bW)
  (gk.rg (au (putL 2 S.nd (pv 0))
  (au (putL 3 S.nd aj)
  (au (putL 4 S.nd (pv 1))
  (au (putL 5 S.nd aj)
  (au (zc fP (bJ ze (pv 4) aj) (au (putL 6 S.nd (aw pS (pv 2) (pv 4)))
  (au (putL 7 S.nd (aw jG (pv 2) (aw fG (pv 6) (pv 4))))
  (au (putL 8 S.nd (aw jG (pv 3) (aw fG (pv 6) (pv 5))))
  (au (putL 2 S.nd (pv 4))
  (au (putL 3 S.nd (pv 5))
  (au (putL 4 S.nd (pv 7))
  (az (putL 5 S.nd (pv 8))))))))))
  (az (aR (aw cV (pv 5) (pv 0))))))))))),?_⟩
 refine ⟨_,rfl,rfl,_,rfl,cH (fun hz=>?_) (fun hz=>?_)⟩
 ·have hz:b=0:=V.int.inj (gD hz)
  exact ⟨by show 1≤sizeLine;decide,kE hz⟩
 have hz:b≠0:=fun z=>hz (dj (by rw [z]))
 refine ⟨_,rfl,_,rfl,fun m σ H'=>H'=H∧∃(l lt n nt:Int) (v1 v2 v3:Option V),σ=[some (.int q),some (.int b),some (.int l),some (.int lt),some (.int n),some (.int nt),v1,v2,v3]∧m=n.toNat∧oK q b l lt n nt∧l≤997,
  ⟨b.toNat,rfl,q,0,b,1,none,none,none,rfl,rfl,oK.start q1 q2 q3 (by lia) b1,q2⟩,?_⟩
 rintro m σ H' ⟨rfl,l,lt,n,nt,v1,v2,v3,rfl,em,hb,hl⟩;have p1:=hb.pos;have p2:=hb.less;refine ⟨_,rfl,_,_,rfl,rfl,_,rfl,cH (fun hy=>?_) (fun hy=>?_)⟩
 ·have hy:1<n:=gD hy
  have hs:=hb.step hy;have f0:0≤l / n:=yM (by lia) (by lia)
  have f1:l / n≤l:=Int.ediv_le_self _ (by lia)
  refine ⟨fun σ' H2=>H2=H'∧σ'=[some (.int q),some (.int b),some (.int n),some (.int nt),some (.int (l-l / n*n)),some (.int (lt-l / n*nt)),some (.int (l / n)),some (.int (l-l / n*n)),some (.int (lt-l / n*nt))],?_,?_⟩
  ·rintro σ' H2 ⟨rfl,rfl⟩
   exact ⟨(l-l / n*n).toNat,by rw [em];lia,rfl,_,_,_,_,_,_,_,rfl,rfl,hs.1,by lia⟩
  ·exact ⟨_,rfl,_,rfl,_,_,rfl,rfl,⟨by lia,by lia⟩,_,rfl,_,rfl,_,rfl,_,_,rfl,rfl,.inr ⟨by lia,by lia⟩,_,_,rfl,rfl,
    _,rfl,_,rfl,_,rfl,_,_,rfl,rfl,.inl ⟨by lia,by lia⟩,_,_,rfl,rfl,_,rfl,_,rfl,_,rfl,_,rfl,rfl,rfl⟩
 ·have hy:¬1<n:=fun z=>hy (dj z)
  have n1:n=1:=by lia
  subst n1;exact ⟨_,rfl,_,rfl,_,_,rfl,rfl,(show (0:Int)<q by lia),k hz _ (d4 _ (by lia)) (d8 _ (by lia)) (hb.done q1)⟩
theorem Y6:bF ["prime","a","b"] ["prime","a","b"] (aU DP):=bY
theorem Y7(T:Txt K mg t):a7 P w K mg base (e8 P w) 2 t.tL t.wJ ["prime","a","b"] (Vi t.nF):=by
 have S:=Y6;refine T.xN.eR S (fun _ _ _ _ H _ _ _ hr h L=>?_);obtain ⟨q,i,j,rfl,q1,q2,q3,i0,i1,j0,j1,kE,k⟩:=h;refine ⟨_,(az (aR (aw cV (aw fG (pv 1) (aM (Y5 T) hr T.OX T.xM.kp T.OW (iY L) (ae (pv 0) (ae (pv 2) ai)))) (pv 0)))),?_⟩
 exact ⟨_,rfl,_,rfl,_,rfl,q,j,rfl,q1,q2,q3,j0,j1,kE,fun hj r r0 r1 cQ=>⟨_,_,rfl,rfl,.inl ⟨by lia,by lia⟩,_,rfl,_,_,rfl,rfl,(show (0:Int)<q by lia),
  k hj _ (d4 _ (by lia)) (d8 _ (by lia)) (Vj q1 i0 i1 cQ)⟩⟩
theorem Y8:bF ["self","top","bottom"] ["self","top","bottom"] (aU kX):=bY
theorem Au(T:Txt K mg t):a7 P w K mg base (e8 P w) 3 t.o5 t.Aa ["self","top","bottom"] (Vn t.cq t.nF):=by
 have S:=Y8;refine T.Pj.Gf S (fun vs H Q E h=>?_) (fun br A outer s H vs Q E hr h L=>?_)
 ·obtain ⟨z,q,a,b,rfl,_⟩:=h
  rfl
 ·obtain ⟨z,q,a,b,rfl,⟨dx,hx⟩,hq,mb,kE,k⟩:=h
  refine ⟨_,(au (bQ (bJ rz (lH (pv 0) rfl) ky) (az (aR (aM (YX T) hr T.ON T.xG.kp T.OM (iY L) (ae (pv 1) (ae (pv 2) ai))))) bW)
   (az (aR (aM (Y7 T) hr T.OZ T.xN.kp T.OY (iY L) (ae (lH (pv 0) rfl) (ae (aw cV (pv 1) (lH (pv 0) rfl)) (ae (aw cV (pv 2) (lH (pv 0) rfl)) ai))))))),?_⟩
  refine ⟨_,rfl,z,t.cq,dx,_,_,rfl,hx,T.eX,T.ju,lO _,rfl,_,rfl,?_⟩;rcases hq with rfl | ⟨q2,q3,q4⟩
  ·rw [ak rfl]
   refine fg ⟨_,rfl,_,rfl,a,b,rfl,mb,fun hb=>kE (by unfold mU;rw [ak rfl];exact hb),fun hb r H' s' er=>k (fun hn=>hb (by unfold mU at hn;rw [ak rfl] at hn;exact hn)) _ H' s' (.inl ⟨rfl,r,rfl,er⟩)⟩
  ·have hq:q≠0:=by lia
   rw [ao hq] at hx ⊢;have p0:(0:Int)<q:=by lia
   refine cP ⟨_,rfl,z,t.cq,dx,_,_,rfl,hx,T.eX,T.ju,lO _,_,rfl,_,rfl,z,t.cq,dx,_,_,rfl,hx,T.eX,T.ju,lO _,_,_,rfl,rfl,p0,_,rfl,_,rfl,z,t.cq,dx,_,_,rfl,hx,T.eX,T.ju,lO _,_,_,rfl,rfl,p0,?_⟩;have nv:mU q b↔b % q=0:=by unfold mU;rw [ao hq]
   exact ⟨q,a % q,b % q,rfl,q2,q3,q4,d4 _ hq,d8 _ p0,d4 _ hq,d8 _ p0,fun hj=>kE (nv.mpr hj),fun hj r r0 r1 cQ=>k (fun z=>hj (nv.mp z)) _ H (ah.refl H) (.inr ⟨q2,r,rfl,r0,r1,cQ⟩)⟩
theorem Y9:bF ["self","a","b"] ["self","a","b"] (aU Ed):=bY
theorem Y_(T:Txt K mg t):a7 P w K mg base cz 4 t.t_ t.xh ["self","a","b"] (zy t.cq (fun x m y n=>x*n-y*m) (fun i j=>i-j)):=by
 have S:=Y9;refine T.Am.cN S (fun _ _ _ _ H _ _ _ hr h=>?_);obtain ⟨z,q,v,u,rfl,⟨dx,hx⟩,hc⟩:=h
 refine ⟨_,(au (bQ (bJ rz (lH (pv 0) rfl) ky) (az (aR (aM (Y1 T) hr T.OR T.xI.kp T.OQ aX (ae (pv 1) (ae (pv 2) ai))))) bW)
  (az (aR (aw cV (aw jG (pv 1) (pv 2)) (lH (pv 0) rfl))))),?_⟩
 refine ⟨_,rfl,z,t.cq,dx,_,_,rfl,hx,T.eX,T.ju,lO _,rfl,_,rfl,?_⟩;rcases hc with ⟨rfl,p,r,x,m,y,n,rfl,rfl,h1⟩ | ⟨q2,i,j,rfl,rfl,i0,i1,k⟩
 ·rw [ak rfl]
  exact fg ⟨_,rfl,_,rfl,p,r,x,m,y,n,rfl,h1⟩
 ·have hq:q≠0:=by lia
  rw [ao hq] at hx ⊢;exact cP ⟨_,rfl,_,rfl,_,_,rfl,rfl,_,rfl,z,t.cq,dx,_,_,rfl,hx,T.eX,T.ju,lO _,_,_,rfl,rfl,(show (0:Int)<q by lia),k⟩
theorem Za:bF ["self","a","b"] ["self","a","b"] (aU Ee):=bY
theorem Zb(T:Txt K mg t):a7 P w K mg base cz 4 t.ua t.xi ["self","a","b"] (zy t.cq (fun x m y n=>x*y) (fun i j=>i*j)):=by
 have S:=Za;refine T.An.cN S (fun _ _ _ _ H _ _ _ hr h=>?_);obtain ⟨z,q,v,u,rfl,⟨dx,hx⟩,hc⟩:=h
 refine ⟨_,(au (bQ (bJ rz (lH (pv 0) rfl) ky) (az (aR (aM (Y3 T) hr T.OT T.xJ.kp T.OS aX (ae (pv 1) (ae (pv 2) ai))))) bW)
  (az (aR (aw cV (aw fG (pv 1) (pv 2)) (lH (pv 0) rfl))))),?_⟩
 refine ⟨_,rfl,z,t.cq,dx,_,_,rfl,hx,T.eX,T.ju,lO _,rfl,_,rfl,?_⟩;rcases hc with ⟨rfl,p,r,x,m,y,n,rfl,rfl,h1⟩ | ⟨q2,i,j,rfl,rfl,i0,i1,k⟩
 ·rw [ak rfl]
  exact fg ⟨_,rfl,_,rfl,p,r,x,m,y,n,rfl,h1⟩
 ·have hq:q≠0:=by lia
  rw [ao hq] at hx ⊢;exact cP ⟨_,rfl,_,rfl,_,_,rfl,rfl,.inl ⟨by lia,by lia⟩,_,rfl,z,t.cq,dx,_,_,rfl,hx,T.eX,T.ju,lO _,_,_,rfl,rfl,(show (0:Int)<q by lia),k⟩
theorem Zc:bF ["rows","start","lead","place"] ["rows","start","lead"] (aU Dm):=bY
theorem Zd(T:Txt K mg t):a7 P w K mg base cz 1 t.sO t.vR ["rows","start","lead"] Wz:=by
 have S:=Zc;refine T.xq.cN S (fun _ _ _ s H vs _ _ hr h=>?_);obtain ⟨a,n,W,r,c,M,rfl,hA,rn,ahU,cW,k1,k2⟩:=h
 refine ⟨_,(au (ik fP rfl (BR rfl T.gP (ae (pv 1) (ae (cD dN rfl T.dH dI (ae (pv 0) ai)) ai))) (d_ (i:=3) S.nd rfl (Or.inl rfl))
   (az (bQ (bJ iE (aE dc (aE dc (pv 0) (pv 3)) (pv 2)) aj) (az (aR (pv 3))) bW)))
  (az (aR ky))),?_⟩
 obtain ⟨vs,ea,lv,fv⟩:=id hA;refine ⟨_,rfl,_,rfl,a,vs,rfl,.inl (.of ea),(r:Int),(vs.length:Int),rfl,⟨by lia,by lia,by lia,by lia⟩,?_⟩
 rw [show ((vs.length:Int)-(r:Int)).toNat=n-r by lia]
 refine rq (fun i σ Hc=>Hc=H∧(∃v3:Option V,σ=[some (.ref a),some (.int (r:Int)),some (.int (c:Int)),v3])∧∀s,r≤s→s<r+i→M s c=0) ⟨rfl,⟨_,rfl⟩,fun s h1 h2=>by lia⟩ ?_ ?_
 ·rintro i σ Hc hi ⟨rfl,⟨v3,rfl⟩,hz⟩
  have hp:r+i<vs.length:=by lia
  obtain ⟨x,ex,Ze⟩:=fv (r+i) vs[r+i] (by simp [hp])
  refine ⟨_,rfl,_,rfl,a,vs,_,.ref x,rfl,rfl,.of ea,?_,_,rfl,x,_,_,_,rfl,rfl,.of Ze,qi cW (M (r+i)),rfl,_,rfl,cH (fun h=>?_) (fun h=>?_)⟩
  ·rw [show (r:Int)+(i:Int)=((r+i:Nat):Int) by lia]
   exact cK (by rw [←ex];simp [hp])
  ·have e:M (r+i) c≠0:=by simpa using h
   have z:=k1 (r+i) (by lia) (by lia) e
   refine ⟨_,rfl,?_⟩;rw [show (r:Int)+(i:Int)=((r+i:Nat):Int) by lia]
   exact z
  ·have e:M (r+i) c=0:=by simpa using h
   refine ⟨rfl,⟨_,rfl⟩,fun s h1 h2=>?_⟩;by_cases z:s=r+i;·rw [z];exact e
   ·exact hz s h1 (by lia)
 ·rintro σ Hc ⟨rfl,⟨v3,rfl⟩,hz⟩
  exact k2 fun s h1 h2=>hz s h1 (by lia)
theorem Zf:bF ["rows","one","other","told"] ["rows","one","other"] (aU Dn):=bY
theorem Zg(T:Txt K mg t):a7 P w K mg base cz 1 t.sP t.vS ["rows","one","other"] WC:=by
 have S:=Zf;refine T.xt.cN S (fun _ _ _ _ H vs _ _ hr h=>?_);obtain ⟨a,l,n,W,r,s',M,rfl,hA,⟨ol,hl⟩,rn,sn,k⟩:=h
 refine ⟨_,(au (putL 3 S.nd (pU B5 rfl T.o_ boot_list (ae (pv 0) ai)))
  (au (@kD _ _ _ _ _ _ (aE dc (pv 0) (pv 2)) (kC (pv 3) (pv 1) set_list) (by rfl) (by rfl) (by rfl))
  (au (@kD _ _ _ _ _ _ (aE dc (pv 0) (pv 1)) (kC (pv 3) (pv 2) set_list) (by rfl) (by rfl) (by rfl))
  (az (aR (pv 3)))))),?_⟩
 obtain ⟨vs,ea,lv,al,fv⟩:=id hA;have cQ:r<vs.length:=by lia
 have dR:s'<vs.length:=by lia
 refine ⟨_,rfl,a,vs,rfl,.inl (.of ea),fun b nb=>?_⟩;have s1:ah H (upd H b (.lst vs)):=aS nb;have eb:upd H b (.lst vs) b=some (.lst vs):=aA;have ab:a≠b:=fun e=>by rw [←e,ea] at nb;cases nb
 dsimp only [aT];generalize upd H b (.lst vs)=H1 at s1 eb ⊢;refine ⟨_,rfl,_,rfl,a,vs,_,vs[s'],rfl,rfl,.of (s1 _ _ ea),cK (by simp [dR]),_,rfl,_,rfl,b,vs,_,r,rfl,rfl,eb,(by unfold gI;rw [ak (by lia),ak (by lia),df]),?_⟩
 have s2:ah H (upd H1 b (.lst (vs.set r vs[s']))):=dP s1 nb;have Py:upd H1 b (.lst (vs.set r vs[s'])) b=some (.lst (vs.set r vs[s'])):=aA;dsimp only;generalize upd H1 b (.lst (vs.set r vs[s']))=H2 at s2 Py ⊢;refine ⟨_,rfl,_,rfl,a,vs,_,vs[r],rfl,rfl,.of (s2 _ _ ea),cK (by simp [cQ]),_,rfl,_,rfl,b,vs.set r vs[s'],_,s',rfl,rfl,Py,(by unfold gI;rw [gS,ak (by lia),ak (by lia),df]),?_⟩
 have s3:ah H (upd H2 b (.lst ((vs.set r vs[s']).set s' vs[r]))):=dP s2 nb;refine ⟨_,rfl,k b _ s3 nb ⟨_,aA,by simp [lv],(fun e=>by rw [e,hl] at nb;cases nb),fun i v hv=>?_⟩⟩
 have pick:∀j,(hj:j<vs.length)→∃x:Addr,vs[j]=.ref x∧x≠b∧x≠l∧upd H2 b (.lst ((vs.set r vs[s']).set s' vs[r])) x=some (.lst (((List.range W).map (M j)).map V.int)):=fun j hj=>by
  obtain ⟨x,e1,_,nl,e2⟩:=fv j vs[j] (by simp [hj])
  exact ⟨x,e1,(fun e=>by rw [e,nb] at e2;cases e2),nl,s3 _ _ e2⟩
 unfold bT;by_cases z1:i=s'
 ·subst z1
  rw [jv (by rw [gS];lia)] at hv
  cases hv;rw [ak rfl];exact pick r cQ
 ·rw [jw (by lia)] at hv
  rw [ao z1];by_cases z2:i=r
  ·subst z2
   rw [jv (by lia)] at hv
   cases hv;rw [ak rfl];exact pick s' dR
  ·rw [jw (by lia)] at hv
   rw [ao z2];obtain ⟨x,e1,_,nl,e2⟩:=fv i v hv;exact ⟨x,e1,(fun e=>by rw [e,nb] at e2;cases e2),nl,s3 _ _ e2⟩
theorem Zh:bF ["world","row","head","lead","last","much","less"] ["world","row","head","lead","last"] (aU Dk):=bY
theorem Zi(T:Txt K mg t):a7 P w K mg base cz 1 t.sN t.vQ ["world","row","head","lead","last"] (WD t.cq):=by
 have S:=Zh;refine T.xp.cN S (fun _ _ _ _ H _ _ _ hr h=>?_);obtain ⟨z,a,b,q,last,W,c,f,g,e,rfl,⟨dx,hx⟩,hq,ea,eb,cW,Zj,bd,ml,nl,h0,h1,k⟩:=h
 refine ⟨_,(au (eC 5 S.nd (aE dc (pv 2) (pv 3)))
  (au (eC 6 S.nd (aE dc (pv 1) (pv 3)))
  (au (bQ (bJ rz (lH (pv 0) rfl) ky) (az (aR (vv (N:=["a","b","much","less","last"]) (ρ:=(fun σ=>[σ[5]?.join,σ[6]?.join,σ[4]?.join])) (si [5,6,4] rfl) rfl (mY rfl T.mh (ae (pv 1) (ae (pv 2) ai))) (fun _ _ _=>.nil) (fun _ _ _=>(aw Gj (aw jG (aw ji (pv 2) (pv 0)) (aw ji (pv 3) (pv 1))) (pv 4)))))) bW)
  (az (aR (vv (N:=["a","b","much","less","world"]) (ρ:=(fun σ=>[σ[5]?.join,σ[6]?.join,σ[0]?.join])) (si [5,6,0] rfl) rfl (mY rfl T.mh (ae (pv 1) (ae (pv 2) ai))) (fun _ _ _=>.nil) (fun _ _ _=>(aw cV (aw jG (aw ji (pv 2) (pv 0)) (aw ji (pv 3) (pv 1))) (Wd (K:=K) (pv 4) rfl))))))))),?_⟩
 refine ⟨_,rfl,_,rfl,b,_,_,_,rfl,rfl,.of eb,qi cW g,?_⟩;dsimp only [aT];simp only [L2.start,cS,ib,fU,gU,List.replicate,gY,gC,bj,bq];refine ⟨_,rfl,_,rfl,a,_,_,_,rfl,rfl,.of ea,qi cW f,?_⟩;dsimp only [aT];simp only [bj,bq];have Pz:∀x y,(x,y)∈((List.range W).map f).zip ((List.range W).map g)→cC x∧cC y:=fun x y h=>by have m:=yF h;obtain ⟨k1,Iv,rfl⟩:=eZ.mp m.1;obtain ⟨k2,Iw,rfl⟩:=eZ.mp m.2;exact ⟨(bd k1 (fe.mp Iv)).1,(bd k2 (fe.mp Iw)).2⟩
 have PB:=(bd c cW).2;have PD:=(bd c cW).1;refine ⟨_,rfl,z,t.cq,dx,_,_,rfl,hx,T.eX,T.ju,lO _,rfl,_,rfl,?_⟩;rcases id hq with rfl | ⟨q2,q3,q4⟩
 ·rw [ak rfl]
  refine fg (lU (GP (xs:=(List.range W).map f) (ys:=(List.range W).map g) (fun x y=>(g c*x-f c*y).fdiv last) (by simp;lia) (fun R h=>⟨_,rfl,_,rfl,a,b,rfl,⟨_,.of ea⟩,⟨_,.of eb⟩,h _ _ (ah.refl _) (p6 (.of ea) (.of eb))⟩) ?_ ?_))
  ·intro x y gQ Hc R sc kc
   obtain ⟨mx,my⟩:=Pz x y gQ;exact ⟨_,rfl,_,rfl,_,_,rfl,rfl,⟨PB,mx⟩,_,rfl,_,rfl,_,_,rfl,rfl,⟨PD,my⟩,_,_,rfl,rfl,_,rfl,_,_,rfl,rfl,⟨nl,ml⟩,kc Hc (ah.refl _)⟩
  ·intro D Hc nD sc eD
   have ez:=GO W f g (fun x y=>(g c*x-f c*y).fdiv last);rw [ez] at eD;refine k D Hc sc nD ?_;rw [eD]
   congr 3
   refine BE fun i hi=>?_;rw [h0 rfl i (fe.mp hi)];exact Int.mul_fdiv_cancel_left _ nl
 ·have PF:q≠0:=by lia
  rw [ao PF] at hx ⊢;refine cP ?_;dsimp only [gq];refine lU (GP (xs:=(List.range W).map f) (ys:=(List.range W).map g) (fun x y=>(g c*x-f c*y) % q) (by simp;lia) (fun R h=>⟨_,rfl,_,rfl,a,b,rfl,⟨_,.of ea⟩,⟨_,.of eb⟩,h _ _ (ah.refl _) (p6 (.of ea) (.of eb))⟩) ?_ ?_)
  ·intro x y gQ Hc R sc kc
   obtain ⟨mx,my⟩:=Pz x y gQ;exact ⟨_,rfl,_,rfl,_,_,rfl,rfl,⟨PB,mx⟩,_,rfl,_,rfl,_,_,rfl,rfl,⟨PD,my⟩,_,_,rfl,rfl,_,rfl,z,t.cq,dx,_,_,rfl,sc _ _ hx,T.eX,T.ju,lO _,_,_,rfl,rfl,(show (0:Int)<q by lia),kc Hc (ah.refl _)⟩
  ·intro D Hc nD sc eD
   have ez:=GO W f g (fun x y=>(g c*x-f c*y) % q);rw [ez] at eD;refine k D Hc sc nD ?_;rw [eD]
   congr 3
   exact BE fun i hi=>(h1 PF i (fe.mp hi)).symm
variable {B:Nat} {H:Hp} {q a:Int} {v:V}
theorem Zk{b:Int}(ho:vj H q v a b)(hq:aB q)(nb:¬q∣b)(ba:a.natAbs≤B)(bb:b.natAbs≤B):∃p:Int×Int,bZ B H q v p.1 p.2∧aO q p (a,b):=by
 rcases ho with ⟨rfl,r,rfl,e⟩ | ⟨q2,r,rfl,r0,r1,er⟩
 ·have hb:b≠0:=fun z=>nb (z▸pG 0)
  obtain ⟨l,w,b1,b2⟩:=Cp (a:=a) hb;exact ⟨(jS a b,jT a b),.bH e l (aq b1 ba) (aq b2 bb),⟨0,by dsimp only;lia⟩⟩
 ·have q3:q≤997:=by rcases hq with h | h <;> lia
  refine ⟨(r,1),.rem r0 r1 q3,?_⟩;show q∣r*b-a*1;have h1:Cg q (r*(b % q)) a:=(zL q _).symm.trans (er▸zL q a);have h2:Cg q (r*b) (r*(b % q)):=((zL q b).mulL r).symm;have h3:=h2.trans h1;rw [iB];exact h3
theorem Zl:bF ["world","row","lead"] ["world","row","lead"] (aU Dq):=bY
theorem Zm(T:Txt K mg t):a7 P w K mg base cz 4 t.sQ t.vT ["world","row","lead"] (WG t.cq):=by
 have S:=Zl;have j9:=Au (P:=P) (w:=w) (base:=base) T;refine T.xu.cN S (fun _ _ _ _ H _ _ _ hr h=>?_);obtain ⟨z,a,q,W,c,f,B,rfl,⟨dz,hd⟩,hq,ea,cW,Zj,nb,mb,bd,k⟩:=h;refine ⟨_,(az (aR (gd (N:=["number","world","row","lead"]) (ρ:=(fun σ=>[σ[0]?.join,σ[1]?.join,σ[2]?.join])) (eS [0,1,2] rfl) rfl (e7 (pv 1)) (fun _ _ _=>.nil) (fun _ _ _=>(kH (pv 1) T.eX T.nG j9 (hr.mono (by decide)) T.Pk .nil iH (ae (pv 0) (ae (aE (p8 (K:=K)) (pv 2) (pv 3)) ai))))))),?_⟩
 refine lU (iu (xs:=((List.range W).map f).map V.int) (fun R h=>⟨_,rfl,a,rfl,⟨_,.of ea⟩,h _ _ (ah.refl _) (iI (.of ea))⟩) (by rw [bL,bL,eK];exact dO (by lia)) (fun _ i y Hx=>∃p:Int×Int,bZ B Hx q y p.1 p.2∧aO q p (f i,f c)) (fun _ _ _ _ _ _ ⟨p,h0,h1⟩ e f=>⟨p,h0.bC e f,h1⟩) ?_ ?_)
 ·intro D i v hi Hc R sc _ kc
  have a_:i<W:=by have:=(aP.mp hi).1;simpa using this
  have ev:v=.int (f i):=by rw [cF,cF] at hi;simp [a_] at hi;exact hi.symm
  subst ev;exact ⟨_,rfl,z,dz,_,rfl,sc _ _ hd,kR (by decide +kernel),_,rfl,_,rfl,_,rfl,a,_,_,_,rfl,rfl,.of (sc _ _ ea),qi cW f,z,q,f i,f c,rfl,⟨dz,sc _ _ hd⟩,hq,mb,fun h=>absurd h (Vr nb),fun _ v' H' s' ho=>kc v' H' s' (Zk ho hq nb (bd i a_) (bd c cW))⟩
 ·intro D ys Hc nD sc pe hP eD
  obtain ⟨ps,lp,hp⟩:=pick (R:=fun i y p=>bZ B Hc q y (Prod.fst p) (Prod.snd p)∧aO q p (f i,f c)) hP;rw [bL,bL,eK] at pe;refine k D ps Hc sc nD ⟨ys,eD,lp.symm,fun i v p h1 h2=>(hp i v p h1 h2).1⟩ (by lia) fun i hi=>?_
  have i1:i<ys.length:=by lia
  have i2:i<ps.length:=by lia
  rw [getD_at i2];exact (hp i ys[i] ps[i] (by simp [i1]) (by simp [i2])).2
theorem Zn:bF ["row","bottom","number"] ["row"] (aU DN):=bY
theorem Zo(T:Txt K mg t):a7 P w K mg base cz 2 t.tJ t.wH ["row"] Xn:=by
 have S:=Zn;refine T.xK.cN S (fun _ _ _ _ H vs _ _ hr h=>?_);obtain ⟨a,ps,B,D,rfl,⟨vs,ea,hl,hn⟩,PH,oU,hD,hB,bD,k⟩:=h
 refine ⟨_,(au (eC 1 S.nd aj)
  (au (ik fP rfl (e7 (pv 0)) (d_ (i:=2) S.nd rfl (Or.inl rfl))
   (az (eC 1 S.nd (aw ji (aw gw (pv 1) (aM (xY T) hr T.uo T.ma.kp T.um aX (ae (pv 1) (ae (aE bG (pv 2) aj) ai)))) (aE bG (pv 2) aj)))))
  (az (aR (fZ (ae (gd (N:=["number","bottom"]) (ρ:=(fun σ=>[σ[1]?.join])) (eS [1] rfl) rfl (e7 (pv 0)) (fun _ _ _=>.nil) (fun _ _ _=>(aw ji (aE (p7 (K:=K)) (pv 0) aj) (aw gw (pv 1) (aE (p7 (K:=K)) (pv 0) aj))))) (ae (pv 1) ai))))))),?_⟩
 have D1:=oU.1 rfl;have parts:∀(i:Nat) (v:V),vs[i]?=some v→∃(r:Addr) (x m:Int),v=.ref r∧H r=some (.tup [.int x,.int m])∧ps[i]?=some (x,m)∧de x m∧x.natAbs≤B∧m∣D:=fun i v e=>by
  have hi:i<ps.length:=by rw [←hl];exact (aP.mp e).1
  have ep:ps[i]?=some ps[i]:=by simp [hi]
  have h1:=hn i v ps[i] e ep;have h2:=hD _ (aQ hi);generalize ps[i]=p at h1 ep h2;obtain ⟨x,m⟩:=p;cases h1 with
  | bH er l bx bm=>exact ⟨_,x,m,rfl,er,ep,l,bx,h2⟩
  | rem h0 h1 h2=>lia
 have x4:∀{y:Int},y∣D→cC y:=fun h=>dq (MQ h (by lia)) bD
 refine ⟨_,rfl,a,rfl,⟨_,.of ea⟩,?_⟩
 refine rp (K:=K) (a:=a) (xs:=vs) (fun i σ Hc=>Hc=H∧∃(b:Int) (v2:Option V),σ=[some (.ref a),some (.int b),v2]∧1≤b∧b∣D∧∀(j:Nat) (p:Int×Int),j<i→ps[j]?=some p→p.2∣b)
  ⟨rfl,1,none,rfl,by decide,Int.one_dvd D,fun j p hj=>by lia⟩ (fun i σ Hc _ ⟨z,_⟩=>by rw [z];exact .of ea) ?_ ?_
 ·rintro i v σ Hc hi ⟨rfl,b,v2,rfl,b1,bb,hd⟩
  obtain ⟨r,x,m,rfl,er,ep,l,bx,bm⟩:=parts i v hi;have m1:=l.pos;obtain ⟨s1,s2,s3,s4⟩:=VU b1 m1;have gp:=oJ (a:=b) (b:=m) (by lia)
  have gm:cC (Int.gcd b m:Int):=x4 (i9 (mE ..) bm);refine ⟨_,rfl,_,rfl,_,rfl,r,_,_,_,rfl,rfl,.of er,rfl,b,m,rfl,x4 bm,_,_,rfl,rfl,⟨by lia,gm⟩,_,rfl,r,_,_,_,rfl,rfl,.of er,rfl,_,_,rfl,rfl,⟨?_,x4 bm⟩,?_⟩
  ·exact dq (nY ..) (x4 bb)
  ·refine ⟨rfl,_,_,rfl,s1,lcm_dvd b1 m1 bb bm,fun j p hj hp=>?_⟩
   by_cases z:j=i
   ·subst z
    rw [ep] at hp;cases hp;exact s2
   ·exact i9 (hd j p (by lia) hp) s3
 ·rintro σ Hc ⟨rfl,b,v2,rfl,b1,bb,hd⟩
  rw [hl] at hd;have mb:cC b:=x4 bb;dsimp only;refine lU (MG (iu (xs:=vs) (fun R h=>⟨_,rfl,a,rfl,⟨_,.of ea⟩,h _ _ (ah.refl _) (iI (.of ea))⟩) (by rw [hl];exact dO (by lia)) (fun _ i y _=>∃(p:Int×Int),ps[i]?=some p∧y=.int (p.1*(b / p.2))) (fun _ _ _ _ _ _ h _ _=>h) ?_ ?_))
  ·intro D' i v hi Hd R sd _ kd
   obtain ⟨r,x,m,rfl,er,ep,l,bx,bm⟩:=parts i v hi;have m1:=l.pos;have Zp:cC (b / m):=dq (nY ..) mb;exact ⟨_,rfl,r,_,_,_,rfl,rfl,.of (sd _ _ er),rfl,_,rfl,_,rfl,r,_,_,_,rfl,rfl,.of (sd _ _ er),rfl,_,_,rfl,rfl,⟨by lia,x4 bm⟩,_,_,rfl,rfl,⟨dq bx hB,Zp⟩,kd _ Hd (ah.refl _) ⟨(x,m),ep,rfl⟩⟩
  ·intro D' ys Hd nD sd pe hP eD
   have ey:ys=(ps.map fun p=>p.1*(b / p.2)).map V.int:=p9 (by rw [pe,hl,bL]) fun i v e=>by obtain ⟨p,e1,e2⟩:=hP i v e;exact ⟨p.1*(b / p.2),by rw [cF,e1];rfl,e2⟩
   refine ⟨_,rfl,by show 2≤sizeLine;decide,fun r cQ=>?_⟩
   refine k _ _ (ps.map fun p=>p.1*(b / p.2)) b (sd.trans (aS cQ)) ⟨r,D',rfl,aA,aS cQ _ _ (by rw [eD,ey]),nD⟩ ⟨by rw [bL],⟨fun _=>b1,fun z=>absurd rfl z⟩,bb,fun i hi=>?_⟩
   have Iy:i<vs.length:=by lia
   have e1:(ps.map fun p=>p.1*(b / p.2)).getD i 0=ps[i].1*(b / ps[i].2):=by rw [getD_at (by rw [bL];exact hi),jz]
   rw [e1,getD_at hi];obtain ⟨r',x,m,_,_,ep,l,bx,bm⟩:=parts i vs[i] (by simp [Iy])
   have x5:ps[i]=(x,m):=by
    rw [show ps[i]?=some ps[i] by simp [hi]] at ep
    exact Option.some.inj ep
   rw [x5];dsimp only;have m1:=l.pos;obtain ⟨c,ec⟩:=hd i (x,m) hi (by rw [←x5];simp [hi])
   dsimp only at ec;have eq:b / m=c:=by rw [ec];exact iC _ (by lia)
   refine ⟨by rw [eq,ec];grind,?_⟩
   rw [bz];exact aZ bx (aq (nY ..) (MQ bb (by lia)))
theorem Zq:bF ["self","row"] ["self","row"] (aU Eg):=bY
theorem Zr(T:Txt K mg t):a7 P w K mg base cz 3 t.ub t.xj ["self","row"] (Xo t.cq):=by
 have S:=Zq;refine T.Ao.cN S (fun _ _ _ _ H vs _ _ hr h=>?_);obtain ⟨z,a,q,ps,B,D,rfl,⟨dx,hx⟩,hq,uA,PH,oU,hD,hB,b1,bD,k⟩:=h
 refine ⟨_,(au (bQ (bJ rz (lH (pv 0) rfl) ky) (az (aR (aM (Zo T) hr T.OV T.xK.kp T.OU aX (ae (pv 1) ai)))) bW)
  (az (aR (fZ (ae (pU B5 rfl T.o_ boot_list (ae (pv 1) ai)) (ae aj ai)))))),?_⟩
 refine ⟨_,rfl,z,t.cq,dx,_,_,rfl,hx,T.eX,T.ju,lO _,rfl,_,rfl,?_⟩;rcases hq with rfl | ⟨q2,q3,q4⟩
 ·rw [ak rfl]
  exact fg ⟨_,rfl,a,ps,B,D,rfl,uA,PH,oU,hD,hB,bD,k⟩
 ·have hq:q≠0:=by lia
  rw [ao hq] at hx ⊢;obtain ⟨vs,ea,hl,hn⟩:=uA;have parts:∀(i:Nat) (v:V),vs[i]?=some v→∃x:Int,v=.int x∧ps[i]?=some (x,1)∧0≤x∧x<q:=fun i v e=>by
   have hi:i<ps.length:=by rw [←hl];exact (aP.mp e).1
   have ep:ps[i]?=some ps[i]:=by simp [hi]
   have h1:=hn i v ps[i] e ep;generalize ps[i]=p at h1 ep;obtain ⟨x,m⟩:=p;cases h1 with
   | bH er l bx bm=>exact absurd rfl hq
   | rem h0 h1 h2=>exact ⟨x,rfl,ep,h0,h1⟩
  have ey:vs=(ps.map fun p=>p.1).map V.int:=p9 (by rw [hl,bL]) fun i v e=>by obtain ⟨x,e1,e2,_⟩:=parts i v e;exact ⟨x,by rw [cF,e2];rfl,e1⟩
  have eD:=oU.2 hq;refine cP ⟨_,rfl,a,vs,rfl,.inl (.of ea),fun l nl=>⟨by show 2≤sizeLine;decide,fun r cQ=>?_⟩⟩
  refine k _ _ (ps.map fun p=>p.1) 1 ((aS nl).trans (aS cQ)) ⟨r,l,rfl,aA,aS cQ _ _ (by rw [aA,ey]),nl⟩ ⟨by rw [bL],aF.one,Int.one_dvd D,fun i hi=>?_⟩
  have Iy:i<vs.length:=by lia
  rw [getD_at (by rw [bL];exact hi),jz,getD_at hi]
  obtain ⟨x,_,ep,x0,x1⟩:=parts i vs[i] (by simp [Iy])
  have x5:ps[i]=(x,1):=by
   rw [show ps[i]?=some ps[i] by simp [hi]] at ep
   exact Option.some.inj ep
  rw [x5];refine ⟨rfl,?_⟩;rw [eD];show x.natAbs≤B*1;lia
theorem Zs:bF ["table","wide"] ["table"] (aU De):=bY
theorem uB(T:Txt K mg t):a7 P w K mg base (e8 P w) 1 t.sF t.vK ["table"] (WH t.jt):=by
 have S:=Zs;refine T.kY.eR S (fun _ _ _ _ H vs _ _ hr h L=>?_);obtain ⟨a,q,B,aa,m,rfl,⟨vs,ea,hl,hn⟩,h1,qw,hm,k⟩:=h
 refine ⟨_,(au (bQ (bJ il (cD dN rfl T.dH dI (ae (pv 0) ai)) aj) (az (aR aj)) bW)
  (au (eC 1 S.nd (cD dN rfl T.dH dI (ae (aE dc (pv 0) aj) ai)))
  (au (bQ (iW (cD (VB (K:=K) rfl) rfl T.Pp boot_any (ae (gd (N:=["row","wide"]) (ρ:=(fun σ=>[σ[1]?.join])) (eS [1] rfl) rfl (e7 (pv 0)) (fun _ _ _=>.nil) (fun _ _ _=>(mP iE (cD (VR (K:=K)) rfl T.dH dI (ae (pv 0) ai)) (pv 1)))) ai))) (az (rP L rfl qV T.As rfl T.Ap (ae fV ai))) bW)
  (az (aR (pv 1)))))),?_⟩
 have h0:0<vs.length:=by lia
 refine ⟨_,rfl,a,vs,rfl,.inl (.of ea),rfl,false,by rw [jO,fq (by lia)],cP ?_⟩
 have Zt:0<aa.length:=by lia
 obtain ⟨r,er,us,eu,lu,_⟩:=hn 0 vs[0] aa[0] (by simp [h0]) (by simp [Zt])
 have hm0:=hm aa[0] (aQ ..);refine ⟨_,rfl,a,vs,_,vs[0],rfl,rfl,.of ea,(by exact cK (j:=0) (by simp [h0])),r,us,by rw [er],.inl (.of eu),?_⟩
 have em:(us.length:Int)=(m:Int):=by lia
 rw [em];dsimp only [aT];have Zu:∀(i:Nat) (v:V),vs[i]?=some v→∃(r:Addr) (us:List V),v=.ref r∧H r=some (.lst us)∧us.length=m:=fun i v e=>by
  have a_:i<aa.length:=by rw [←hl];exact (aP.mp e).1
  obtain ⟨r,e1,us,e2,e3,_⟩:=hn i v aa[i] e (by simp [a_])
  exact ⟨r,us,e1,e2,by rw [e3];exact hm _ (aQ ..)⟩
 refine fT (VV (VW (Gz (Mq (xs:=vs) (fun R h=>⟨_,rfl,a,rfl,⟨_,.of ea⟩,h _ _ (ah.refl _) (iI (.of ea))⟩) (by rw [hl];exact dO (by lia)) (fun _ i y _=>y=.bl false) (fun _ _ _ _ _ _ h _ _=>h) ?_ ?_))))
 ·intro D i v hi Hc R sc _ kc
  obtain ⟨r',Av,rfl,e2,e3⟩:=Zu i v hi;refine ⟨_,rfl,r',Av,rfl,.inl (.of (sc _ _ e2)),_,rfl,rfl,?_⟩;have zz:(!decide (V.int (Av.length:Int)=V.int (m:Int)))=false:=by rw [jO,dj (by lia)];rfl
  rw [zz];exact kc _ Hc (ah.refl _) rfl
 ·intro D ys Hc sc pe hP eD
  refine ⟨D,List.replicate ys.length false,rfl,.of (by rw [eD];exact hJ _ (hJ _ (MK hP))),false,by rw [VX],cP ?_⟩
  exact ⟨_,rfl,k Hc sc⟩
theorem Zv:bF ["world","n","place","row"] ["world","n","place"] (aU Dj):=bY
theorem PJ(T:Txt K mg t):a7 P w K mg base cz 4 t.sM t.vP ["world","n","place"] (Wv t.cq):=by
 have S:=Zv;have j9:=Au (P:=P) (w:=w) (base:=base) T;obtain ⟨dv,mj,iP⟩:=T.Al;refine T.ue.cN S (fun _ _ _ _ H _ _ _ hr h=>?_);obtain ⟨z,q,n,i,rfl,⟨dz,hd⟩,hq,n4,hi,k⟩:=h
 refine ⟨_,(au (putL 3 S.nd (aw rN (dM (ae (kH (pv 0) T.eX T.nG j9 (hr.mono (by decide)) iP mj iH (ae aj ai)) ai)) (pv 1)))
  (au (@kD _ _ _ _ _ _ (kH (pv 0) T.eX T.nG j9 (hr.mono (by decide)) iP mj iH (ae aj ai)) (kC (pv 3) (pv 2) set_list) (by rfl) (by rfl) (by rfl))
  (az (aR (pv 3))))),?_⟩
 have nv:=Cw hq;refine ⟨_,rfl,z,dz,_,rfl,hd,kR (by decide +kernel),z,q,0,1,rfl,⟨dz,hd⟩,hq,cC.of_lt (by decide) (by decide),fun h=>absurd h nv,fun _ v0 H1 s1 ho=>?_⟩
 refine ⟨by show 1≤sizeLine;decide,fun l nl=>?_⟩
 have sl:ah H1 (upd H1 l (.lst [v0])):=aS nl;have el:upd H1 l (.lst [v0]) l=some (.lst [v0]):=aA;have h0:=qa (B:=10 ^ 60) (by decide) (ho.mono sl) hq (.inl rfl)
 generalize upd H1 l (.lst [v0])=H2 at sl el h0 ⊢;refine ⟨_,rfl,l,(n:Int),[v0],rfl,rfl,el,by lia,by lia,?_,fun r nr=>?_⟩
 ·rw [df]
  exact aq (show [v0].length*n≤40 by simp;exact n4) (by decide)
 rw [df,show (List.replicate n [v0]).flatten=List.replicate n v0 by induction n with
  | zero=>rfl
  | succ n ih=>simp [nU]]
 have sr:ah H2 (upd H2 r (.lst (List.replicate n v0))):=aS nr;have er:upd H2 r (.lst (List.replicate n v0)) r=some (.lst (List.replicate n v0)):=aA;have h0:=h0.mono sr;generalize upd H2 r (.lst (List.replicate n v0))=H3 at sr er h0 ⊢;have s3:=s1.trans (sl.trans sr);refine ⟨_,rfl,z,dz,_,rfl,s3 _ _ hd,kR (by decide +kernel),z,q,1,1,rfl,⟨dz,s3 _ _ hd⟩,hq,cC.of_lt (by decide) (by decide),fun h=>absurd h nv,fun _ v1 H4 s4 Aw=>?_⟩
 have h1:=qa (B:=10 ^ 60) (by decide) Aw hq (.inr rfl)
 refine ⟨_,rfl,_,rfl,r,_,_,i,rfl,rfl,s4 _ _ er,?_,?_⟩
 ·unfold gI
  rw [ak (by lia),ak (by simp;exact hi),df]
 have Es:H1 r=none:=none_of sl nr;refine ⟨_,rfl,k r _ (dP (s3.trans s4) (none_of s1 Es)) (none_of s1 Es) ⟨_,aA,by simp [jV],fun j v p hv hp=>?_⟩⟩
 have bC:∀b o,b≠r→H4 b=some o→upd H4 r (.lst ((List.replicate n v0).set i v1)) b=some o:=fun b o nb e=>by rw [bI nb];exact e
 have hj:j<n:=by have:=(aP.mp hv).1;simpa using this
 unfold jV at hp;rw [cF] at hp;simp [hj] at hp;by_cases z:j=i
 ·subst z
  rw [ak rfl] at hp;have ev:v1=v:=by
   rw [jv (by simpa using hj)] at hv
   exact Option.some.inj hv
  subst ev hp;exact h1.bC (s4 _ _ er) bC
 ·rw [ao z] at hp
  have ev:v0=v:=by
   rw [jw (by lia)] at hv
   simpa [hj] using hv
  subst ev hp;exact (h0.mono s4).bC (s4 _ _ er) bC
theorem Zw:bF ["table"] ["table"] (aU Df):=bY
theorem Iz(T:Txt K mg t):a7 P w K mg base (e8 P w) 2 t.sG t.vL ["table"] (WI t.jt):=by
 have S:=Zw;refine T.qt.eR S (fun _ _ _ _ H vs _ _ hr h L=>?_);obtain ⟨a,q,B,aa,m,rfl,hA,h1,qw,hm,kE,k⟩:=h
 refine ⟨_,(au (bQ (bJ iE (aM (uB T) hr T.qs T.kY.kp T.qr (iY L) (ae (pv 0) ai)) (cD dN rfl T.dH dI (ae (pv 0) ai))) (az (rP L rfl qV T.As rfl T.Ap (ae fV ai))) bW)
  (az (aR (cD dN rfl T.dH dI (ae (pv 0) ai))))),?_⟩
 refine ⟨_,rfl,a,q,B,aa,m,rfl,hA,h1,qw,hm,fun H1 s1=>?_⟩;obtain ⟨vs,ea,lv,_⟩:=id (hA.mono s1);refine ⟨_,rfl,a,vs,rfl,.inl (.of ea),rfl,_,rfl,cH (fun fh=>?_) (fun fh=>?_)⟩
 ·have fh:m≠aa.length:=fun z=>by
   have:(m:Int)=(vs.length:Int):=by lia
   rw [jO,dj this] at fh;cases fh
  exact ⟨by show 1≤sizeLine;decide,kE fh H1 s1⟩
 ·have heq:m=aa.length:=by
   by_cases z:(m:Int)=(vs.length:Int);·lia
   ·exact absurd (by rw [jO,fq z];rfl) fh
  have z:=k heq H1 s1;dsimp only [gq];refine ⟨_,rfl,a,vs,rfl,.inl (.of ea),?_⟩;rw [show (vs.length:Int)=(m:Int) by lia]
  exact z
theorem Zx:bF ["table","other"] ["table","other"] (aU Dt):=bY
theorem IA(T:Txt K mg t):a7 P w K mg base cz 1 t.sS t.vV ["table","other"] WJ:=by
 have S:=Zx;refine T.qv.cN S (fun _ _ _ _ H vs _ _ hr h=>?_);obtain ⟨a,b,q,B,aa,af,m,u,rfl,hA,hB,ln,dF,hm,hu,o4,Ax,k⟩:=h;refine ⟨_,(az (aR (vv (N:=["row","more"]) (ρ:=(fun σ=>[])) (si [] rfl) rfl (mY rfl T.mh (ae (pv 0) (ae (pv 1) ai))) (fun _ _ _=>.nil) (fun _ _ _=>(aw B6 (pv 0) (pv 1)))))),?_⟩;obtain ⟨vs,ea,lv,fv⟩:=id hA;obtain ⟨us,eb,lu,fu⟩:=id hB;refine lU (Cy (Z:=fun zs Hx=>zs=vs.zip us∧Hx=H) (fun R h=>⟨_,rfl,_,rfl,a,b,rfl,⟨_,.of ea⟩,⟨_,.of eb⟩,h _ _ _ (ah.refl _) (p6 (.of ea) (.of eb)) (dO (by rw [jB];lia)) ⟨rfl,rfl⟩⟩) (fun D i y Hx=>∃x:Addr,y=.ref x∧x≠D∧aI B Hx q x (aa.getD i []++af.getD i [])) (fun D i y Ha Hb ys ⟨x,h1,h2,vs,e1,e2,e3⟩ e f=>⟨x,h1,h2,vs,f _ _ h2 e1,e2,fun j v p x y=>(e3 j v p x y).bC e f⟩) ?_ ?_)
 ·rintro zs H1 ⟨rfl,rfl⟩ _ D i x y gQ Hc R sc ⟨ys,eD⟩ kc
  obtain ⟨h1,h2⟩:=k_.mp gQ;have i1:i<vs.length:=(aP.mp h1).1;have i2:i<us.length:=(aP.mp h2).1;have p1:i<aa.length:=by lia
  have p2:i<af.length:=by lia
  obtain ⟨rx,rfl,xs,ex,lx,fx⟩:=fv i x aa[i] h1 (by simp [p1])
  obtain ⟨ry,rfl,x6,ey,ly,fy⟩:=fu i y af[i] h2 (by simp [p2])
  have l1:=hm _ (aQ p1);have l2:=hu _ (aQ p2);refine ⟨_,rfl,_,rfl,rx,ry,xs,x6,rfl,rfl,sc _ _ ex,sc _ _ ey,aq (show _≤100 by lia) (by decide),fun p np=>?_⟩
  have sp:ah Hc (upd Hc p (.lst (xs++x6))):=aS np;refine kc _ _ sp ⟨p,rfl,(fun e=>by rw [e,eD] at np;cases np),?_⟩
  rw [getD_at p1,getD_at p2];exact aI.cat (B:=B) aA lx ly (fun j v p' h1 h2=>((fx j v p' h1 h2).mono sc).mono sp) (fun j v p' h1 h2=>((fy j v p' h1 h2).mono sc).mono sp)
 ·rintro zs H1 ⟨rfl,rfl⟩ _ D ws Hc nD sc i6 hP eD
  have lz:ws.length=aa.length:=by rw [i6,jB];lia
  refine k D Hc sc nD ⟨ws,eD,by rw [lz,BF];lia,fun i v ps h1 h2=>?_⟩
  have i1:i<ws.length:=(aP.mp h1).1;have p1:i<aa.length:=by lia
  have p2:i<af.length:=by lia
  obtain ⟨x,e1,_,e2⟩:=hP i v h1;refine ⟨x,e1,?_⟩;rw [getD_at p1,getD_at p2] at e2;have e3:ps=aa[i]++af[i]:=by rw [Ft] at h2;simp [p1,p2] at h2;exact h2.symm
  rw [e3];exact e2
def Zy(N:Addr):Sp:=fun vs H Q E=>∃(n:Nat) (a:Addr) (xs:List V),vs=[.int (n:Int),.ref a]∧H a=some (.lst xs)∧(xs.length≠n→E (.ref N) none H)∧(xs.length=n→Q .aY H)
theorem Zz:bF ["n","aim"] ["n","aim"] (aU Dg):=bY
theorem PK(T:Txt K mg t):a7 P w K mg base (e8 P w) 1 t.sI t.vM ["n","aim"] (Zy t.jt):=by
 have S:=Zz;refine T.ud.eR S (fun _ _ _ _ H _ _ _ hr h L=>?_);obtain ⟨n,a,xs,rfl,ea,kE,k⟩:=h;refine ⟨_,(az (bQ (bJ iE (cD dN rfl T.dH dI (ae (pv 1) ai)) (pv 0)) (az (rP L rfl qV T.As rfl T.Ap (ae fV ai))) bW)),?_⟩;refine ⟨_,rfl,a,xs,rfl,.inl (.of ea),_,rfl,rfl,_,rfl,cH (fun fh=>?_) (fun fh=>?_)⟩
 ·have fh:xs.length≠n:=fun z=>by
   have:(xs.length:Int)=(n:Int):=by lia
   rw [jO,dj this] at fh;cases fh
  exact ⟨by show 1≤sizeLine;decide,kE fh⟩
 ·have heq:xs.length=n:=by
   by_cases z:(xs.length:Int)=(n:Int);·lia
   ·exact absurd (by rw [jO,fq z];rfl) fh
  exact k heq
theorem ZA:bF ["table","place"] ["table","place"] (aU Dh):=bY
theorem ZC(T:Txt K mg t):a7 P w K mg base cz 1 t.sJ t.vN ["table","place"] Xb:=by
 have S:=ZA;refine T.xo.cN S (fun _ _ _ _ H vs _ _ hr h=>?_);obtain ⟨a,q,B,j,aa,m,rfl,⟨vs,ea,hl,hn⟩,qw,hm,hj,k⟩:=h;refine ⟨_,(az (aR (gd (N:=["row","place"]) (ρ:=(fun σ=>[σ[1]?.join])) (eS [1] rfl) rfl (e7 (pv 0)) (fun _ _ _=>.nil) (fun _ _ _=>(aE (p8 (K:=K)) (pv 0) (pv 1)))))),?_⟩;refine lU (iu (xs:=vs) (fun R h=>⟨_,rfl,a,rfl,⟨_,.of ea⟩,h _ _ (ah.refl _) (iI (.of ea))⟩) (by rw [hl];exact dO (by lia)) (fun D i y Hx=>∃ps,aa[i]?=some ps∧bZ B Hx q y (ps.getD j (0,1)).1 (ps.getD j (0,1)).2) (fun _ _ _ _ _ _ ⟨ps,h1,h2⟩ e f=>⟨ps,h1,h2.bC e f⟩) ?_ ?_)
 ·intro D i v hi Hc R sc _ kc
  have a_:i<aa.length:=by rw [←hl];exact (aP.mp hi).1
  have ep:aa[i]?=some aa[i]:=by simp [a_]
  obtain ⟨r,rfl,us,er,lr,f⟩:=hn i v aa[i] hi ep;have hlen:=hm aa[i] (aQ ..);have PL:j<us.length:=by lia
  have PM:j<aa[i].length:=by lia
  refine ⟨_,rfl,_,rfl,r,us,_,us[j],rfl,rfl,.of (sc _ _ er),cK (by simp [PL]),kc _ Hc (ah.refl _) ⟨aa[i],ep,?_⟩⟩
  have eg:aa[i].getD j (0,1)=aa[i][j]:=by simp [PM]
  rw [eg];exact (f j us[j] aa[i][j] (by simp [PL]) (by simp [PM])).mono sc
 ·intro D ys Hc nD sc pe hP eD
  refine k D Hc sc nD ⟨ys,eD,by rw [pe,hl,bL],fun i v p h1 h2=>?_⟩
  obtain ⟨ps,e1,e2⟩:=hP i v h1;rw [cF,e1] at h2;cases h2;exact e2
theorem ZD:bF ["table"] ["table"] (aU Di):=bY
theorem IC(T:Txt K mg t):a7 P w K mg base cz 2 t.sL t.vO ["table"] (Xc t.jt):=by
 have S:=ZD;refine T.qu.cN S (fun _ _ _ _ H vs _ _ hr h=>?_);obtain ⟨a,q,B,aa,m,rfl,hA,h1,qw,hm,o4,k⟩:=h;refine ⟨_,(az (aR (gd (N:=["place","table"]) (ρ:=(fun σ=>[σ[0]?.join])) (eS [0] rfl) rfl (jF rfl T.gP (ae (aM (uB T) hr T.qs T.kY.kp T.qr iH (ae (pv 0) ai)) ai)) (fun _ _ _=>.nil) (fun _ _ _=>(aM (ZC T) hr T.Ol T.xo.kp T.Oj aX (ae (pv 1) (ae (pv 0) ai))))))),?_⟩;refine lU (iu (xs:=(List.range m).map fun i:Nat=>V.int (0+(i:Int))) (fun R h=>⟨_,rfl,a,q,B,aa,m,rfl,hA,h1,qw,hm,fun H1 s1=>⟨(m:Int),rfl,by lia,by lia,h _ _ s1 (by rw [df];exact oM)⟩⟩) (by rw [bL,eK];exact dO (by lia)) (fun D i y Hx=>∃r,y=.ref r∧r≠D∧aI B Hx q r (aa.map fun ps:List (Int×Int)=>ps.getD i ((0:Int),(1:Int)))) (fun D i y Ha Hb ys ⟨r,h1,h2,vs,e1,e2,e3⟩ e f=>⟨r,h1,h2,vs,f _ _ h2 e1,e2,fun j v p x y=>(e3 j v p x y).bC e f⟩) ?_ ?_)
 ·intro D i v hi Hc R sc ⟨zs,eD⟩ kc
  have a_:i<m:=by have:=(aP.mp hi).1;simpa using this
  have ev:v=.int (i:Int):=by rw [cF] at hi;simp [a_] at hi;exact hi.symm
  subst ev;refine ⟨_,rfl,_,rfl,a,q,B,i,aa,m,rfl,hA.mono sc,qw,hm,a_,fun b H' s' nb hb=>kc _ H' s' ⟨b,rfl,fun z=>by (rw [z,eD] at nb;cases nb),hb⟩⟩
 ·intro D ys Hc nD sc pe hP eD
  refine k D Hc sc nD ⟨ys,eD,by unfold eW;rw [pe,bL,bL],fun i v ps h1 h2=>?_⟩
  obtain ⟨r,e1,_,e3⟩:=hP i v h1;have a_:i<m:=by have:=(aP.mp h2).1;simpa [eW] using this
  unfold eW at h2;rw [cF] at h2;simp [a_] at h2;subst h2;exact ⟨r,e1,e3⟩
theorem ZE:bF ["world","table","rows","leads","last","lead","turn","found","head"] ["world","table"] (aU Ds):=bY
theorem Et(T:Txt K mg t):a7 P w K mg base cz 5 t.sR t.vU ["world","table"] (Xp t.cq t.jt):=by
 have S:=ZE;have ZF:=Zr (P:=P) (w:=w) (base:=base) T;refine T.o6.cN S (fun _ _ _ _ H vs _ _ hr h=>?_);obtain ⟨z,a,q,B,PP,W,aa,G,rfl,⟨dz,hd⟩,hq,hA,B1,Ay,n1,dF,hW,ID,hE,hG,hP,ph,k⟩:=h
 refine ⟨_,(au (zA (i0:=2) (N:=["row","world"]) (ρ:=(fun σ=>[σ[0]?.join])) (eS [0] rfl) rfl S.nd rfl (Or.inl rfl) (e7 (pv 1)) (fun _ _ _=>.nil) (fun _ _ _=>(aE (p7 (K:=K)) (kH (pv 1) T.eX T.Er ZF (hr.mono (by decide)) T.Pn .nil aX (ae (pv 0) ai)) aj)))
  (au (putL 3 S.nd (dM ai))
  (au (eC 4 S.nd aj)
  (au (ik fP rfl (jF rfl T.gP (ae (aM (uB T) hr T.qs T.kY.kp T.qr iH (ae (pv 1) ai)) ai)) (d_ (i:=5) S.nd rfl (Or.inr rfl))
   (au (putL 6 S.nd (cD dN rfl T.dH dI (ae (pv 3) ai)))
  (au (putL 7 S.nd (aM (Zd T) hr T.Ot T.xq.kp T.Oq aX (ae (pv 2) (ae (pv 6) (ae (pv 5) ai)))))
  (az (bQ (bJ Sy (pv 7) ky) (au (putL 2 S.nd (aM (Zg T) hr T.Ov T.xt.kp T.Ou aX (ae (pv 2) (ae (pv 6) (ae (pv 7) ai)))))
  (au (eC 8 S.nd (aE dc (pv 2) (pv 6)))
  (au (zA (i0:=2) (N:=["row","world","head","lead","last"]) (ρ:=(fun σ=>[σ[0]?.join,σ[8]?.join,σ[5]?.join,σ[4]?.join])) (eS [0,8,5,4] rfl) rfl S.nd rfl (Or.inl rfl) (e7 (pv 2)) (fun _ _ _=>.nil) (fun _ _ _=>(aM (Zi T) hr T.Oo T.xp.kp T.Om aX (ae (pv 1) (ae (pv 0) (ae (pv 2) (ae (pv 3) (ae (pv 4) ai))))))))
  (au (@kD _ _ _ _ _ _ (pv 8) (kC (pv 2) (pv 6) set_list) (by rfl) (by rfl) (by rfl))
  (au (eC 4 S.nd (aE dc (pv 8) (pv 5)))
  (az (mK (rJ qW yX yY mR (pv 3) (ae (pv 5) ai))))))))) bW)))))
  (az (aR (fZ (ae (vv (N:=["row","lead","world"]) (ρ:=(fun σ=>[σ[0]?.join])) (si [0] rfl) rfl (mY rfl T.mh (ae (pv 2) (ae (pv 3) ai))) (fun _ _ _=>.nil) (fun _ _ _=>(aM (Zm T) hr T.Ox T.xu.kp T.Ow aX (ae (pv 2) (ae (pv 0) (ae (pv 1) ai)))))) (ae (pv 3) ai))))))))),?_⟩
 obtain ⟨vs,ea,lv,fv⟩:=id hA;refine fT (gM (iu (xs:=vs) (fun R h=>⟨_,rfl,a,rfl,⟨_,.of ea⟩,h _ _ (ah.refl _) (iI (.of ea))⟩) (by rw [lv];exact dO (by lia)) (fun D i y Hx=>∃(x:Addr) (ts:List Int) (b:Int),y=.ref x∧x≠D∧H x=none∧Hx x=some (.lst (ts.map V.int))∧zT q (G i) W (aa.getD i []) ts b) (fun D i y Ha Hb ys ⟨x,ts,b,h1,h2,h3,h4,h5⟩ e f=>⟨x,ts,b,h1,h2,h3,f _ _ h2 h4,h5⟩) ?_ ?_))
 ·intro D i v hi Hc R sc ⟨zs,eD⟩ kc
  have a_:i<vs.length:=(aP.mp hi).1;have hp:i<aa.length:=by lia
  obtain ⟨r,rfl,cQ⟩:=fv i v aa[i] hi (by simp [hp])
  obtain ⟨D',x,oU,bD,dv,hx⟩:=hE i hp;have ep:aa.getD i []=aa[i]:=getD_at hp;rw [ep] at dv hx kc;have lW:=hW _ (aQ hp);refine ⟨_,rfl,z,dz,_,rfl,sc _ _ hd,kR (by decide +kernel),_,rfl,z,r,q,aa[i],B,D',rfl,⟨dz,sc _ _ hd⟩,hq,cQ.mono sc,by rw [lW];exact ID,oU,dv,Ay,B1,dq bD (hG i).2,fun v H' ts b s' hn wd=>?_⟩
  obtain ⟨tp,l,rfl,uC,el,nl⟩:=hn;exact ⟨tp,_,_,_,rfl,rfl,.of uC,rfl,kc _ H' s' ⟨l,ts,b,rfl,(fun e=>by rw [e,eD] at nl;cases nl),none_of sc nl,el,WR hq wd lW cQ oU hx⟩⟩
 intro D ys H1 nD s1 dY HM eD;have hn:ys.length=aa.length:=by rw [dY,lv]
 obtain ⟨f,hf⟩:=m7 (n:=aa.length) (α:=List Int×Int) (R:=fun i y=>∃x:Addr,ys[i]?=some (.ref x)∧x≠D∧H1 x=some (.lst (y.1.map V.int))∧zT q (G i) W (aa.getD i []) y.1 y.2) fun i hi=>by
  have a_:i<ys.length:=by lia
  obtain ⟨x,ts,b,e1,h2,h3,h4,h5⟩:=HM i ys[i] (by simp [a_])
  exact ⟨(ts,b),x,by rw [←e1];simp [a_],h2,h4,h5⟩
 obtain ⟨AA,nI,ZG⟩:∃AA:Nat→Nat→Int,(∀i,i<aa.length→∀k,AA i k=(f i).1.getD k 0)∧∀i k,aa.length≤i→AA i k=0:=⟨fun i k=>if i<aa.length then (f i).1.getD k 0 else 0,fun i hi k=>ak hi,fun i k hi=>ao (by lia)⟩
 dsimp only [aT];simp only [L2.start,cS,ib,fU,gU,List.replicate,gY,gC,bj,bq];refine ⟨by show 0≤sizeLine;decide,fun l nl=>?_⟩
 have s2:ah H (upd H1 l (.lst [])):=s1.trans (aS nl);have el:upd H1 l (.lst []) l=some (.lst (cY [])):=aA;have iR:jY (upd H1 l (.lst [])) D l aa.length W AA:=by
  refine ⟨ys,aS nl _ _ eD,hn,(fun e=>by rw [e,nl] at eD;cases eD),fun i v hv=>?_⟩
  have a_:i<aa.length:=by rw [←hn];exact (aP.mp hv).1
  obtain ⟨x,e1,e2,e3,e4⟩:=hf i a_;rw [e1] at hv;cases hv;refine ⟨x,rfl,e2,(fun e=>by rw [e,nl] at e3;cases e3),?_⟩
  rw [show AA i=fun k=>(f i).1.getD k 0 from funext fun k=>nI i a_ k,Nc _ e4.len];exact aS nl _ _ e3
 generalize upd H1 l (.lst [])=H2 at s2 el iR ⊢;dsimp only [aT];simp only [bj,bq];have IE:H l=none:=none_of s1 nl;refine ⟨_,rfl,a,q,B,aa,W,rfl,hA.mono s2,n1,dF,hW,fun H3 s3=>⟨(W:Int),rfl,by lia,by lia,?_⟩⟩
 rw [df];obtain ⟨A0,ZH,ZI⟩:∃A0:Nat→Nat→Int,A0=AA∧∀i k,(A0 i k).natAbs≤G i:=⟨AA,rfl,fun i k=>by
  by_cases hi:i<aa.length
  ·obtain ⟨x,e1,e2,e3,e4⟩:=hf i hi
   rw [nI i hi k];exact e4.bd k
  ·rw [ZG i k (by lia)]
   exact eJ _⟩
 have I0:g_ q PP aa.length W AA AA [] 1 0:=by refine g_.start hq (G:=G) (ZH▸ZI) (fun i=>(hG i).1) hP ph n1 fun z i k hi hk=>?_;obtain ⟨x,e1,e2,e3,e4⟩:=hf i hi;rw [nI i hi k];exact e4.rem z k hk
 refine rq (fun i σ Hc=>ah H Hc∧∃(rr:Addr) (M:aC) (L:List Nat) (last:Int) (v5 v6 v7 v8:Option V),σ=[some (.ref z),some (.ref a),some (.ref rr),some (.ref l),some (.int last),v5,v6,v7,v8]∧Hc l=some (.lst (cY L))∧jY Hc rr l aa.length W M∧g_ q PP aa.length W AA M L last i) ⟨s2.trans s3,D,AA,[],1,none,none,none,none,rfl,s3 _ _ el,iR.mono s3,I0⟩ ?_ ?_
 ·rintro i σ Hc hi ⟨sc,rr,M,L,last,v5,v6,v7,v8,rfl,el,iR,I⟩
  rw [show (0:Int)+(i:Int)=(i:Int) by lia]
  refine ⟨_,rfl,l,cY L,rfl,.inl (.of el),?_⟩;rw [show ((cY L).length:Int)=(L.length:Int) by simp [cY]]
  dsimp only [aT];simp only [bj,bq];refine ⟨_,rfl,_,rfl,_,rfl,rr,aa.length,W,L.length,i,M,rfl,iR.rows,I.rd.len,by lia,hi,fun s' hs sn ns=>?_,fun hz=>?_⟩
  ·dsimp only [aT]
   simp only [bj,bq];obtain ⟨Ef,IF,I'⟩:=I.next hq hi hs sn ns;obtain ⟨ml,IG⟩:=I.last hq;have md:∀i' k',i'<aa.length→k'<W→cC (bT M L.length s' i' k'):=fun i' k' h1 h2=>by
    have b:∀j,j<aa.length→cC (M j k'):=fun j hj=>dq (I.bd hq hj h2) I.mid;unfold bT
    split
    ·exact b _ (by lia)
    ·split
     ·exact b _ sn
     ·exact b _ h1
   have rn:L.length<aa.length:=by lia
   refine ⟨_,rfl,rfl,_,rfl,fg ?_⟩;refine ⟨_,rfl,_,rfl,_,rfl,rr,l,aa.length,W,L.length,s',M,rfl,iR,⟨_,el⟩,rn,sn,fun b H4 s4 nb uD=>?_⟩;dsimp only [aT];simp only [bj,bq];have x8:=s4 _ _ el;generalize bT M L.length s'=M1 at IF I' uD md;obtain ⟨Az,eb,PN,bl,PQ⟩:=id uD;have Eu:L.length<Az.length:=by lia
   obtain ⟨hx,ZJ,qj,ZK,eh⟩:=PQ L.length Az[L.length] (by simp [Eu])
   refine ⟨_,rfl,_,rfl,b,Az,_,.ref hx,rfl,rfl,.of eb,cK (by rw [←ZJ];simp [Eu]),?_⟩
   dsimp only [aT];simp only [bj,bq];have IH:=sc.trans s4;refine fT (gM (iu (xs:=Az) (fun R h=>⟨_,rfl,b,rfl,⟨_,.of eb⟩,h _ _ (ah.refl _) (iI (.of eb))⟩) (by rw [PN];exact dO (by lia)) (fun D i y Hx=>∃x:Addr,y=.ref x∧x≠D∧x≠l∧Hx x=some (.lst (((List.range W).map (Ef i)).map V.int))) (fun D i y Ha Hb ys ⟨x,h1,h2,h3,h4⟩ e f=>⟨x,h1,h2,h3,f _ _ h2 h4⟩) ?_ ?_))
   ·intro D i' v a_ Hd R sd ⟨zs,eD⟩ kd
    have fH:i'<Az.length:=(aP.mp a_).1;have hp:i'<aa.length:=by lia
    obtain ⟨x,rfl,_,_,ex⟩:=PQ i' v a_;exact ⟨_,rfl,_,rfl,_,rfl,_,rfl,_,rfl,z,x,hx,q,last,W,i,M1 i',M1 L.length,Ef i',rfl,⟨dz,sd _ _ (IH _ _ hd)⟩,hq,sd _ _ ex,sd _ _ eh,hi,ID,fun k' dS=>⟨md i' k' hp dS,md _ k' rn dS⟩,ml,IG,fun z k' _=>(IF i' hp).1 z k',fun z k' _=>(IF i' hp).2 z k',fun r H' s' nr er=>kd _ H' s' ⟨r,rfl,(fun e=>by rw [e,eD] at nr;cases nr),(fun e=>by rw [e,sd _ _ x8] at nr;cases nr),er⟩⟩
   intro D uE H5 Ew s5 ZL ZM ZN;dsimp only [aT];simp only [bj,bq];have ZO:L.length<uE.length:=by lia
   have Dl:D≠l:=fun e=>by rw [e,x8] at Ew;cases Ew
   refine ⟨_,rfl,_,rfl,_,rfl,D,uE,_,L.length,rfl,rfl,ZN,(by unfold gI;rw [ak (by lia),ak (by lia),df]),?_⟩
   have ZP:H D=none:=none_of IH Ew;have s6:ah H (upd H5 D (.lst (uE.set L.length (.ref hx)))):=dP (IH.trans s5) ZP;have PR:hx≠D:=fun e=>by rw [e,Ew] at eh;cases eh
   have II:upd H5 D (.lst (uE.set L.length (.ref hx))) hx=some (.lst (((List.range W).map (M1 L.length)).map V.int)):=by rw [bI PR];exact s5 _ _ eh
   have IJ:upd H5 D (.lst (uE.set L.length (.ref hx))) l=some (.lst (cY L)):=by rw [bI (Ne.symm Dl)];exact s5 _ _ x8
   have PU:jY (upd H5 D (.lst (uE.set L.length (.ref hx)))) D l aa.length W (fun i=>if i=L.length then M1 L.length else Ef i):=by
    refine ⟨_,aA,by rw [gS,ZL,PN],Dl,fun j v hv=>?_⟩
    by_cases ej:j=L.length
    ·subst ej
     rw [jv ZO] at hv;cases hv;refine ⟨hx,rfl,PR,ZK,?_⟩;dsimp only;rw [ak rfl];exact II
    ·rw [jw (fun e=>ej e.symm)] at hv
     obtain ⟨x,e1,e2,e3,e4⟩:=ZM j v hv;refine ⟨x,e1,e2,e3,?_⟩;dsimp only;rw [ao ej,bI e2];exact e4
   dsimp only;generalize upd H5 D (.lst (uE.set L.length (.ref hx)))=H6 at s6 II IJ PU ⊢;refine ⟨_,rfl,_,rfl,hx,_,_,_,rfl,rfl,.of II,qi hi (M1 L.length),?_⟩;dsimp only [aT];simp only [bj,bq];refine ⟨_,rfl,.inl ⟨rfl,_,.of IJ⟩,_,rfl,l,cY L,_,rfl,rfl,IJ,dq (show (cY L).length≤100 by simp [cY];lia) (by decide),?_⟩
   have eN:cY L++[.int (i:Int)]=cY (L++[i]):=by simp [cY]
   rw [eN];exact ⟨dP s6 IE,D,_,L++[i],M1 L.length i,_,_,_,_,rfl,aA,PU.off _,I'⟩
  ·dsimp only [aT]
   simp only [bj,bq];refine ⟨_,rfl,rfl,_,rfl,cP ?_⟩;exact ⟨sc,rr,M,L,last,_,_,_,_,rfl,el,iR,I.skip hz⟩
 ·rintro σ Hc ⟨sc,rr,M,L,last,v5,v6,v7,v8,rfl,el,iR,I⟩
  obtain ⟨ZQ,er,lv6,rl,ZR⟩:=id iR;have lN:(cY L).length=L.length:=by simp [cY]
  have ln:=I.rd.len;dsimp only;refine lU (MG (Cy (Z:=fun zs Hx=>zs=ZQ.zip (cY L)∧Hx=Hc) (fun R h=>⟨_,rfl,_,rfl,rr,l,rfl,⟨_,.of er⟩,⟨_,.of el⟩,h _ _ _ (ah.refl _) (p6 (.of er) (.of el)) (dO (by rw [jB];lia)) ⟨rfl,rfl⟩⟩) (fun D j y Hx=>∃(x:Addr) (ps:aD),y=.ref x∧x≠D∧aI (aa.length*(bA aa.length*PP)) Hx q x ps∧ps.length=W∧∀k,k<W→aO q (ps.getD k o1) (M j k,M j (L.getD j 0))) (fun D j y Ha Hb ys ⟨x,ps,h1,h2,⟨ws,e1,e2,e3⟩,h4,h5⟩ e f=>⟨x,ps,h1,h2,⟨ws,f _ _ h2 e1,e2,fun j v p x y=>(e3 j v p x y).bC e f⟩,h4,h5⟩) ?_ ?_))
  ·rintro zs ZS ⟨rfl,rfl⟩ _ D' j x y gQ Hd R sd ⟨ws,uF⟩ kd
   obtain ⟨h1,h2⟩:=k_.mp gQ;have j2:j<L.length:=by rw [←lN];exact (aP.mp h2).1
   have j1:j<aa.length:=by lia
   obtain ⟨rx,rfl,_,_,ex⟩:=ZR j x h1;have ey:y=.int ((L.getD j 0:Nat):Int):=by unfold cY at h2;rw [cF,cF] at h2;simp [j2] at h2;rw [getD_at j2];exact h2.symm
   subst ey;have cW:L.getD j 0<W:=I.rd.lt _ (by rw [getD_at j2];exact aQ _)
   exact ⟨_,rfl,_,rfl,_,rfl,z,rx,q,W,L.getD j 0,M j,aa.length*(bA aa.length*PP),rfl,⟨dz,sd _ _ (sc _ _ hd)⟩,hq,sd _ _ ex,cW,ID,I.rd.lead j j2,dq (I.bd hq j1 cW) I.mid,fun k' dS=>I.bd hq j1 dS,fun r ps H' s' nr cQ lp hw=>kd _ H' s' ⟨r,ps,rfl,(fun e=>by rw [e,uF] at nr;cases nr),cQ,lp,hw⟩⟩
  ·rintro zs ZS ⟨rfl,rfl⟩ _ D' ws H7 IK s7 i6 ZT Ex
   have lz:ws.length=L.length:=by rw [i6,jB];lia
   obtain ⟨af,lr,AB⟩:=pick (R:=fun(j:Nat) (y:V) (ps:aD)=>∃x:Addr,y=.ref x∧aI (aa.length*(bA aa.length*PP)) H7 q x ps∧ps.length=W∧∀k,k<W→aO q (ps.getD k o1) (M j k,M j (L.getD j 0))) (fun j y hy=>by obtain ⟨x,ps,h1,_,h3,h4,h5⟩:=ZT j y hy;exact ⟨ps,x,h1,h3,h4,h5⟩)
   refine ⟨_,rfl,by show 2≤sizeLine;decide,fun p np=>?_⟩
   have sp:ah H7 (upd H7 p (.tup [.ref D',.ref l])):=aS np;refine k p D' l _ AA M (fun i=>(f i).2) L last af (sc.trans (s7.trans sp)) aA (sp _ _ (s7 _ _ el)) ⟨ws,sp _ _ Ex,lr.symm,fun j v ps h1 h2=>?_⟩ ⟨I,fun i hi=>?_,fun i k' hi dS=>?_,by lia,fun ps CU=>?_,fun j k' hj dS=>?_⟩
   ·obtain ⟨x,e1,e2,_⟩:=AB j v ps h1 h2
    exact ⟨x,e1,e2.mono sp⟩
   ·obtain ⟨x,e1,e2,e3,e4⟩:=hf i hi
    exact e4.ok
   ·obtain ⟨x,e1,e2,e3,e4⟩:=hf i hi
    rw [nI i hi k'];exact e4.eq k' dS
   ·obtain ⟨j,hj,e⟩:=gh.mp CU
    have j1:j<ws.length:=by lia
    obtain ⟨x,_,_,e3,_⟩:=AB j ws[j] ps (by simp [j1]) (by simp [hj,e])
    exact e3
   ·have j1:j<ws.length:=by lia
    have j2:j<af.length:=by lia
    obtain ⟨x,_,_,_,e4⟩:=AB j ws[j] af[j] (by simp [j1]) (by simp [j2])
    unfold atT;rw [getD_at j2];exact e4 k' dS
theorem ZU:bF ["world","table","other","n","told"] ["world","table","other"] (aU Dy):=bY
theorem PV(T:Txt K mg t):a7 P w K mg base (e8 P w) 6 t.sY t.v_ ["world","table","other"] (Xq t.cq t.jt):=by
 have S:=ZU;refine T.uh.eR S (fun _ _ _ _ H vs _ _ hr h L=>?_);obtain ⟨z,a,b,q,B,PP,u,aa,bO,G,rfl,hz,hq,hA,hU,B1,Ay,n1,dF,lu,hm,hu,Ax,hw,hE,hG,hP,ph,kN,k⟩:=h;have kZ:=hr.units
 refine ⟨_,(au (eC 3 S.nd (aM (Iz T) hr T.Ej T.qt.kp T.Ei (iY L) (ae (pv 1) ai)))
  (au (putL 4 S.nd (aM (Et T) hr T.Ac T.o6.kp T.Ab aX (ae (pv 0) (ae (aM (IA T) hr T.En T.qv.kp T.Em aX (ae (pv 1) (ae (pv 2) ai))) ai))))
  (au (bQ (bJ (Wy kZ) (aE bG (pv 4) aj) (pU (UC rfl) rfl T.o_ boot_list (ae (pU UA rfl T.gP UE (ae (pv 3) ai)) ai))) (az (aR ky)) bW)
  (az (aR (gd (N:=["row","n"]) (ρ:=(fun σ=>[σ[3]?.join])) (eS [3] rfl) rfl (e7 (aE bG (pv 4) aj)) (fun _ _ _=>.nil) (fun _ _ _=>(B3 (Nd (K:=K)) (pv 0) (zi (pv 1)) FX)))))))),?_⟩
 have lz:(List.zipWith (·++·) aa bO).length=aa.length:=by rw [BF,lu,Nat.min_self]
 refine ⟨_,rfl,a,q,B,aa,aa.length,rfl,hA,n1,dF,hm,fun h=>absurd rfl h,fun _ H1 s1=>?_⟩;dsimp only [aT];simp only [L2.start,cS,ib,fU,gU,List.replicate,gY,gC,bj,bq];refine ⟨_,rfl,_,rfl,_,rfl,a,b,q,B,aa,bO,aa.length,u,rfl,hA.mono s1,hU.mono s1,lu.symm,dF,hm,hu,dF,Ax,fun r H2 s2 nr hT=>?_⟩;refine ⟨z,r,q,B,PP,aa.length+u,List.zipWith (·++·) aa bO,G,rfl,(hz.mono s1).mono s2,hq,hT,B1,Ay,by lia,by lia,hw,by lia,fun i hi=>hE i (by lia),hG,by rw [lz];exact hP,by rw [lz];exact ph,fun p rr l H3 AA M c LL last af s3 ep el hR R=>?_⟩
 rw [lz] at hR;dsimp only [aT];simp only [bj,bq];have uH:=s1.trans (s2.trans s3);refine ⟨_,rfl,p,_,_,_,rfl,rfl,.of ep,rfl,_,rfl,(aa.length:Int),rfl,fun pr ZV=>?_⟩;have s4:ah H3 (upd H3 pr (.lh 0 (aa.length:Int))):=aS ZV;have PX:upd H3 pr (.lh 0 (aa.length:Int)) pr=some (.lh 0 (aa.length:Int)):=aA;generalize upd H3 pr (.lh 0 (aa.length:Int))=H4 at s4 PX ⊢;refine ⟨pr,aa.length,rfl,PX,by lia,fun lr ZW=>?_⟩
 have s5:ah H4 (upd H4 lr (.lst (lM aa.length))):=aS ZW;have qx:upd H4 lr (.lst (lM aa.length)) lr=some (.lst (lM aa.length)):=aA;generalize upd H4 lr (.lst (lM aa.length))=H5 at s5 qx ⊢;rw [WU] at qx;have uI:=s4.trans s5;refine ⟨l,lr,LL.map (fun j:Nat=>(j:Int)),(List.range aa.length).map (fun j:Nat=>(j:Int)),rfl,rfl,.of (uI _ _ el),.of qx,_,rfl,cH (fun fh=>?_) (fun fh=>?_)⟩
 ·refine kN H5 AA M c LL last af (uH.trans uI) R fun e=>?_
  rw [e] at fh;simp at fh
 ·have eL:LL=List.range aa.length:=WV (by simpa using fh)
  subst eL;have ZX:=hR.mono uI;obtain ⟨vs,er,lv,fv⟩:=id ZX;have lr:af.length=aa.length:=by rw [R.len,eK]
  dsimp only [gq];refine lU (iu (xs:=vs) (fun R h=>⟨_,rfl,p,_,_,_,rfl,rfl,.of (uI _ _ ep),rfl,rr,rfl,⟨_,.of er⟩,h _ _ (ah.refl _) (iI (.of er))⟩) (by rw [lv];exact dO (by lia)) (fun D j y Hx=>∃x:Addr,y=.ref x∧x≠D∧H x=none∧aI (aa.length*(bA aa.length*PP)) Hx q x ((af.getD j []).drop aa.length)) (fun D j y Ha Hb ys ⟨x,h1,h2,h3,⟨ws,e1,e2,e3⟩⟩ e f=>⟨x,h1,h2,h3,⟨ws,f _ _ h2 e1,e2,fun j v p x y=>(e3 j v p x y).bC e f⟩⟩) ?_ ?_)
  ·intro D j v hj Hc R' sc ⟨zs,eD⟩ kc
   have j1:j<vs.length:=(aP.mp hj).1;have j2:j<af.length:=by lia
   obtain ⟨x,rfl,ws,ew,lw,fw⟩:=fv j v af[j] hj (by simp [j2])
   have lW:=R.eF _ (aQ j2);refine ⟨_,rfl,_,rfl,_,rfl,x,ws,rfl,.of (sc _ _ ew),fun r' k6=>?_⟩;rw [WT _ _ (by lia)]
   have s6:ah Hc (upd Hc r' (.lst (ws.drop aa.length))):=aS k6;refine kc _ _ s6 ⟨r',rfl,(fun e=>by rw [e,eD] at k6;cases k6),none_of (uH.trans (uI.trans sc)) k6,?_⟩
   rw [getD_at j2];exact aI.drop aA lw fun i v p h1 h2=>((fw i v p h1 h2).mono sc).mono s6
  ·intro D ys H6 nD s6 dY IL eD
   refine k H6 AA M c last af D (uH.trans (uI.trans s6)) R ⟨H3,rr,hR⟩ ⟨ys,eD,by rw [dY,lv,bL],none_of (uH.trans uI) nD,fun j v ps h1 h2=>?_⟩
   obtain ⟨x,e1,e2,e3,e4⟩:=IL j v h1;have j2:j<af.length:=by have:=(aP.mp h2).1;simpa using this
   rw [cF] at h2;simp [j2] at h2;rw [getD_at j2] at e4;subst h2;exact ⟨x,e1,e2,e3,e4⟩
theorem ZY:bF ["world","rows","leads","wide","answer","row","lead"] ["world","rows","leads","wide"] (aU Du):=bY
theorem PY(T:Txt K mg t):a7 P w K mg base cz 4 t.sU t.vW ["world","rows","leads","wide"] (Xl t.cq):=by
 have S:=ZY;have j9:=Au (P:=P) (w:=w) (base:=base) T;obtain ⟨dv,mj,iP⟩:=T.Al;refine T.uf.cN S (fun _ _ _ _ H vs _ _ hr h=>?_);obtain ⟨z,ra,la,q,B,W,wide,af,L,rfl,hz,hq,hR,B1,hW,el,lr,ZZ,up,hL,IM,wW,k⟩:=h
 refine ⟨_,(au (putL 4 S.nd (aw rN (dM (ae (kH (pv 0) T.eX T.nG j9 (hr.mono (by decide)) iP mj iH (ae aj ai)) ai)) (pv 3)))
  (au (ik fP rfl (mY rfl T.mh (ae (pv 1) (ae (pv 2) ai))) (y_ rfl (mM (d_ (i:=5) S.nd rfl (Or.inl rfl)) (mM (d_ (i:=6) S.nd rfl (Or.inl rfl)) y8)))
   (az (@kD _ _ _ _ _ _ (aE dc (pv 5) (pv 3)) (kC (pv 4) (pv 6) set_list) (by rfl) (by rfl) (by rfl))))
  (az (aR (pv 4))))),?_⟩
 obtain ⟨dz,hd⟩:=id hz;have nv:=Cw hq;refine ⟨_,rfl,z,dz,_,rfl,hd,kR (by decide +kernel),z,q,0,1,rfl,⟨dz,hd⟩,hq,cC.of_lt (by decide) (by decide),fun h=>absurd h nv,fun _ v0 H1 s1 ho=>?_⟩
 refine ⟨by show 1≤sizeLine;decide,fun l nl=>?_⟩
 have sl:ah H1 (upd H1 l (.lst [v0])):=aS nl;have pj:upd H1 l (.lst [v0]) l=some (.lst [v0]):=aA;have h0:=qa (B:=B) (by lia) (ho.mono sl) hq (.inl rfl)
 generalize upd H1 l (.lst [v0])=H2 at sl pj h0 ⊢;refine ⟨_,rfl,l,(wide:Int),[v0],rfl,rfl,pj,by lia,by lia,?_,fun r nr=>?_⟩
 ·rw [df]
  exact aq (show [v0].length*wide≤40 by simp;exact IM) (by decide)
 rw [df,show (List.replicate wide [v0]).flatten=List.replicate wide v0 by
  clear wW hL k
  induction wide with
  | zero=>rfl
  | succ n ih=>simp [nU]]
 have sr:ah H2 (upd H2 r (.lst (List.replicate wide v0))):=aS nr;have er:upd H2 r (.lst (List.replicate wide v0)) r=some (.lst (List.replicate wide v0)):=aA;have h0:=h0.mono sr;generalize upd H2 r (.lst (List.replicate wide v0))=H3 at sr er h0 ⊢;have s3:=s1.trans (sl.trans sr);have x9:H r=none:=none_of (s1.trans sl) nr;dsimp only [aT];simp only [L2.start,cS,ib,fU,gU,List.replicate,gY,gC,bj,bq];have uA:aI B H3 q r (List.replicate wide ((0:Int),(1:Int))):=by
  refine ⟨_,er,by simp,fun j v p hv hp=>?_⟩
  have hj:j<wide:=by have:=(aP.mp hv).1;simpa using this
  simp [hj] at hv hp;subst hv hp;exact h0
 obtain ⟨vs,ea,lv,fv⟩:=id hR;have lN:(cY L).length=L.length:=by simp [cY]
 refine ⟨_,rfl,_,rfl,ra,la,rfl,⟨_,.of (s3 _ _ ea)⟩,⟨_,.of (s3 _ _ el)⟩,?_⟩;refine Gx (K:=K) (xs:=vs) (ys:=cY L) (fun i σ Hc=>ah H Hc∧∃(ps:aD) (v5 v6:Option V),σ=[some (.ref z),some (.ref ra),some (.ref la),some (.int (wide:Int)),some (.ref r),v5,v6]∧aI B Hc q r ps∧ps.length=wide∧(∀j,j<i→j<L.length→ps.getD (L.getD j 0) o1=atT af j wide)∧(∀k,k<wide→(∀j,j<i→k≠L.getD j 0)→ps.getD k o1=(0,1))) ⟨s3,_,none,none,rfl,uA,by simp,(fun j hj=>by lia),fun k hk _=>by rw [getD_at (by simpa using hk)];simp⟩ (fun i σ Hc ⟨sc,_⟩=>⟨.of (sc _ _ ea),.of (sc _ _ el)⟩) ?_ ?_
 ·rintro i x y σ Hc Tt gQ ⟨sc,ps,v5,v6,rfl,cQ,lp,pw,p0⟩ nT
  obtain ⟨e1,e2⟩:=k_.mp gQ;have i1:i<vs.length:=(aP.mp e1).1;have i2:i<af.length:=by lia
  have i3:i<L.length:=by lia
  obtain ⟨rx,rfl,ws,ew,lw,fw⟩:=fv i x af[i] e1 (by simp [i2])
  have ey:y=.int ((L.getD i 0:Nat):Int):=by unfold cY at e2;rw [cF,cF] at e2;simp [i3] at e2;rw [getD_at i3];exact e2.symm
  subst ey;have cW:L.getD i 0<wide:=hL _ (by rw [getD_at i3];exact aQ _)
  have sT:ah Hc (upd Hc Tt (.tup [.ref rx,.int ((L.getD i 0:Nat):Int)])):=aS nT;have eT:upd Hc Tt (.tup [.ref rx,.int ((L.getD i 0:Nat):Int)]) Tt=some (.tup [.ref rx,.int ((L.getD i 0:Nat):Int)]):=aA;generalize upd Hc Tt (.tup [.ref rx,.int ((L.getD i 0:Nat):Int)])=Hd at sT eT ⊢;have sd:=sc.trans sT;refine ⟨Tt,_,rfl,.of eT,rfl,_,_,rfl,_,_,rfl,rfl,?_⟩;have lW:=hW _ (aQ i2);have f1:wide<ws.length:=by lia
  have f2:wide<af[i].length:=by lia
  have zf:=(fw wide ws[wide] af[i][wide] (by simp [f1]) (by simp [f2])).mono sd
  have IP:da ws (wide:Int)=some ws[wide]:=cK (by simp [f1])
  obtain ⟨us,eu,lu,fu⟩:=cQ.mono sT;refine ⟨_,rfl,_,rfl,rx,ws,_,_,rfl,rfl,.of (sd _ _ ew),IP,_,rfl,_,rfl,r,us,_,L.getD i 0,rfl,rfl,eu,?_,?_⟩
  ·unfold gI
   rw [ak (by lia),ak (by lia),df]
  ·refine ⟨dP sd x9,ps.set (L.getD i 0) af[i][wide],_,_,rfl,⟨_,aA,by rw [gS,gS];exact lu,fun j v p h1 h2=>?_⟩,by rw [gS];exact lp,?_,?_⟩
   ·by_cases y:j=L.getD i 0
    ·subst y
     rw [jv (by lia)] at h1 h2
     cases h1;cases h2;exact zf.bC eu j7
    ·rw [jw (fun e=>y e.symm)] at h1 h2
     exact (fu j v p h1 h2).bC eu j7
   ·intro j hj AD
    by_cases y:j=i
    ·subst y
     rw [G_ (by lia)]
     unfold atT;rw [getD_at i2,getD_at f2]
    ·rw [vE (fun e=>y (CL up AD i3 e))]
     exact pw j (by lia) AD
   ·intro k' dS hj
    rw [vE (hj i (by lia))]
    exact p0 k' dS fun j di=>hj j (by lia)
 ·rintro σ Hc ⟨sc,ps,v5,v6,rfl,cQ,lp,pw,p0⟩
  have lz:(vs.zip (cY L)).length=L.length:=by rw [jB];lia
  rw [lz] at pw p0;refine ⟨_,rfl,k r ps Hc sc x9 cQ lp (fun j hj=>pw j hj hj) fun k' dS AE=>p0 k' dS fun j hj e=>AE ?_⟩;rw [e,getD_at hj];exact aQ _
theorem Z0:bF ["world","rows","leads","wide","free","move","row","lead"] ["world","rows","leads","wide","free"] (aU Dv):=bY
theorem PZ(T:Txt K mg t):a7 P w K mg base cz 5 t.sV t.vX ["world","rows","leads","wide","free"] (Xm t.cq):=by
 have S:=Z0;have j9:=Au (P:=P) (w:=w) (base:=base) T;have Z1:=Y_ (P:=P) (w:=w) (base:=base) T;obtain ⟨dv,mj,iP⟩:=T.Al;refine T.ug.cN S (fun _ _ _ _ H vs _ _ hr h=>?_);obtain ⟨z,ra,la,q,B,W,wide,free,af,L,rfl,hz,hq,hR,B1,B2,hW,el,lr,ZZ,up,hL,IM,wW,hf,nf,k⟩:=h
 refine ⟨_,(au (putL 5 S.nd (aw rN (dM (ae (kH (pv 0) T.eX T.nG j9 (hr.mono (by decide)) iP mj iH (ae aj ai)) ai)) (pv 3)))
  (au (@kD _ _ _ _ _ _ (kH (pv 0) T.eX T.nG j9 (hr.mono (by decide)) iP mj iH (ae aj ai)) (kC (pv 5) (pv 4) set_list) (by rfl) (by rfl) (by rfl))
  (au (ik fP rfl (mY rfl T.mh (ae (pv 1) (ae (pv 2) ai))) (y_ rfl (mM (d_ (i:=6) S.nd rfl (Or.inl rfl)) (mM (d_ (i:=7) S.nd rfl (Or.inl rfl)) y8)))
   (az (@kD _ _ _ _ _ _ (kH (pv 0) T.eX T.Eo Z1 (hr.mono (by decide)) T.Pl .nil aX (ae (kH (pv 0) T.eX T.nG j9 (hr.mono (by decide)) iP mj iH (ae aj ai)) (ae (aE dc (pv 6) (pv 4)) ai))) (kC (pv 5) (pv 7) set_list) (by rfl) (by rfl) (by rfl))))
  (az (aR (pv 5)))))),?_⟩
 obtain ⟨dz,hd⟩:=id hz;have nv:=Cw hq;refine ⟨_,rfl,z,dz,_,rfl,hd,kR (by decide +kernel),z,q,0,1,rfl,⟨dz,hd⟩,hq,cC.of_lt (by decide) (by decide),fun h=>absurd h nv,fun _ v0 H1 s1 ho=>?_⟩
 refine ⟨by show 1≤sizeLine;decide,fun l nl=>?_⟩
 have sl:ah H1 (upd H1 l (.lst [v0])):=aS nl;have pj:upd H1 l (.lst [v0]) l=some (.lst [v0]):=aA;have h0:=qa (B:=B) (by lia) (ho.mono sl) hq (.inl rfl)
 generalize upd H1 l (.lst [v0])=H2 at sl pj h0 ⊢;refine ⟨_,rfl,l,(wide:Int),[v0],rfl,rfl,pj,by lia,by lia,?_,fun r nr=>?_⟩
 ·rw [df]
  exact aq (show [v0].length*wide≤40 by simp;exact IM) (by decide)
 rw [df,show (List.replicate wide [v0]).flatten=List.replicate wide v0 by
  clear hf wW hL k nf
  induction wide with
  | zero=>rfl
  | succ n ih=>simp [nU]]
 have sr:ah H2 (upd H2 r (.lst (List.replicate wide v0))):=aS nr;have er:upd H2 r (.lst (List.replicate wide v0)) r=some (.lst (List.replicate wide v0)):=aA;have h0:=h0.mono sr;generalize upd H2 r (.lst (List.replicate wide v0))=H3 at sr er h0 ⊢;have s3:=s1.trans (sl.trans sr);have x9:H r=none:=none_of (s1.trans sl) nr;dsimp only [aT];simp only [L2.start,cS,ib,fU,gU,List.replicate,gY,gC,bj,bq];refine ⟨_,rfl,z,dz,_,rfl,s3 _ _ hd,kR (by decide +kernel),z,q,1,1,rfl,⟨dz,s3 _ _ hd⟩,hq,cC.of_lt (by decide) (by decide),fun h=>absurd h nv,fun _ v1 H4 s4 Aw=>?_⟩
 have h1:=qa (B:=B) (by lia) Aw hq (.inr rfl)
 refine ⟨_,rfl,_,rfl,r,_,_,free,rfl,rfl,s4 _ _ er,?_,?_⟩
 ·unfold gI
  rw [ak (by lia),ak (by simp;exact hf),df]
 have uA:aI B (upd H4 r (.lst ((List.replicate wide v0).set free v1))) q r (((List.replicate wide ((0:Int),(1:Int)))).set free (1,1)):=by
  refine ⟨_,aA,by simp,fun j v p hv hp=>?_⟩
  have bC:∀b o,b≠r→H4 b=some o→upd H4 r (.lst ((List.replicate wide v0).set free v1)) b=some o:=fun b o nb e=>by rw [bI nb];exact e
  have hj:j<wide:=by have:=(aP.mp hv).1;simpa using this
  by_cases y:j=free
  ·subst y
   rw [jv (by simpa using hj)] at hv hp
   cases hv;cases hp;exact h1.bC (s4 _ _ er) bC
  ·rw [jw (by lia)] at hv hp
   simp [hj] at hv hp;subst hv hp;exact (h0.mono s4).bC (s4 _ _ er) bC
 have s5:ah H (upd H4 r (.lst ((List.replicate wide v0).set free v1))):=dP (s3.trans s4) x9;dsimp only;generalize upd H4 r (.lst ((List.replicate wide v0).set free v1))=H5 at uA s5 ⊢;obtain ⟨vs,ea,lv,fv⟩:=id hR;have lN:(cY L).length=L.length:=by simp [cY]
 refine ⟨_,rfl,_,rfl,ra,la,rfl,⟨_,.of (s5 _ _ ea)⟩,⟨_,.of (s5 _ _ el)⟩,?_⟩;refine Gx (K:=K) (xs:=vs) (ys:=cY L) (fun i σ Hc=>ah H Hc∧∃(ps:aD) (v6 v7:Option V),σ=[some (.ref z),some (.ref ra),some (.ref la),some (.int (wide:Int)),some (.int (free:Int)),some (.ref r),v6,v7]∧aI B Hc q r ps∧ps.length=wide∧ps.getD free o1=(1,1)∧(∀j,j<i→j<L.length→aO q (ps.getD (L.getD j 0) o1) (-(atT af j free).1,(atT af j free).2))∧(∀k,k<wide→k≠free→(∀j,j<i→k≠L.getD j 0)→ps.getD k o1=(0,1))) ⟨s5,_,none,none,rfl,uA,by simp,G_ (by simpa using hf),(fun j hj=>by lia),fun k hk nk _=>by rw [vE nk,getD_at (by simpa using hk)];simp⟩ (fun i σ Hc ⟨sc,_⟩=>⟨.of (sc _ _ ea),.of (sc _ _ el)⟩) ?_ ?_
 ·rintro i x y σ Hc Tt gQ ⟨sc,ps,v6,v7,rfl,cQ,lp,pf,pw,p0⟩ nT
  obtain ⟨e1,e2⟩:=k_.mp gQ;have i1:i<vs.length:=(aP.mp e1).1;have i2:i<af.length:=by lia
  have i3:i<L.length:=by lia
  obtain ⟨rx,rfl,ws,ew,lw,fw⟩:=fv i x af[i] e1 (by simp [i2])
  have ey:y=.int ((L.getD i 0:Nat):Int):=by unfold cY at e2;rw [cF,cF] at e2;simp [i3] at e2;rw [getD_at i3];exact e2.symm
  subst ey;have cW:L.getD i 0<wide:=hL _ (by rw [getD_at i3];exact aQ _)
  have sT:ah Hc (upd Hc Tt (.tup [.ref rx,.int ((L.getD i 0:Nat):Int)])):=aS nT;have eT:upd Hc Tt (.tup [.ref rx,.int ((L.getD i 0:Nat):Int)]) Tt=some (.tup [.ref rx,.int ((L.getD i 0:Nat):Int)]):=aA;generalize upd Hc Tt (.tup [.ref rx,.int ((L.getD i 0:Nat):Int)])=Hd at sT eT ⊢;have sd:=sc.trans sT;refine ⟨Tt,_,rfl,.of eT,rfl,_,_,rfl,_,_,rfl,rfl,?_⟩;have lW:=hW _ (aQ i2);have f1:free<ws.length:=by lia
  have f2:free<af[i].length:=by lia
  have zf:=(fw free ws[free] af[i][free] (by simp [f1]) (by simp [f2])).mono sd
  have IP:da ws (free:Int)=some ws[free]:=cK (by simp [f1])
  refine ⟨_,rfl,z,dz,_,rfl,sd _ _ hd,kR (by decide +kernel),_,rfl,z,dz,_,rfl,sd _ _ hd,kR (by decide +kernel),z,q,0,1,rfl,⟨dz,sd _ _ hd⟩,hq,cC.of_lt (by decide) (by decide),fun h=>absurd h nv,fun _ v2 H6 s6 Z2=>?_⟩
  have h2:=qa (B:=B) (by lia) Z2 hq (.inl rfl)
  refine ⟨_,rfl,_,rfl,rx,ws,_,_,rfl,rfl,.of (s6 _ _ (sd _ _ ew)),IP,?_⟩;obtain ⟨b1,b2⟩:=zf.both B1;have big:∀{x:Int},x.natAbs≤B→cG x:=fun h=>aq h (aq B2 (by decide +kernel))
  dsimp only [BZ,gY,gC];refine Vp (hz.mono (sd.trans s6)) hq (h2.jU hq) ((zf.mono s6).jU hq) (big (by simp)) (big (by show 1≤B;lia)) (big b1) (big b2) fun v' H7 s7 hN=>?_
  obtain ⟨p',j8,P4⟩:=MO (B:=B) hN hq (by rw [show (0:Int)*af[i][free].2-af[i][free].1*1=-af[i][free].1 by lia,qR];exact b1) (by rw [mG];exact b2)
  have iA:=sT.trans (s6.trans s7);have AB:=cQ.mono iA;obtain ⟨us,eu,lu,fu⟩:=AB;refine ⟨_,rfl,_,rfl,r,us,_,L.getD i 0,rfl,rfl,eu,?_,?_⟩
  ·unfold gI
   rw [ak (by lia),ak (by lia),df]
  ·refine ⟨dP (sc.trans iA) x9,ps.set (L.getD i 0) p',_,_,rfl,⟨_,aA,by rw [gS,gS];exact lu,fun j v p h1 h2=>?_⟩,by rw [gS];exact lp,?_,?_,?_⟩
   ·by_cases y:j=L.getD i 0
    ·subst y
     rw [jv (by lia)] at h1 h2
     cases h1;cases h2;exact j8.bC eu j7
    ·rw [jw (fun e=>y e.symm)] at h1 h2
     exact (fu j v p h1 h2).bC eu j7
   ·have Z3:free≠L.getD i 0:=fun e=>nf (by rw [e,getD_at i3];exact aQ _)
    rw [vE Z3];exact pf
   ·intro j hj AD
    by_cases y:j=i
    ·subst y
     rw [G_ (by lia)]
     have Ey:atT af j free=af[j][free]:=by unfold atT;rw [getD_at i2,getD_at f2]
     rw [Ey];rw [show (0:Int)*af[j][free].2-af[j][free].1*1=-af[j][free].1 by lia,mG] at P4
     exact P4
    ·rw [vE (fun e=>y (CL up AD i3 e))]
     exact pw j (by lia) AD
   ·intro k' dS AE hj
    rw [vE (hj i (by lia))]
    exact p0 k' dS AE fun j di=>hj j (by lia)
 ·rintro σ Hc ⟨sc,ps,v6,v7,rfl,cQ,lp,pf,pw,p0⟩
  have lz:(vs.zip (cY L)).length=L.length:=by rw [jB];lia
  rw [lz] at pw p0;refine ⟨_,rfl,k r ps Hc sc x9 cQ lp pf (fun j hj=>pw j hj hj) fun k' dS AE ne=>p0 k' dS ne fun j hj e=>AE ?_⟩;rw [e,getD_at hj];exact aQ _
theorem Z4:bF ["world","table","aim","asked","wanted","told"] ["world","table","aim"] (aU Dw):=bY
theorem Z5(T:Txt K mg t):a7 P w K mg base cz 6 t.sW t.vY ["world","table","aim"] (XA t.cq):=by
 have S:=Z4;have j9:=Au (P:=P) (w:=w) (base:=base) T;obtain ⟨dv,mj,iP⟩:=T.Al;refine T.xv.cN S (fun _ _ _ _ H _ _ _ hr h=>?_);obtain ⟨z,a,b,q,B,PP,m,aa,as,G,rfl,hz,hq,hA,hb,B1,B2,n1,AF,hm,P5,la,hE,hG,hP,ph,⟨P0,A0,M0,c0,L0,ahX,ahY,R0,mL⟩,k⟩:=h
 refine ⟨_,(au (putL 3 S.nd (aw B6 (aM (IC T) hr T.El T.qu.kp T.Ek aX (ae (pv 1) ai)) (dM (ae (pv 2) ai))))
  (au (putL 4 S.nd (aw B6 (aw rN (dM (ae (dM (ae (kH (pv 0) T.eX T.nG j9 (hr.mono (by decide)) iP mj iH (ae aj ai)) ai)) ai)) (aw jG (cD dN rfl T.dH dI (ae (pv 3) ai)) aj)) (dM (ae (dM (ae (kH (pv 0) T.eX T.nG j9 (hr.mono (by decide)) iP mj iH (ae aj ai)) ai)) ai))))
  (au (putL 5 S.nd (aM (Et T) hr T.Ac T.o6.kp T.Ab aX (ae (pv 0) (ae (aM (IA T) hr T.En T.qv.kp T.Em aX (ae (pv 3) (ae (pv 4) ai))) ai))))
  (az (aR (aM (PY T) hr T.HV T.uf.kp T.HU aX (ae (pv 0) (ae (aE bG (pv 5) aj) (ae (aE bG (pv 5) aj) (ae (cD dN rfl T.dH dI (ae (pv 1) ai)) ai)))))))))),?_⟩
 obtain ⟨dz,hd⟩:=id hz;have nv:=Cw hq;refine ⟨_,rfl,a,q,B,aa,m,rfl,hA,n1,by lia,hm,by lia,fun b1 H1 s1 nb hC=>?_⟩
 refine ⟨_,rfl,by show 1≤sizeLine;decide,fun l nl=>?_⟩
 obtain ⟨pk,e1,l1,f1⟩:=id hC;have lc:pk.length=m:=by rw [l1,nj]
 have sl:ah H1 (upd H1 l (.lst [.ref b])):=aS nl;refine ⟨b1,l,pk,_,rfl,rfl,sl _ _ e1,aA,aq (show _≤100 by simp;lia) (by decide),fun p np=>?_⟩
 have sp:=sl.trans (aS (o:=.lst (pk++[.ref b])) np);have hT:bE B (upd (upd H1 l (.lst [.ref b])) p (.lst (pk++[.ref b]))) q p (fL m aa as):=by
  refine bE.cat aA l1 rfl (fun i v ps h1 h2=>?_) (fun i v ps h1 h2=>?_)
  ·obtain ⟨r,e,cQ⟩:=f1 i v ps h1 h2
   exact ⟨r,e,cQ.mono sp⟩
  ·cases i with
   | zero=>cases h1;cases h2;exact ⟨b,rfl,hb.mono (s1.trans sp)⟩
   | succ i=>simp at h1
 have ep:upd (upd H1 l (.lst [.ref b])) p (.lst (pk++[.ref b])) p=some (.lst (pk++[.ref b])):=aA;generalize upd (upd H1 l (.lst [.ref b])) p (.lst (pk++[.ref b]))=H2 at sp hT ep ⊢;have s2:=s1.trans sp;have lp:(pk++[V.ref b]).length=m+1:=by simp [lc]
 dsimp only [aT];simp only [L2.start,cS,ib,fU,gU,List.replicate,gY,gC,bj,bq];refine ⟨_,rfl,z,dz,_,rfl,s2 _ _ hd,kR (by decide +kernel),z,q,0,1,rfl,⟨dz,s2 _ _ hd⟩,hq,cC.of_lt (by decide) (by decide),fun h=>absurd h nv,fun _ v0 H3 s3 ho=>?_⟩
 refine ⟨by show 1≤sizeLine;decide,fun l0 IG=>?_⟩
 refine ⟨by show 1≤sizeLine;decide,fun l2 x_=>?_⟩
 have s4:ah H3 (upd (upd H3 l0 (.lst [v0])) l2 (.lst [.ref l0])):=(aS IG).trans (aS x_);have e0:upd (upd H3 l0 (.lst [v0])) l2 (.lst [.ref l0]) l0=some (.lst [v0]):=aS x_ _ _ aA;have e2:upd (upd H3 l0 (.lst [v0])) l2 (.lst [.ref l0]) l2=some (.lst [.ref l0]):=aA;have h0:=qa (B:=B) (by lia) (ho.mono s4) hq (.inl rfl)
 generalize upd (upd H3 l0 (.lst [v0])) l2 (.lst [.ref l0])=H4 at s4 e0 e2 h0 ⊢;have pz:=s3.trans s4;refine ⟨_,rfl,p,_,rfl,.inl (.of (pz _ _ ep)),_,_,rfl,rfl,?_⟩;dsimp only;have eM:(((pk++[V.ref b]).length:Nat):Int)-1=(m:Int):=by lia
 rw [eM];refine ⟨l2,_,_,rfl,rfl,e2,by lia,by lia,aq (show [V.ref l0].length*(m:Int).toNat≤40 by simp;lia) (by decide),fun r nr=>?_⟩
 rw [df,show (List.replicate m [V.ref l0]).flatten=List.replicate m (V.ref l0) by
  clear ph hP hE hm hC l1 lc hT lp R0 mL k
  induction m with
  | zero=>rfl
  | succ n ih=>simp [nU]]
 have s5:ah H4 (upd H4 r (.lst (List.replicate m (V.ref l0)))):=aS nr;have er:upd H4 r (.lst (List.replicate m (V.ref l0))) r=some (.lst (List.replicate m (V.ref l0))):=aA;generalize upd H4 r (.lst (List.replicate m (V.ref l0)))=H5 at s5 er ⊢;have P6:=pz.trans s5;have AG:=s2.trans P6;refine ⟨_,rfl,z,dz,_,rfl,AG _ _ hd,kR (by decide +kernel),z,q,1,1,rfl,⟨dz,AG _ _ hd⟩,hq,cC.of_lt (by decide) (by decide),fun h=>absurd h nv,fun _ v1 H6 s6 Aw=>?_⟩
 refine ⟨by show 1≤sizeLine;decide,fun l3 Z6=>?_⟩
 refine ⟨by show 1≤sizeLine;decide,fun l4 P7=>?_⟩
 have s7:ah H6 (upd (upd H6 l3 (.lst [v1])) l4 (.lst [.ref l3])):=(aS Z6).trans (aS P7);have e3:upd (upd H6 l3 (.lst [v1])) l4 (.lst [.ref l3]) l3=some (.lst [v1]):=aS P7 _ _ aA;have e4:upd (upd H6 l3 (.lst [v1])) l4 (.lst [.ref l3]) l4=some (.lst [.ref l3]):=aA;have h1:=qa (B:=B) (by lia) (Aw.mono s7) hq (.inr rfl)
 generalize upd (upd H6 l3 (.lst [v1])) l4 (.lst [.ref l3])=H7 at s7 e3 e4 h1 ⊢;have mq:=s6.trans s7;refine ⟨r,l4,_,_,rfl,rfl,mq _ _ er,e4,aq (show _≤100 by simp;lia) (by decide),fun r2 IQ=>?_⟩
 have s8:ah H7 (upd H7 r2 (.lst (List.replicate m (V.ref l0)++[.ref l3]))):=aS IQ;have hU:bE B (upd H7 r2 (.lst (List.replicate m (V.ref l0)++[.ref l3]))) q r2 (iy (iz m)):=by
  unfold iy iz;rw [Bt];have P8:=s5.trans (mq.trans s8);refine bE.cat aA (by simp) rfl (fun i v ps mV h2=>?_) (fun i v ps mV h2=>?_)
  ·have hi:i<m:=by have:=(aP.mp mV).1;simpa using this
   simp [hi] at mV h2;subst mV h2;exact ⟨l0,rfl,Hm (p:=(0,1)) (P8 _ _ e0) (h0.mono P8)⟩
  ·cases i with
   | zero=>cases mV;cases h2;exact ⟨l3,rfl,Hm (p:=(1,1)) (s8 _ _ e3) (h1.mono s8)⟩
   | succ i=>simp at mV
 generalize upd H7 r2 (.lst (List.replicate m (V.ref l0)++[.ref l3]))=H8 at s8 hU ⊢;have IS:=P6.trans (mq.trans s8);have Z7:=s2.trans IS;dsimp only [aT];simp only [bj,bq];have lW:(fc (fL m aa as) (iz m)).length=m+1:=by rw [Hn (by rw [vF,oY]),oY]
 have wA:=NB (m:=m) (as:=as) rfl la;have wW:=NK (aa:=fL m aa as) (as:=iz m) (by rw [vF,oY]) wA
 refine ⟨_,rfl,_,rfl,_,rfl,p,r2,q,B,fL m aa as,iy (iz m),aa.length,1,rfl,hT.mono IS,hU,by rw [nC,oY,vF],by rw [oY];lia,wA,Nv _,by lia,by decide,fun bs H9 s9 Z8 hB=>?_⟩
 refine ⟨z,bs,q,B,PP,aa.length+1,fc (fL m aa as) (iz m),G,rfl,hz.mono (Z7.trans s9),hq,hB,B1,B2,by rw [lW];lia,by rw [lW];lia,wW,by lia,fun i hi=>?_,hG,by rw [lW];exact hP,by rw [lW];exact ph,fun pt rr l qy AA M c L last af mr AH el hR R=>?_⟩
 ·rw [lW] at hi
  rw [NJ (by rw [vF,oY]) (by rw [oY];exact hi)]
  refine Xz (hE i hi) ?_;by_cases y:i<m;·exact .inl (NC y)
  ·have:i=m:=by lia
   subst this;exact .inr ND
 dsimp only [aT];simp only [bj,bq];rw [lW] at hR;have nums:=hA.nums hq;have uz:∀ps∈aa,∀p∈ps,aF q p.2:=fun ps h1 p h2=>(nums ps h1 p h2).2.1;have jo:∀p∈as,aF q p.2:=fun p hp=>(hb.nums hq p hp).2.1;obtain ⟨T0,D0,rT⟩:=hA.rep hq rfl hm;obtain ⟨a0,F0,ra⟩:=jZ jo la;have hL:=dE.Xx hq R0 R rfl la hm uz jo rT ra mL;have Z9:=IS.trans (s9.trans mr);have Ez:=s2.trans Z9;have lL:=R.red.rd.len;rw [lW] at lL;have iL:=R.red.iL;rw [lW] at iL;have EA:=hR.nums hq;obtain ⟨IT,eA,lA,fA⟩:=id hA;refine ⟨_,rfl,_,rfl,pt,_,_,_,rfl,rfl,.of AH,rfl,_,rfl,pt,_,_,_,rfl,rfl,.of AH,rfl,_,rfl,a,IT,rfl,.inl (.of (Ez _ _ eA)),?_⟩;rw [lA];refine ⟨z,rr,l,q,(m+1)*(bA (m+1)*PP),aa.length+1,aa.length,af,L,rfl,hz.mono Ez,hq,hR,iL,R.eF,el,R.len,by lia,R.red.rd.up,hL,by lia,by lia,fun r' ys ya AI k6 cQ dY h1 h0=>?_⟩
 refine k r' ys ya (Ez.trans AI) (none_of Ez k6) cQ dY (Xv hq rfl (R.sol hq oY vF wA (NG hm uz jo) NF (fun ps h1 p h2=>(EA ps h1 p h2).2.1) hL h1 h0)) ?_;have w:=R.Hl hq (wide:=aa.length) (f:=aa.length) dY (fun p hp=>(cQ.nums hq p hp).1) (by lia) (fun k' dS=>?_) (by rw [lW];exact iL)
 ·rw [lW] at w
  exact w
 ·by_cases y:k'∈L
  ·obtain ⟨j,hj,e⟩:=gh.mp y
   have e':L.getD j 0=k':=by rw [getD_at hj,e]
   obtain ⟨ps,p1,p2⟩:=m9 R.len R.eF hj (show aa.length<aa.length+1 by lia)
   refine .inl ⟨j,hj,.inl ?_,fun z0=>(EA ps p1 _ p2).2.1.nz hq ⟨0,by rw [z0];simp⟩⟩
   rw [←e',h1 j hj];exact aO.refl _
  ·exact .inr (.inl (h0 k' dS y))
theorem Z_:bF ["world","table","aim","wide","told","rows","leads","answer","moves"] ["world","table","aim"] (aU Dx):=bY
theorem aaa(T:Txt K mg t):a7 P w K mg base (e8 P w) 7 t.sX t.vZ ["world","table","aim"] (XE t.cq t.jt):=by
 have S:=Z_;refine T.xy.eR S (fun _ _ _ _ H _ _ _ hr h L=>?_);obtain ⟨z,a,b,q,B,PP,P2,m,aa,as,G,G2,rfl,hz,hq,hA,hb,B1,B2,n1,AF,hm,P5,la,hE,hG,hP,hX,HK,HL,z9,aab,kB,k1,kM⟩:=h
 refine ⟨_,(au (eC 3 S.nd (aM (uB T) hr T.qs T.kY.kp T.qr (iY L) (ae (pv 1) ai)))
  (au (mK (aM (PK T) hr T.HQ T.ud.kp T.HP (iY L) (ae (cD dN rfl T.dH dI (ae (pv 1) ai)) (ae (pv 2) ai))))
  (au (putL 4 S.nd (aM (Et T) hr T.Ac T.o6.kp T.Ab aX (ae (pv 0) (ae (aM (IA T) hr T.En T.qv.kp T.Em aX (ae (pv 1) (ae (gd (N:=["number"]) (ρ:=(fun σ=>[])) (eS [] rfl) rfl (e7 (pv 2)) (fun _ _ _=>.nil) (fun _ _ _=>(dM (ae (pv 0) ai)))) ai))) ai))))
  (au (eC 5 S.nd (aE bG (pv 4) aj))
  (au (eC 6 S.nd (aE bG (pv 4) aj))
  (au (bQ (BW Ts (pv 3) (pv 6) rfl) (az (aR (fZ (ae fV (ae (aM (Z5 T) hr T.Oz T.xv.kp T.Oy aX (ae (pv 0) (ae (pv 1) (ae (pv 2) ai)))) ai))))) bW)
  (au (putL 7 S.nd (aM (PY T) hr T.HV T.uf.kp T.HU aX (ae (pv 0) (ae (pv 5) (ae (pv 6) (ae (pv 3) ai))))))
  (au (bQ (bJ il (cD dN rfl T.dH dI (ae (pv 6) ai)) (pv 3)) (az (aR (fZ (ae fV (ae (pv 7) ai))))) bW)
  (au (zA (i0:=8) (N:=["free","world","rows","leads","wide"]) (ρ:=(fun σ=>[σ[0]?.join,σ[5]?.join,σ[6]?.join,σ[3]?.join])) (eS [0,5,6,3] rfl) rfl S.nd rfl (Or.inl rfl) (jF rfl T.gP (ae (pv 3) ai)) (fun _ _ _=>(.one (BW (Np (K:=K)) (pv 0) (pv 3) rfl))) (fun _ _ _=>(aM (PZ T) hr T.HX T.ug.kp T.HW aX (ae (pv 1) (ae (pv 2) (ae (pv 3) (ae (pv 4) (ae (pv 0) ai))))))))
  (az (aR (fZ (ae fV (ae (pv 7) (ae (pv 8) ai))))))))))))))),?_⟩
 obtain ⟨IT,eA,lA,fA⟩:=id hA;obtain ⟨IU,eB,lB,fB⟩:=id hb;have nums:=hA.nums hq;have uz:∀ps∈aa,∀p∈ps,aF q p.2:=fun ps h1 p h2=>(nums ps h1 p h2).2.1;have jo:∀p∈as,aF q p.2:=fun p hp=>(hb.nums hq p hp).2.1;have lW:(fc aa as).length=aa.length:=Hn la;have wW:=NK (aa:=aa) (as:=as) la hm;refine ⟨_,rfl,a,q,B,aa,m,rfl,hA,n1,by lia,hm,fun H1 s1=>?_⟩
 dsimp only [aT];simp only [L2.start,cS,ib,fU,gU,List.replicate,gY,gC,bj,bq];refine ⟨_,rfl,a,IT,rfl,.inl (.of (s1 _ _ eA)),?_⟩;rw [lA];refine ⟨_,rfl,aa.length,b,IU,rfl,s1 _ _ eB,fun ne=>absurd (by lia) ne,fun _=>?_⟩
 dsimp only;refine fT (gM ?_);refine ⟨_,rfl,_,rfl,iu (xs:=IU) (fun R h=>⟨_,rfl,b,rfl,⟨_,.of (s1 _ _ eB)⟩,h _ _ (ah.refl _) (iI (.of (s1 _ _ eB)))⟩) (by rw [lB,la];exact dO (by lia)) (fun D i y Hx=>∃x:Addr,y=.ref x∧x≠D∧aI B Hx q x [as.getD i o1]) (fun D i y Ha Hb ys ⟨x,h1,h2,ws,e1,e2,e3⟩ e f=>⟨x,h1,h2,ws,f _ _ h2 e1,e2,fun j v p x y=>(e3 j v p x y).bC e f⟩) ?_ ?_⟩
 ·intro D i v hi Hc R sc ⟨zs,eD⟩ kc
  have i1:i<IU.length:=(aP.mp hi).1;have i2:i<as.length:=by lia
  have hv:=fB i v as[i] hi (by simp [i2])
  refine ⟨_,rfl,by show 1≤sizeLine;decide,fun x nx=>?_⟩
  have sx:ah Hc (upd Hc x (.lst [v])):=aS nx;refine kc _ _ sx ⟨x,rfl,(fun e=>by rw [e,eD] at nx;cases nx),Hm aA ?_⟩
  rw [getD_at i2];exact ((hv.mono s1).mono sc).mono sx
 intro D ws H2 nD s2 i6 aac eD;have P9:=s1.trans s2;have hU:bE B H2 q D (iy as):=⟨ws,eD,by rw [i6,lB,nC],fun i v ps h1 h2=>by
  obtain ⟨x,e1,_,e3⟩:=aac i v h1;have i1:i<ws.length:=(aP.mp h1).1;have i2:i<as.length:=by lia
  unfold iy at h2;rw [cF] at h2;simp [i2] at h2;subst h2;rw [getD_at i2] at e3;exact ⟨x,e1,e3⟩⟩
 refine ⟨a,D,q,B,aa,iy as,m,1,rfl,hA.mono P9,hU,by rw [nC];lia,by lia,hm,Nv _,by lia,by decide,fun bs H3 s3 Z8 hB=>?_⟩
 have uH:=P9.trans s3;refine ⟨z,bs,q,B,PP,m+1,fc aa as,G,rfl,hz.mono uH,hq,hB,B1,B2,by rw [lW];lia,by rw [lW];lia,wW,by lia,fun i hi=>hE i (by lia),hG,by rw [lW];exact hP,by rw [lW];exact dq hX (by decide +kernel),fun pt rr l H4 AA M c LL last af s4 AH el hR R=>?_⟩
 rw [lW] at hR;have AJ:=uH.trans s4;dsimp only [aT];simp only [bj,bq];refine ⟨_,rfl,pt,_,_,_,rfl,rfl,.of AH,rfl,?_⟩;dsimp only [aT];simp only [bj,bq];refine ⟨_,rfl,pt,_,_,_,rfl,rfl,.of AH,rfl,?_⟩;dsimp only [aT];simp only [bj,bq];refine ⟨_,rfl,_,rfl,l,cY LL,rfl,.inl (.of el),rfl,Ho,_,rfl,?_⟩;have AK:=hz.mono AJ;refine cH (fun y=>?_) (fun y=>?_)
 ·have mL:m∈LL:=by rw [CO] at y;simpa using y
  refine ⟨_,rfl,_,rfl,_,rfl,z,a,b,q,B,P2,m,aa,as,G2,rfl,AK,hq,hA.mono AJ,hb.mono AJ,B1,B2,n1,AF,hm,P5,la,HK,HL,z9,aab,⟨PP,AA,M,c,LL,last,af,R,mL⟩,fun r ys H5 s5 nr cQ dY aad hE'=>⟨by show 2≤sizeLine;decide,fun p np=>?_⟩⟩
  have sp:ah H5 (upd H5 p (.tup [.str (Str.ofString "barred"),.ref r])):=aS np;exact kB p r ys _ (AJ.trans (s5.trans sp)) aA (cQ.mono sp) dY aad hE'
 have nL:m∉LL:=by rw [CO] at y;simpa using y
 have hL:∀x∈LL,x<m:=fun x hx=>by have h1:=R.red.rd.lt x hx;have h2:x≠m:=fun e=>nL (e▸hx);lia
 have lL:=R.red.rd.len;rw [lW] at lL;have iL:=R.red.iL;rw [lW] at iL;have EA:=hR.nums hq;have jq:∀ps∈af,∀p∈ps,aF q p.2:=fun ps h1 p h2=>(EA ps h1 p h2).2.1;have LP:=R.Xr hq rfl lW hm (fun i k hi hk=>CN rfl la hm hi hk) (kj m) uz hL;dsimp only [gq];refine ⟨_,rfl,_,rfl,_,rfl,_,rfl,z,rr,l,q,aa.length*(bA aa.length*PP),m+1,m,af,LL,rfl,AK,hq,hR,iL,R.eF,el,R.len,by lia,R.red.rd.up,hL,by lia,by lia,fun r xs H5 s5 nr cQ AL h1 h0=>?_⟩
 have sol:=R.sol hq rfl la hm uz jo jq hL h1 h0;have xE:eE q (aa.length*(bA aa.length*PP)) xs:=by
  have w:=R.Hl hq (wide:=m) (f:=m) AL (fun p hp=>(cQ.nums hq p hp).1) (by lia) (fun k' dS=>?_) (by rw [lW];exact iL)
  ·rw [lW] at w
   exact w
  ·by_cases y:k'∈LL
   ·obtain ⟨j,hj,e⟩:=gh.mp y
    have e':LL.getD j 0=k':=by rw [getD_at hj,e]
    obtain ⟨ps,p1,p2⟩:=m9 R.len R.eF hj (show m<m+1 by lia)
    refine .inl ⟨j,hj,.inl ?_,fun z0=>(jq ps p1 _ p2).nz hq ⟨0,by rw [z0];simp⟩⟩
    rw [←e',h1 j hj];exact aO.refl _
   ·exact .inr (.inl (h0 k' dS y))
 have AG:=AJ.trans s5;dsimp only [aT];simp only [bj,bq];refine ⟨_,rfl,l,cY LL,rfl,.inl (.of (s5 _ _ el)),_,rfl,rfl,_,rfl,?_⟩;rw [XB];by_cases full:LL.length=m
 ·rw [jO,dj (by lia)]
  refine fg ⟨_,rfl,by show 2≤sizeLine;decide,fun p np=>?_⟩
  have sp:ah H5 (upd H5 p (.tup [.str (Str.ofString "one"),.ref r])):=aS np;exact k1 p r xs LL _ (AG.trans sp) aA (cQ.mono sp) AL sol xE LP full
 rw [jO,fq (by lia)]
 refine cP ?_;dsimp only [gq];refine fT (gM (Xk (xs:=(List.range m).map fun i:Nat=>V.int (0+(i:Int))) (by rw [bL,eK]) (fun i=>!decide (i∈LL)) (fun R h=>⟨_,rfl,(m:Int),rfl,by lia,by lia,h _ _ (ah.refl _) (by rw [df];exact oM)⟩) (dO (by lia)) (fun D i y Hx=>∃(x:Addr) (ps:aD),y=.ref x∧x≠D∧aI (aa.length*(bA aa.length*PP)) Hx q x ps∧ps.length=m∧ps.getD i o1=(1,1)∧(∀j,j<LL.length→aO q (ps.getD (LL.getD j 0) o1) (-(atT af j i).1,(atT af j i).2))∧(∀k,k<m→k∉LL→k≠i→ps.getD k o1=(0,1))) (fun D i y Ha Hb ys ⟨x,ps,h1,h2,⟨ws,e1,e2,e3⟩,h4⟩ e f=>⟨x,ps,h1,h2,⟨ws,f _ _ h2 e1,e2,fun j v p x y=>(e3 j v p x y).bC e f⟩,h4⟩) ?_ ?_ ?_))
 ·intro i x hx Hc R' sc h
  obtain ⟨hi,rfl⟩:=oP hx;refine ⟨_,rfl,_,rfl,l,cY LL,rfl,.inl (.of (sc _ _ (s5 _ _ el))),rfl,Ho,_,rfl,?_⟩;rw [ak rfl,CO];exact h
 ·intro D i x hx hf Hc R' sc ⟨zs,eD⟩ kc
  obtain ⟨hi,rfl⟩:=oP hx;have ni:i∉LL:=by simpa using hf
  have IV:=s5.trans sc;exact ⟨_,rfl,_,rfl,_,rfl,_,rfl,_,rfl,z,rr,l,q,aa.length*(bA aa.length*PP),m+1,m,i,af,LL,rfl,AK.mono IV,hq,hR.mono IV,iL,hX,R.eF,IV _ _ el,R.len,by lia,R.red.rd.up,hL,by lia,by lia,hi,ni,fun r' ps H6 s6 k6 hr6 Hv g1 g2 g3=>kc _ _ s6 ⟨r',ps,rfl,(fun e=>by rw [e,eD] at k6;cases k6),hr6,Hv,g1,g2,g3⟩⟩
 ·intro D ws H6 nD6 s6 i6 IL AM
  have i6:ws.length=(d3 m LL).length:=i6;have fup:(d3 m LL).Pairwise (· < ·):=List.Pairwise.filter _ Fu;dsimp only [aT];simp only [bj,bq];refine ⟨_,rfl,_,rfl,by show 3≤sizeLine;decide,fun p np=>?_⟩
  have sp:ah H6 (upd H6 p (.tup [.str (Str.ofString "many"),.ref r,.ref D])):=aS np;obtain ⟨eG,lv,hv⟩:=pick (R:=fun(j:Nat) (y:V) (ps:aD)=>∃x:Addr,y=.ref x∧aI (aa.length*(bA aa.length*PP)) H6 q x ps∧ps.length=m∧ps.getD ((d3 m LL).getD j 0) o1=(1,1)∧(∀i,i<LL.length→aO q (ps.getD (LL.getD i 0) o1) (-(atT af i ((d3 m LL).getD j 0)).1,(atT af i ((d3 m LL).getD j 0)).2))∧(∀k,k<m→k∉LL→k≠(d3 m LL).getD j 0→ps.getD k o1=(0,1))) (fun j y hy=>by
   have j1:j<ws.length:=(aP.mp hy).1;have j2:j<(d3 m LL).length:=by rw [←i6];exact j1
   obtain ⟨x,ps,h1,_,h3⟩:=IL j y ((d3 m LL).getD j 0) hy (by rw [getD_at j2];exact yZ j2)
   exact ⟨ps,x,h1,h3⟩)
  have lf:eG.length=(d3 m LL).length:=by rw [lv,i6]
  have IW:∀j,j<eG.length→(d3 m LL).getD j 0<m∧(d3 m LL).getD j 0∉LL:=fun j hj=>NL.mp (by rw [getD_at (by lia)];exact aQ _)
  have fne:∀i j,i<eG.length→j<eG.length→i≠j→(d3 m LL).getD j 0≠(d3 m LL).getD i 0:=fun i j hi hj ne e=>ne (CL fup (by rw [←lf];exact hj) (by rw [←lf];exact hi) e).symm
  have row:∀j,(hj:j<eG.length)→∃x:Addr,aI (aa.length*(bA aa.length*PP)) H6 q x eG[j]∧eG[j].length=m∧eG[j].getD ((d3 m LL).getD j 0) o1=(1,1)∧(∀i,i<LL.length→aO q (eG[j].getD (LL.getD i 0) o1) (-(atT af i ((d3 m LL).getD j 0)).1,(atT af i ((d3 m LL).getD j 0)).2))∧(∀k,k<m→k∉LL→k≠(d3 m LL).getD j 0→eG[j].getD k o1=(0,1)):=fun j hj=>by
   have j1:j<ws.length:=by lia
   obtain ⟨x,_,h3⟩:=hv j ws[j] eG[j] (by simp [j1]) (by simp [hj])
   exact ⟨x,h3⟩
  refine kM p r D xs LL eG _ (AG.trans (s6.trans sp)) aA ((cQ.mono s6).mono sp) AL sol xE LP full (bE.mono ⟨ws,AM,lv.symm,fun j v ps h1 h2=>?_⟩ sp) ⟨lf,fun ps hp=>?_,fun ps hp=>?_,fun j hj=>?_,fun j hj=>?_,fun i j hi hj ne=>?_⟩
  ·obtain ⟨x,e1,e2,_⟩:=hv j v ps h1 h2
   exact ⟨x,e1,e2⟩
  ·obtain ⟨j,hj,e⟩:=gh.mp hp
   obtain ⟨x,_,h4,_⟩:=row j hj;rw [←e];exact h4
  ·obtain ⟨j,hj,e⟩:=gh.mp hp
   obtain ⟨x,h3,h4,h5,h6,h7⟩:=row j hj;rw [←e];have f1:=IW j hj;exact R.Hj hq rfl lW hm (fun i k hi hk=>CN rfl la hm hi hk) (kj m) uz jq hL f1.1 f1.2 (fun k hk=>(h3.nums hq _ (by rw [getD_at (by lia)];exact aQ _)).2.1) h5 h6 h7
  ·obtain ⟨x,h3,h4,h5,h6,h7⟩:=row j hj
   have f1:=IW j hj;rw [getD_at hj];have w:=R.Hl hq (wide:=m) (f:=(d3 m LL).getD j 0) h4 (fun p hp=>(h3.nums hq p hp).1) (by lia) (fun k' dS=>?_) (by rw [lW];exact iL)
   ·rw [lW] at w
    exact w
   ·by_cases y:k'∈LL
    ·obtain ⟨i,hi,e⟩:=gh.mp y
     have e':LL.getD i 0=k':=by rw [getD_at hi,e]
     obtain ⟨ps,p1,p2⟩:=m9 R.len R.eF hi (show (d3 m LL).getD j 0<m+1 by lia)
     refine .inl ⟨i,hi,.inr ?_,fun z0=>(jq ps p1 _ p2).nz hq ⟨0,by rw [z0];simp⟩⟩
     rw [←e'];exact h6 i hi
    ·by_cases y2:k'=(d3 m LL).getD j 0
     ·rw [y2]
      exact .inr (.inr h5)
     ·exact .inr (.inl (h7 k' dS y y2))
  ·obtain ⟨x,h3,h4,h5,h6,h7⟩:=row j hj
   unfold atT;rw [getD_at hj];exact h5
  ·obtain ⟨x,h3,h4,h5,h6,h7⟩:=row i hi
   unfold atT;rw [getD_at hi];have f1:=IW j hj;exact h7 _ f1.1 f1.2 (fne i j hi hj ne)
def aaj(N:Addr):Sp:=fun vs H Q E=>∃(a b:Addr) (q:Int) (B:Nat) (aa af:aG) (m u:Nat),vs=[.ref a,.ref b]∧bE B H q a aa∧bE B H q b af∧1≤aa.length∧aa.length≤40∧1≤af.length∧af.length≤40∧(∀ps∈aa,ps.length=m)∧(∀ps∈af,ps.length=u)∧m≤40∧u≤40 ∧
 (40<aa.length*af.length∨40<m*u→∀H',ah H H'→E (.ref N) none H')∧(aa.length*af.length≤40→m*u≤40→∀H',ah H H'→Q .aY H')
theorem aak:bF ["one","other"] ["one","other"] (aU DC):=bY
theorem aal(T:Txt K mg t):a7 P w K mg base (e8 P w) 2 t.s_ t.wg ["one","other"] (aaj t.jt):=by
 have S:=aak;obtain ⟨uM,hM,rM⟩:=T.Pw;refine T.xA.eR S (fun _ _ _ _ H vs _ _ hr h L=>?_);obtain ⟨a,b,q,B,aa,af,m,u,rfl,hA,hB,n1,dF,k1,j_,hm,hu,o4,Ax,kE,k⟩:=h;refine ⟨_,(az (bQ (PW.pt (pw_or (bJ ze (aw fG (cD dN rfl T.dH dI (ae (pv 0) ai)) (cD dN rfl T.dH dI (ae (pv 1) ai))) (BM (v:=.int 40) rfl hM rM)) (pw_or1 (bJ ze (aw fG (aM (uB T) hr T.qs T.kY.kp T.qr (iY L) (ae (pv 0) ai)) (aM (uB T) hr T.qs T.kY.kp T.qr (iY L) (ae (pv 1) ai))) (BM (v:=.int 40) rfl hM rM))))) (az (rP L rfl qV T.As rfl T.Ap (ae fV ai))) bW)),?_⟩;obtain ⟨vs,ea,la,_⟩:=id hA;obtain ⟨us,eb,lb,_⟩:=id hB;refine ⟨_,rfl,a,vs,rfl,.inl (.of ea),_,rfl,b,us,rfl,.inl (.of eb),_,_,rfl,rfl,.inl ⟨by lia,by lia⟩,_,_,rfl,rfl,_,rfl,cH (fun hc=>?_) (fun hc=>?_)⟩
 ·have hc:(40:Int)<(vs.length:Int)*(us.length:Int):=gD hc
  rw [la,lb,←pK] at hc;exact fg ⟨by show 1≤sizeLine;decide,kE (.inl (by lia)) H (ah.refl H)⟩
 ·have hc:¬(40:Int)<(vs.length:Int)*(us.length:Int):=fun z=>hc (dj z)
  rw [la,lb,←pK] at hc;refine ⟨_,rfl,a,q,B,aa,m,rfl,hA,n1,dF,hm,fun H1 s1=>⟨_,rfl,b,q,B,af,u,rfl,hB.mono s1,k1,j_,hu,fun H2 s2=>⟨_,_,rfl,rfl,.inl ⟨by lia,by lia⟩,_,_,rfl,rfl,_,rfl,cH (fun hd=>?_) (fun hd=>?_)⟩⟩⟩
  ·have hd:(40:Int)<(m:Int)*(u:Int):=gD hd
   rw [←pK] at hd;exact ⟨by show 1≤sizeLine;decide,kE (.inr (by lia)) H2 (s1.trans s2)⟩
  ·have hd:¬(40:Int)<(m:Int)*(u:Int):=fun z=>hd (dj z)
   rw [←pK] at hd;exact k (by lia) (by lia) H2 (s1.trans s2)
theorem aam:bF ["world","row","more","told","number"] ["world","row","more"] (aU DD):=bY
theorem P_(T:Txt K mg t):a7 P w K mg base cz 6 t.td t.wj ["world","row","more"] (Xd t.cq):=by
 have S:=aam;have aan:=Zb (P:=P) (w:=w) (base:=base) T;refine T.uk.cN S (fun _ _ _ _ H vs _ E hr h=>?_);obtain ⟨z,a,b,q,B,ps,rs,rfl,hz,hq,hA,hB,bl,bh,p40,r40,r1,k⟩:=h
 refine ⟨_,(au (putL 3 S.nd (dM ai))
  (au (ik fP rfl (e7 (pv 1)) (d_ (i:=4) S.nd rfl (Or.inr rfl))
   (az (mK (rJ qW PySem.F.slot_list_extend PySem.F.type_list_extend LU (pv 3) (ae (gd (N:=["other","world","number"]) (ρ:=(fun σ=>[σ[0]?.join,σ[4]?.join])) (eS [0,4] rfl) rfl (e7 (pv 2)) (fun _ _ _=>.nil) (fun _ _ _=>(kH (pv 1) T.eX T.Ep aan (hr.mono (by decide)) T.Pm .nil aX (ae (pv 2) (ae (pv 0) ai))))) ai)))))
  (az (aR (pv 3))))),?_⟩
 obtain ⟨vs,ea,la,fa⟩:=id hA;obtain ⟨dz,AK⟩:=id hz;obtain ⟨us,eb,lb,fb⟩:=id hB;refine ⟨by show 0≤sizeLine;decide,fun l nl=>?_⟩
 have sl:ah H (upd H l (.lst [])):=aS nl;refine ⟨_,rfl,a,rfl,⟨_,.of (sl _ _ ea)⟩,?_⟩
 refine rp (K:=K) (a:=a) (xs:=vs) (fun i σ Hc=>ah H Hc∧∃(v4:Option V) (ys:List V),σ=[some (.ref z),some (.ref a),some (.ref b),some (.ref l),v4]∧Hc l=some (.lst ys)∧ys.length=i*rs.length∧∀(j:Nat) (y:V),ys[j]?=some y→cJ Hc q y (oQ (ps.getD (j / rs.length) o1) (rs.getD (j % rs.length) o1)).1 (oQ (ps.getD (j / rs.length) o1) (rs.getD (j % rs.length) o1)).2)
  ⟨sl,none,[],rfl,aA,by simp,fun j y e=>by simp at e⟩ (fun i σ Hc _ ⟨z,_⟩=>.of (z _ _ ea)) ?_ ?_
 ·rintro i v σ Hc hi ⟨sc,v4,ys,rfl,el,ly,hy⟩
  have a_:i<ps.length:=by rw [←la];exact (aP.mp hi).1
  have hv:=fa i v ps[i] hi (by simp [a_])
  refine Ct ⟨_,rfl,.inl ⟨rfl,_,.of el⟩,iu (xs:=us) (fun R h=>⟨_,rfl,b,rfl,⟨_,.of (sc _ _ eb)⟩,h _ _ (ah.refl _) (iI (.of (sc _ _ eb)))⟩) (dO (by lia)) (fun _ j y Hx=>cJ Hx q y (oQ (ps.getD i o1) (rs.getD j o1)).1 (oQ (ps.getD i o1) (rs.getD j o1)).2) (fun _ _ _ _ _ _ h1 e f=>h1.bC e f) ?_ ?_⟩
  ·intro D j u hj Hd R sd _ kd
   have di:j<rs.length:=by rw [←lb];exact (aP.mp hj).1
   have hu:=fb j u rs[j] hj (by simp [di])
   rw [getD_at a_,getD_at di] at kd;have bg:∀{v:V} {x y:Int},bZ B H q v x y→cG x∧cG y:=fun{v x y} h=>by obtain ⟨h1,h2⟩:=h.both bl;exact ⟨aq h1 bh,aq h2 bh⟩
   exact ⟨_,rfl,z,dz,_,rfl,(sc.trans sd) _ _ AK,kR (by decide +kernel),_,rfl,_,rfl,Vq (E:=E0) (hz.mono (sc.trans sd)) hq ((hv.mono (sc.trans sd)).jU hq) ((hu.mono (sc.trans sd)).jU hq) (bg hv).1 (bg hv).2 (bg hu).1 (bg hu).2 fun v' H' s' hN=>kd v' H' s' hN⟩
  ·intro D zs Hd nD sd lz hP eD
   refine ⟨l,D,ys,zs,rfl,rfl,sd _ _ el,eD,?_,?_⟩
   ·have:i*rs.length≤40*40:=aZ (by lia) r40
    exact aq (show _≤2000 by lia) (by decide)
   have bC:∀b o,b≠l→Hd b=some o→upd Hd l (.lst (ys++zs)) b=some o:=fun b o nb e=>by rw [bI nb];exact e
   refine ⟨dP (sc.trans sd) nl,_,_,rfl,aA,by rw [iS,ly,lz,lb,gT],fun j y e=>?_⟩
   by_cases hj:j<ys.length
   ·rw [fD hj] at e
    exact ((hy j y e).mono sd).bC (sd _ _ el) bC
   ·rw [fN (by lia)] at e
    have Qa:j-ys.length<rs.length:=by rw [←lb,←lz];exact (aP.mp e).1
    have ej:j=i*rs.length+(j-ys.length):=by lia
    have z1:=(hP _ y e).bC (sd _ _ el) bC;rw [ej,lY Qa,m4 Qa];exact z1
 ·rintro σ Hc ⟨sc,v4,ys,rfl,el,ly,hy⟩
  exact ⟨_,rfl,k l Hc sc nl ⟨ys,el,by rw [ly,la],hy⟩⟩
theorem aap:bF ["rows","told","row"] ["rows"] (aU DE):=bY
theorem aaq(T:Txt K mg t):a7 P w K mg base cz 1 t.tq t.wk ["rows"] Xe:=by
 have S:=aap;refine T.xB.cN S (fun _ _ _ _ H vs _ _ hr h=>?_);obtain ⟨a,q,B,aa,m,rfl,hA,dF,hm,o4,k⟩:=h
 refine ⟨_,(au (putL 1 S.nd (dM ai))
  (au (ik fP rfl (e7 (pv 0)) (d_ (i:=2) S.nd rfl (Or.inl rfl))
   (az (mK (rJ qW PySem.F.slot_list_extend PySem.F.type_list_extend LU (pv 1) (ae (pv 2) ai)))))
  (az (aR (pv 1))))),?_⟩
 obtain ⟨vs,ea,lv,fv⟩:=id hA;refine ⟨by show 0≤sizeLine;decide,fun l nl=>?_⟩
 have sl:ah H (upd H l (.lst [])):=aS nl;have AN:upd H l (.lst []) l=some (.lst []):=aA;generalize upd H l (.lst [])=H0 at sl AN ⊢;dsimp only [aT];simp only [L2.start,cS,ib,fU,gU,List.replicate,gY,gC,bj,bq];refine ⟨_,rfl,a,rfl,⟨_,.of (sl _ _ ea)⟩,?_⟩;refine rp (K:=K) (a:=a) (xs:=vs) (fun i σ Hc=>ah H Hc∧∃v2:Option V,σ=[some (.ref a),some (.ref l),v2]∧aI B Hc q l (aa.take i).flatten) ⟨sl,none,rfl,⟨[],AN,rfl,fun i v p e=>by simp at e⟩⟩ (fun i σ Hc _ ⟨sc,_⟩=>.of (sc _ _ ea)) ?_ ?_
 ·rintro i v σ Hc hi ⟨sc,v2,rfl,ys,ey,ly,fy⟩
  have i1:i<vs.length:=(aP.mp hi).1;have i2:i<aa.length:=by lia
  obtain ⟨r,rfl,ws,ew,lw,fw⟩:=fv i v aa[i] hi (by simp [i2])
  have lW:=hm _ (aQ i2);have lt:((aa.take i).flatten).length≤40*40:=by
   rw [List.length_flatten];have:∀(l:aG),(∀ps∈l,ps.length=m)→(l.map List.length).sum=l.length*m:=fun l=>by
    induction l with
    | nil=>intro _;simp
    | cons x l ih=>intro h;rw [fU,List.sum_cons,ih fun ps hp=>h ps (gg _ hp),h x gB,cS,gT];lia
   rw [this _ fun ps hp=>hm ps (List.mem_of_mem_take hp)];exact aZ (by rw [qO];lia) o4
  refine Ct ⟨_,rfl,.inl ⟨rfl,_,.of ey⟩,_,rfl,l,r,ys,ws,rfl,rfl,ey,sc _ _ ew,aq (show _≤2000 by lia) (by decide),?_⟩
  refine ⟨dP sc nl,_,rfl,?_⟩;have tk:(aa.take (i+1)).flatten=(aa.take i).flatten++aa[i]:=by
   have e:aa.take (i+1)=aa.take i++[aa[i]]:=by rw [List.take_succ];simp [i2]
   rw [e,List.flatten_append];simp
  rw [tk];exact aI.cat (B:=B) aA ly lw (fun j v p h1 h2=>(fy j v p h1 h2).bC ey j7) (fun j v p h1 h2=>((fw j v p h1 h2).mono sc).bC ey j7)
 ·rintro σ Hc ⟨sc,v2,rfl,cQ⟩
  rw [lv,Bw] at cQ;exact ⟨_,rfl,k l Hc sc nl cQ⟩
theorem aar:bF ["script","k","mixed","cell"] ["script","k"] (aU DS):=bY
theorem yc(T:Txt K mg t):a7 P w K mg base cz 1 t.tO t.wM ["script","k"] (U0 K):=by
 have S:=aar;refine T.me.cN S (fun _ _ _ _ H _ _ _ hr h=>?_);obtain ⟨a,ns,j,rfl,hS,h0,h1,k⟩:=h
 refine ⟨_,(au (bQ (bJ iF (pv 1) (cD dN rfl T.dH dI (ae (pv 0) ai))) (az (aR (aw cV (aE dc (pv 0) (pv 1)) (aw Su aj aj)))) bW)
  (au (putL 2 S.nd (aw fG aj (aw gG (pv 1) aj)))
  (au (ik fP rfl (e7 (B3 F3 (pv 0) FX (zi aj))) (d_ (i:=3) S.nd rfl (Or.inl rfl))
   (az (putL 2 S.nd (aw cV (aw gG (aw gG (aw fG (pv 2) aj) (aw cV (pv 3) aj)) aj) aj))))
  (au (putL 2 S.nd (aw cV (aw fG (pv 2) (pv 2)) aj))
  (au (putL 2 S.nd (aw cV (aw fG (aw gG (pv 2) (aw fG (aw fG aj (pv 1)) (pv 1))) aj) aj))
  (az (aR (aw pS (aw cV (aw fG (pv 2) (pv 2)) aj) aj)))))))),?_⟩
 refine ⟨_,rfl,_,rfl,a,_,rfl,.inl hS,_,_,rfl,rfl,_,rfl,cH (fun hj=>?_) (fun hj=>?_)⟩
 ·have hj:j<(ns.map V.int).length:=gD hj
  rw [bL] at hj;have hz:da (ns.map V.int) j=some (.int (ns.getD j.toNat 0)):=by
   have e:j=(j.toNat:Int):=by lia
   rw [e];refine cK ?_;rw [cF,yZ (by lia),df,cu,yZ (by lia)]
   rfl
  refine ⟨_,rfl,_,rfl,a,_,j,_,rfl,rfl,hS,hz,_,_,rfl,rfl,⟨by decide,by decide,by decide⟩,_,_,rfl,rfl,(by show (0:Int)<10 ^ 40;decide),?_⟩
  have z:=k H (ah.refl H);unfold lP at z;rw [ak hj] at z;exact z
 ·have hj:¬j<ns.length:=fun z=>hj (dj (by rw [bL];exact z))
  refine ⟨_,rfl,_,_,rfl,rfl,_,_,rfl,rfl,.inl ⟨by decide,by decide⟩,?_⟩
  refine ⟨_,rfl,_,rfl,a,_,rfl,hS,fun c nc=>⟨c,rfl,⟨_,.of aA⟩,?_⟩⟩
  refine rp (K:=K) (a:=c) (xs:=(ns.take 7).map V.int) (fun i σ H'=>H'=upd H c (.lst (ip (ns.map V.int) none (some 7)))∧∃(m:Int) (v:Option V),σ=[some (.ref a),some (.int j),some (.int m),v]∧m=((ns.take 7).take i).foldl Mi (1000003*(j+1))∧-(2 ^ 64)<m∧m<2 ^ 64)
   ⟨rfl,_,_,rfl,rfl,by lia,by lia⟩ ?_ ?_ ?_
  ·rintro i σ H' _ ⟨rfl,_⟩
   have e:ip (ns.map V.int) none (some 7)=(ns.take 7).map V.int:=by have:=U6 (ns.map V.int) 7;rw [←List.map_take] at this;exact this
   rw [e];exact .of aA
  ·rintro i y σ H' hi ⟨rfl,m,v,rfl,hm,_,_⟩
   rw [cF] at hi;cases ez:(ns.take 7)[i]? with
   | none=>rw [ez] at hi;cases hi
   | some z=>
    rw [ez] at hi;cases hi;refine ⟨_,rfl,_,_,rfl,rfl,.inr ⟨by decide,by decide⟩,_,rfl,_,_,rfl,rfl,(by show (0:Int)<998244353;decide),_,_,rfl,rfl,_,_,rfl,rfl,_,_,rfl,rfl,(by show (0:Int)<1000000007;decide),rfl,_,_,rfl,?_,?_,?_⟩
    ·rw [List.take_succ,ez,Option.toList_some,List.foldl_append,←hm]
     rfl
    ·have:=d4 (m*69621+z % 998244353+1) (show (1000000007:Int)≠0 by decide)
     show -(2 ^ 64)<(m*69621+z % 998244353+1) % 1000000007;lia
    ·have:=d8 (m*69621+z % 998244353+1) (show (0:Int)<1000000007 by decide)
     show (m*69621+z % 998244353+1) % 1000000007<2 ^ 64;lia
  ·rintro σ H' ⟨rfl,m,v,rfl,hm,hm1,hm2⟩
   rw [bL,Bw] at hm;refine ⟨_,rfl,_,rfl,_,_,rfl,rfl,.inl ⟨hm1,hm2⟩,_,_,rfl,rfl,(by show (0:Int)<1000000007;decide),?_⟩
   refine ⟨_,rfl,_,rfl,_,_,rfl,rfl,.inl ⟨by decide,by decide⟩,_,rfl,_,_,rfl,rfl,.inr ⟨by lia,by lia⟩,_,_,rfl,rfl,_,_,rfl,rfl,.inr ⟨by decide,by decide⟩,_,_,rfl,rfl,(by show (0:Int)<2147483647;decide),?_⟩
   have b0:=d4 ((m*m % 1000000007+7919*j*j)*48271) (show (2147483647:Int)≠0 by decide)
   have b1:=d8 ((m*m % 1000000007+7919*j*j)*48271) (show (0:Int)<2147483647 by decide)
   refine ⟨_,rfl,_,rfl,_,_,rfl,rfl,.inl ⟨?_,?_⟩,_,_,rfl,rfl,(by show (0:Int)<2147483647;decide),_,_,rfl,rfl,⟨by decide,by decide⟩,?_⟩
   ·show -(2 ^ 64)<(m*m % 1000000007+7919*j*j)*48271 % 2147483647
    lia
   ·show (m*m % 1000000007+7919*j*j)*48271 % 2147483647<2 ^ 64
    lia
   ·have z:=k (upd H c (.lst (ip (ns.map V.int) none (some 7)))) (aS nc)
    unfold lP Ci at z;rw [ao hj,←hm] at z;exact z
theorem aau:bF ["top","bottom","one","other"] ["top","bottom"] (aU DT):=bY
theorem EB(T:Txt K mg t):a7 P w K mg base cz 1 t.tP t.wN ["top","bottom"] Nh:=by
 have S:=aau;refine T.o7.cN S (fun _ _ _ _ H _ Q _ hr h=>?_);obtain ⟨a,b,rfl,hb,mb,k⟩:=h
 refine ⟨_,(au (putL 2 S.nd (cD BX rfl T.Ar boot_abs (ae (pv 0) ai)))
  (au (putL 3 S.nd (cD BX rfl T.Ar boot_abs (ae (pv 1) ai)))
  (au (zc fP (mQ (pv 3) (fun _=>rfl)) (az (Sa (i:=2) (j:=3) rfl S.nd rfl rfl (by decide) rfl rfl (ae (pv 3) (ae (aw cV (pv 2) (pv 3)) ai)) rfl)))
  (au (bQ (bJ iF (pv 1) aj) (az (putL 2 S.nd (aw jG aj (pv 2)))) bW)
  (az (aR (fZ (ae (aw GZ (pv 0) (pv 2)) (ae (aw GZ (pv 1) (pv 2)) ai))))))))),?_⟩
 have ok:=WW (a:=a) hb mb;refine ⟨_,rfl,a,rfl,_,rfl,b,rfl,fun m σ H'=>H'=H∧∃(x y:Nat),σ=[some (.int a),some (.int b),some (.int (x:Int)),some (.int (y:Int))]∧m=y∧Nat.gcd x y=Int.gcd a b,⟨b.natAbs,rfl,a.natAbs,b.natAbs,?_,rfl,rfl⟩,?_⟩
 ·show [some (V.int a),some (V.int b),some (V.int (if a<0 then -a else a)),some (V.int (if b<0 then -b else b))]=_
  rw [Cf,Cf]
 ·rintro m σ H' ⟨rfl,x,y,rfl,em,hg⟩
  refine ⟨_,rfl,_,rfl,cH (fun hy=>?_) (fun hy=>?_)⟩
  ·have hy:y≠0:=fun z=>by subst z;cases hy
   refine ⟨fun σ' H2=>H2=H'∧σ'=[some (.int a),some (.int b),some (.int (y:Int)),some (.int (((x % y:Nat)):Int))],?_,?_⟩
   ·rintro σ' H2 ⟨rfl,rfl⟩
    exact ⟨x % y,by rw [em];exact Nat.mod_lt _ (by lia),rfl,y,x % y,rfl,rfl,by rw [Mg];exact hg⟩
   ·exact ⟨_,rfl,_,rfl,_,rfl,_,_,rfl,rfl,(show (0:Int)<y by lia),_,_,rfl,rfl,rfl⟩
  ·have y0:y=0:=by
    by_cases z:y=0;·exact z
    ·exact absurd (by simpa using z) hy
   subst y0;rw [Nat.gcd_zero_right] at hg;have qz:∀(g:Int),g=lowG a b→∀(p:Addr),H' p=none→Q (.ref p) (upd H' p (.tup [.int (a.fdiv g),.int (b.fdiv g)])):=fun g e p hp=>by rw [e];exact k p _ (aS hp) aA
   refine ⟨_,rfl,_,_,rfl,rfl,_,rfl,cH (fun hn=>?_) (fun hn=>?_)⟩
   ·have hn:b<0:=gD hn
    have eg:0-(x:Int)=lowG a b:=by unfold lowG;rw [ak hn,hg]
    have AO:CG 0 (0-(x:Int)):=by rw [eg];exact ok
    exact ⟨_,rfl,_,_,rfl,rfl,_,rfl,_,rfl,_,_,rfl,rfl,AO,_,rfl,_,rfl,_,_,rfl,rfl,AO,by show 2≤sizeLine;decide,qz _ eg⟩
   ·have hn:¬b<0:=fun z=>hn (dj z)
    have eg:(x:Int)=lowG a b:=by unfold lowG;rw [ao hn,hg]
    have AO:CG 0 (x:Int):=by rw [eg];exact ok
    exact ⟨_,rfl,_,rfl,_,_,rfl,rfl,AO,_,rfl,_,rfl,_,_,rfl,rfl,AO,by show 2≤sizeLine;decide,qz _ eg⟩
theorem aav:bF ["cell","at"] ["cell"] (aU DU):=bY
theorem aaw(T:Txt K mg t):a7 P w K mg base cz 1 t.tQ t.wO ["cell"] UZ:=by
 have S:=aav;refine T.xQ.cN S (fun _ _ _ _ H _ _ _ hr h=>?_);obtain ⟨c,rfl,k⟩:=h
 refine ⟨_,(au (eC 1 S.nd (aw gG aj (aw cV (pv 0) aj)))
  (au (zc fP (kz (iW (cD (Mc (K:=K) rfl) rfl T.Ir boot_all (ae (gd (N:=["by","at"]) (ρ:=(fun σ=>[σ[1]?.join])) (eS [1] rfl) rfl (BR rfl T.gP (ae aj (ae aj ai))) (fun _ _ _=>(.one (bJ iF (pv 0) (pv 1)))) (fun _ _ _=>(mP iE (aw cV (pv 1) (pv 0)) aj))) ai)))) (az (eC 1 S.nd (aw gG (pv 1) aj))))
  (az (aR (pv 1))))),?_⟩
 have c0:=d4 c (show (996:Int)≠0 by decide)
 have c1:=d8 c (show (0:Int)<996 by decide)
 refine ⟨_,rfl,_,_,rfl,rfl,(by show (0:Int)<996;decide),_,_,rfl,rfl,fun m σ H'=>ah H H'∧∃v:Int,σ=[some (.int c),some (.int v)]∧2≤v∧v≤997∧m=(997-v).toNat,
  ⟨_,ah.refl H,2+c % 996,rfl,by lia,by lia,rfl⟩,?_⟩
 rintro m σ H' ⟨sH,v,rfl,h1,h2,rfl⟩;refine ⟨2,32,rfl,⟨by decide,by decide,by decide,by decide⟩,fun D nD=>⟨fun i m ys Hc=>Hc=upd H' D (.lst ys)∧i+m=30∧ys=(jj v i).map V.bl,⟨30,rfl,rfl,rfl⟩,?_⟩⟩
 rintro i m ys Hc ⟨rfl,hm,rfl⟩;refine ⟨aA,?_⟩;have hl:((jj v i).map V.bl).length<sizeLine:=by rw [bL];have:=U3 v i;exact dO (by lia)
 by_cases hi:i<30
 ·refine .inr ⟨hi,fun x H2 y=>?_⟩
  obtain ⟨rfl,rfl⟩:=y;refine ⟨_,rfl,_,rfl,_,_,rfl,rfl,_,rfl,cH (fun hx=>?_) (fun hx=>?_)⟩
  ·have hx:2+(i:Int)<v:=gD hx
   refine ⟨_,rfl,_,rfl,_,_,rfl,rfl,(show (0:Int)<2+(i:Int) by lia),rfl,aA,hl,m-1,by lia,RI,by lia,?_⟩
   rw [U1 hx,Bt];show _++[V.bl (!decide (V.int (v % (2+(i:Int)))=V.int 0))]=_;rw [jO];rfl
  ·have hx:¬2+(i:Int)<v:=fun z=>hx (dj z)
   exact ⟨m-1,by lia,rfl,by lia,by rw [U2 hx]⟩
 ·have i30:i=30:=by lia
  subst i30;refine .inl ⟨aH _,D,jj v 30,rfl,.of aA,_,rfl,?_⟩;rw [U4];have s2:ah H (upd H' D (.lst ((jj v 30).map V.bl))):=sH.trans (aS nD);refine cH (fun hb=>?_) (fun hb=>?_)
  ·have hb:oB v=false:=by simpa using hb
   have hv:v≠997:=fun z=>by rw [z,U5] at hb;cases hb
   refine ⟨fun σ' H2=>ah H H2∧σ'=[some (.int c),some (.int (v+1))],?_,?_⟩
   ·rintro σ' H2 ⟨s3,rfl⟩
    exact ⟨(997-(v+1)).toNat,by lia,s3,v+1,rfl,by lia,by lia,rfl⟩
   ·exact ⟨_,rfl,_,_,rfl,rfl,s2,rfl⟩
  ·have hb:oB v=true:=by simpa using hb
   exact ⟨_,rfl,k v _ s2 h1 h2 (by rw [Uv h1 h2];exact hb)⟩
theorem aay:bF ["draw","way"] ["draw"] (aU DV):=bY
theorem aaz(T:Txt K mg t):a7 P w K mg base cz 2 t.tR t.wQ ["draw"] Vf:=by
 have S:=aay;refine T.xR.cN S (fun _ _ _ _ H _ _ _ hr h=>?_);obtain ⟨c,rfl,k⟩:=h
 refine ⟨_,(au (putL 1 S.nd (aw cV (pv 0) aj))
  (au (bQ (bJ iF (pv 1) aj) (az (aR aj)) bW)
  (au (bQ (bJ iF (pv 1) aj) (az (aR (aE dc (dM (ae aj (ae aj (ae aj ai)))) (aw jG (pv 1) aj)))) bW)
  (az (aR (aM (aaw T) hr T.O5 T.xQ.kp T.O4 aX (ae (aw pS (pv 0) aj) ai))))))),?_⟩
 refine ⟨_,rfl,_,_,rfl,rfl,(by show (0:Int)<8;decide),?_⟩
 refine ⟨_,rfl,_,_,rfl,rfl,_,rfl,cH (fun _=>k 0 H (ah.refl H) (.inl rfl)) (fun h3=>?_)⟩;refine ⟨_,rfl,_,_,rfl,rfl,_,rfl,cH (fun h6=>⟨by show 3≤sizeLine;decide,fun l hl=>?_⟩) (fun _=>?_)⟩
 ·have h3:¬c % 8<3:=fun z=>h3 (dj z)
  have h6:c % 8<6:=gD h6;obtain ⟨v,hv,mv⟩:=UL (xs:=([.int 2,.int 3,.int 5]:List V)) (i:=c % 8-3) (by lia) (by show c % 8-3<3;lia)
  refine ⟨_,rfl,_,_,rfl,rfl,l,_,_,v,rfl,rfl,.of aA,hv,?_⟩;simp only [eY,qT,or_false] at mv;rcases mv with e | e | e;·rw [e];exact k 2 _ (aS hl) (.inr ⟨by decide,by decide,by decide +kernel⟩)
  ·rw [e];exact k 3 _ (aS hl) (.inr ⟨by decide,by decide,by decide +kernel⟩)
  ·rw [e];exact k 5 _ (aS hl) (.inr ⟨by decide,by decide,by decide +kernel⟩)
 ·exact ⟨_,rfl,_,_,rfl,rfl,⟨by decide,by decide⟩,_,rfl,fun p H' s' h1 h2 h3=>k p H' s' (.inr ⟨h1,h2,h3⟩)⟩
theorem aaA{p:Int}(h1:2≤p)(h2:p≤997)(h3:iq p=true):(Td.b "wheel" p).good=true:=by simp [Td.good,Td.zr,Td.kJ,h1,h2,h3]
theorem aaB:(Td.a "fractions").good=true:=by simp [Td.good,Td.zr]
theorem aaC:bF ["p"] ["p"] (aU DW):=bY
theorem aaD(T:Txt K mg t):a7 P w K mg base cz 5 t.tS t.wR ["p"] (Vg t.cq):=by
 have S:=aaC;have Qb:=YV (P:=P) (w:=w) (base:=base) T;refine T.xS.cN S (fun _ _ _ _ H _ _ _ hr h=>?_);obtain ⟨p,rfl,hp,k⟩:=h
 refine ⟨_,(au (bQ (mQ (pv 0) (fun _=>rfl)) (az (aR (Lx T.Ak Qb (hr.mono (by decide)) rfl T.Im T.Il .nil iH (ae (fZ (ae fV (ae (pv 0) ai))) ai)))) bW)
  (az (aR (Lx T.Ak Qb (hr.mono (by decide)) rfl T.Im T.Il .nil iH (ae (fZ (ae fV ai)) ai))))),?_⟩
 refine ⟨_,rfl,_,rfl,cH (fun hq=>?_) (fun hq=>?_)⟩
 ·have hq:p≠0:=by simpa using hq
  obtain ⟨Qc,IY,Qd⟩:2≤p∧p≤997∧iq p=true:=hp.resolve_left hq;refine ⟨_,rfl,by show 2≤sizeLine;decide,fun q nq xw dw nx AQ nex=>⟨xw,dw,q,.b "wheel" p,rfl,aA,?_,fun _=>⟨rfl,k xw _ ?_ ⟨dw,by rw [aA,ao hq];rfl⟩⟩,fun hg=>absurd ((aaA Qc IY Qd).symm.trans hg) (by decide)⟩⟩
  ·rw [bI (gi aA nx),bI (gi aA AQ)]
   exact aA
  ·intro b o e
   have e1:=aS (o:=.tup [.str "wheel",.int p]) nq _ _ e;rw [bI (gi e1 nx),bI (gi e1 nx),bI (gi e1 AQ)];exact e1
 ·have hq:p=0:=by simpa using hq
  subst hq;refine ⟨by show 1≤sizeLine;decide,fun q nq xw dw nx AQ nex=>⟨xw,dw,q,.a "fractions",rfl,aA,?_,fun _=>⟨rfl,k xw _ ?_ ⟨dw,by rw [aA,ak rfl];rfl⟩⟩,fun hg=>absurd (aaB.symm.trans hg) (by decide)⟩⟩
  ·rw [bI (gi aA nx),bI (gi aA AQ)]
   exact aA
  ·intro b o e
   have e1:=aS (o:=.tup [.str "fractions"]) nq _ _ e;rw [bI (gi e1 nx),bI (gi e1 nx),bI (gi e1 AQ)];exact e1
theorem aaF:bF ["thing"] ["thing"] (aU DX):=bY
theorem EC(T:Txt K mg t):a7 P w K mg base cz 1 t.tT t.wV ["thing"] Mh:=by
 have S:=aaF;refine T.o8.cN S (fun _ _ _ _ H _ Q _ hr h=>?_);obtain ⟨v,rfl,ha,k⟩:=h;refine ⟨_,(az (aR (rf (cD (oA (K:=K)) rfl T.nH boot_isinstance (ae (pv 0) (ae (ot (v:=.ty "int") rfl T.Ip boot_int rfl) ai))) (y6 (KZ (cD (oA (K:=K)) rfl T.nH boot_isinstance (ae (pv 0) (ae (ot (v:=.ty "bool") rfl T.Iq boot_bool rfl) ai)))))))),?_⟩;obtain ⟨Ty,ty,k1,k2,_⟩:=ha.zo (K:=K);refine ⟨_,rfl,_,_,_,_,rfl,rfl,ty,k1,_,rfl,cH (fun h1=>?_) (fun h1=>?_)⟩
 ·refine ⟨_,rfl,_,_,_,_,rfl,rfl,ty,k2,_,rfl,?_⟩
  have e:(!oI v)=jP v:=by
   cases h2:oI v with
   | true=>rw [Mf h2];rfl
   | false=>rw [h2,Bool.or_false] at h1;rw [h1];rfl
  show Q (.bl (!oI v)) H;rw [e];exact k
 ·have e:jP v=false:=by
   cases h2:jP v with
   | true=>rw [h2] at h1;exact absurd rfl h1
   | false=>rfl
  rw [e] at k;exact k
theorem aaG:bF ["p","thing"] ["p","thing"] (aU DY):=bY
theorem aaH(T:Txt K mg t):a7 P w K mg base cz 2 t.tV t.wX ["p","thing"] UY:=by
 have S:=aaG;refine T.xT.cN S (fun _ _ _ _ H _ _ _ hr h=>?_);obtain ⟨q,v,rfl,hv,k⟩:=h;have hu:=hr.Lq
 refine ⟨_,(au (bQ (mQ (pv 0) (fun _=>rfl)) (az (aR (rf (aM (EC T) hr T.Ag T.o8.kp T.Af aX (ae (pv 1) ai)) (y6 (Lg BV iF aj (pv 1) (pv 0)))))) bW)
  (au (bQ (PW.pt (pw_or (kz (iW (cD (oA (K:=K)) rfl T.nH boot_isinstance (ae (pv 1) (ae (ot (v:=.ty "tuple") rfl T.Aq boot_tuple rfl) ai))))) (pw_or1 (bJ iE (cD dN rfl T.dH dI (ae (pv 1) ai)) aj)))) (az (aR kx)) bW)
  (au (bQ (PW.pt (pw_or (kz (iW (aM (EC T) hr T.Ag T.o8.kp T.Af aX (ae (aE bG (pv 1) aj) ai)))) (pw_or (kz (iW (aM (EC T) hr T.Ag T.o8.kp T.Af aX (ae (aE bG (pv 1) aj) ai)))) (pw_or1 (bJ iF (aE bG (pv 1) aj) aj))))) (az (aR kx)) bW)
  (az (aR (mP (Ut hu) (aM (EB T) hr T.Ae T.o7.kp T.Ad aX (ae (aE bG (pv 1) aj) (ae (aE bG (pv 1) aj) ai))) (pv 1))))))),?_⟩
 have k0:=k H (ah.refl H);refine ⟨_,rfl,_,rfl,cH (fun hq=>?_) (fun hq=>?_)⟩
 ·have hq:q≠0:=by simpa using hq
  unfold zx at k0;rw [ao hq] at k0;refine ⟨_,rfl,v,rfl,hv.any,_,rfl,cH (fun h1=>?_) (fun h1=>?_)⟩
  ·cases v with
   | int i=>
    refine ⟨_,rfl,_,_,rfl,rfl,_,rfl,cH (fun h2=>?_) (fun h2=>?_)⟩
    ·have e:Ce q (.int i)=decide (i<q):=by show (decide (0≤i) && decide (i<q))=_;rw [h2,Bool.true_and]
     rw [e] at k0;exact ⟨_,rfl,_,_,rfl,rfl,k0⟩
    ·have e:Ce q (.int i)=false:=by
      show (decide (0≤i) && decide (i<q))=_;have h2:decide (0≤i)=false:=by simpa using h2
      rw [h2,Bool.false_and]
     rw [e] at k0;exact k0
   | _=>cases h1
  ·have e:Ce q v=false:=by cases v <;> first | rfl | exact absurd rfl h1
   rw [e] at k0;exact k0
 ·have hq:q=0:=by simpa using hq
  unfold zx at k0 k;rw [ak hq] at k0;obtain ⟨Ty,ty,_,_,k3⟩:=hv.any.zo (K:=K);refine ⟨_,rfl,_,_,_,_,rfl,rfl,ty,k3,_,rfl,cH (fun h1=>?_) (fun h1=>?_)⟩
  ·have h1:mS H v=false:=by simpa using h1
   rw [UN h1] at k0;exact fg k0
  ·have h1:mS H v=true:=by simpa using h1
   obtain ⟨a,xs,rfl,e⟩:∃a xs,v=.ref a∧H a=some (.tup xs):=by
    cases hv.any with
    | @tup a xs e=>exact ⟨a,xs,rfl,e⟩
    | @lst a xs e=>unfold mS at h1;dsimp only at h1;rw [e] at h1;cases h1
    | @rO a e=>unfold mS at h1;dsimp only at h1;rw [e] at h1;cases h1
    | _=>cases h1
   refine ⟨_,rfl,a,xs,rfl,.inr (.of e),rfl,_,rfl,cH (fun h2=>?_) (fun h2=>?_)⟩
   ·have h2:xs.length≠2:=fun z=>by rw [z] at h2;cases h2
    rw [UM e h2] at k0;exact k0
   ·have h2:xs.length=2:=by
     by_cases z:xs.length=2;·exact z
     ·refine absurd ?_ h2
      have z':¬V.int (xs.length:Int)=V.int 2:=fun y=>z (by have:=V.int.inj y;lia)
      rw [fq z'];rfl
    match xs,h2,e,k0 with
    | [x,y],_,e,k0=>
     obtain ⟨ax,ay,my⟩:=hv.two a x y rfl e;rw [Gn e] at k0;refine ⟨_,rfl,a,_,0,x,rfl,rfl,.of e,rfl,x,rfl,ax,_,rfl,cH (fun h3=>?_) (fun h3=>?_)⟩
     ·have h3:jP x=false:=by simpa using h3
      have e1:zw x y=false:=by cases x <;> first | rfl | cases h3
      rw [e1] at k0;exact fg k0
     ·have h3:jP x=true:=by simpa using h3
      refine ⟨_,rfl,a,_,1,y,rfl,rfl,.of e,rfl,y,rfl,ay,_,rfl,cH (fun h4=>?_) (fun h4=>?_)⟩
      ·have h4:jP y=false:=by simpa using h4
       have e1:zw x y=false:=by cases y <;> first | (cases x <;> rfl) | cases h4
       rw [e1] at k0;exact fg k0
      ·have h4:jP y=true:=by simpa using h4
       cases x with
       | int i=>
        cases y with
        | int j=>
         refine ⟨_,rfl,a,_,1,.int j,rfl,rfl,.of e,rfl,_,_,rfl,rfl,_,rfl,cH (fun h5=>?_) (fun h5=>?_)⟩
         ·have h5:j<1:=gD h5
          have e1:zw (.int i) (.int j)=false:=by show (decide (1≤j) && decide (Int.gcd i j=1))=_;rw [fq (by lia)];rfl
          rw [e1] at k0;exact k0
         ·have h5:¬j<1:=fun z=>h5 (dj z)
          refine ⟨_,rfl,a,_,0,.int i,rfl,rfl,.of e,rfl,_,rfl,a,_,1,.int j,rfl,rfl,.of e,rfl,i,j,rfl,by lia,(my j rfl).wide,fun p H2 s2 hp=>?_⟩
          refine ⟨_,rfl,p,a,_,_,rfl,rfl,.of hp,.of (s2 _ _ e),rfl,rfl,?_⟩;have z:=k H2 s2;rw [ak hq,Gn e] at z;have e1:zw (.int i) (.int j)=lJ [.int (i.fdiv (lowG i j)),.int (j.fdiv (lowG i j))] [.int i,.int j]:=by show (decide (1≤j) && decide (Int.gcd i j=1))=((i.fdiv (lowG i j) == i) && ((j.fdiv (lowG i j) == j) && true));rw [dj (show 1≤j by lia),Bool.true_and,Bool.and_true,U7 (by lia)]
          rw [e1] at z;exact z
        | _=>cases h4
       | _=>cases h3
theorem aaI:bF ["p","draw","way","rest"] ["p","draw"] (aU DZ):=bY
theorem ED(T:Txt K mg t):a7 P w K mg base cz 2 t.tW t.wY ["p","draw"] WX:=by
 have S:=aaI;refine T.o9.cN S (fun _ _ _ _ H _ Q E hr h=>?_);obtain ⟨q,c,rfl,hp,hc,k⟩:=h
 refine ⟨_,(au (bQ (mQ (pv 0) (fun _=>rfl)) (az (aR (aw cV (pv 1) (pv 0)))) bW)
  (au (putL 2 S.nd (aw cV (pv 1) aj))
  (au (putL 3 S.nd (aw pS (pv 1) aj))
  (au (bQ (bJ iF (pv 2) aj) (az (aR (fZ (ae aj (ae aj ai))))) bW)
  (au (bQ (bJ iF (pv 2) aj) (az (aR (fZ (ae (aw jG (aw cV (pv 3) aj) aj) (ae aj ai))))) bW)
  (au (bQ (bJ iF (pv 2) aj) (az (aR (aM (EB T) hr T.Ae T.o7.kp T.Ad aX (ae (aw jG (aw cV (pv 3) aj) aj) (ae (aw gG (aw cV (aw pS (pv 3) aj) aj) aj) ai))))) bW)
  (az (aR (aM (EB T) hr T.Ae T.o7.kp T.Ad aX (ae (aw jG (aw cV (pv 3) aj) aj) (ae (aw gG (aw cV (aw pS (pv 3) aj) aj) aj) ai))))))))))),?_⟩
 have Qe:∀(a b:Int),1≤b→a.natAbs≤10 ^ 6→b.natAbs≤1000→q=0→Nh [.int a,.int b] H Q E:=fun a b hb ba bb e=>by
  subst e;obtain ⟨u,d,e1,e2,l,l1,l2⟩:=Ml (a:=a) hb;refine ⟨a,b,rfl,by lia,(cC.of_lt (by lia) (by lia)).wide,fun r H' s' e=>k (.ref r) u d H' s' (.bH ?_ l (aq l1 ba) (aq l2 (aq bb (by decide)))) (aq l2 bb)⟩
  rw [e,e1,e2]
 refine ⟨_,rfl,_,rfl,cH (fun hq=>?_) (fun hq=>?_)⟩
 ·have hq:q≠0:=by simpa using hq
  obtain ⟨Qc,IY,Qd⟩:2≤q∧q≤997∧iq q=true:=hp.resolve_left hq;exact ⟨_,rfl,_,rfl,_,_,rfl,rfl,(show (0:Int)<q by lia),k _ _ _ H (ah.refl H) (.rem (d4 _ hq) (d8 _ (by lia)) IY) (by decide)⟩
 ·have hq:q=0:=by simpa using hq
  refine ⟨_,rfl,_,_,rfl,rfl,(by show (0:Int)<8;decide),?_⟩
  refine ⟨_,rfl,_,_,rfl,rfl,⟨by decide,by decide⟩,?_⟩
  generalize c / 8=e;refine ⟨_,rfl,_,_,rfl,rfl,_,rfl,cH (fun _=>⟨by show 2≤sizeLine;decide,fun r hr=>?_⟩) (fun _=>?_)⟩
  ·subst hq
   exact k _ _ _ _ (aS hr) (.bH aA ⟨by decide,by decide⟩ (by decide) (by decide)) (by decide)
  refine ⟨_,rfl,_,_,rfl,rfl,_,rfl,cH (fun _=>⟨_,rfl,_,_,rfl,rfl,(by show (0:Int)<7;decide),_,_,rfl,rfl,by show 2≤sizeLine;decide,fun r hr=>?_⟩) (fun _=>?_)⟩
  ·subst hq
   have b0:=d4 e (show (7:Int)≠0 by decide)
   have b1:=d8 e (show (0:Int)<7 by decide)
   exact k _ _ _ _ (aS hr) (.bH aA ⟨by decide,pH ..⟩ (by lia) (by decide)) (by decide)
  refine ⟨_,rfl,_,_,rfl,rfl,_,rfl,cH (fun _=>⟨_,rfl,_,_,rfl,rfl,(by show (0:Int)<23;decide),_,_,rfl,rfl,_,rfl,_,_,rfl,rfl,⟨by decide,by decide⟩,_,_,rfl,rfl,(by show (0:Int)<6;decide),_,_,rfl,rfl,?_⟩) (fun _=>?_)⟩
  ·have b0:=d4 e (show (23:Int)≠0 by decide)
   have b1:=d8 e (show (0:Int)<23 by decide)
   have b2:=d4 (e / 23) (show (6:Int)≠0 by decide)
   have b3:=d8 (e / 23) (show (0:Int)<6 by decide)
   exact Qe _ _ (by lia) (by lia) (by lia) hq
  ·refine ⟨_,rfl,_,_,rfl,rfl,(by show (0:Int)<2000001;decide),_,_,rfl,rfl,_,rfl,_,_,rfl,rfl,⟨by decide,by decide⟩,_,_,rfl,rfl,(by show (0:Int)<1000;decide),_,_,rfl,rfl,?_⟩
   have b0:=d4 e (show (2000001:Int)≠0 by decide)
   have b1:=d8 e (show (0:Int)<2000001 by decide)
   have b2:=d4 (e / 2000001) (show (1000:Int)≠0 by decide)
   have b3:=d8 (e / 2000001) (show (0:Int)<1000 by decide)
   exact Qe _ _ (by lia) (by lia) (by lia) hq
theorem aaJ:bF ["p","one","other","top","bottom","a","b"] ["p","one","other"] (aU D3):=bY
theorem EE(T:Txt K mg t):a7 P w K mg base cz 2 t.qo t.tX ["p","one","other"] NT:=by
 have S:=aaJ;refine T.mf.cN S (fun _ _ _ _ H vs _ _ hr h=>?_);obtain ⟨q,a,b,B,C,ps,rs,rfl,hq,hA,hB,B1,C1,qw,ah0,hW,k⟩:=h;have Qf:=(fun p hp=>(hA.nums hq p hp).2.1);have Qg:=(fun p hp=>(hB.nums hq p hp).2.1);obtain ⟨vs,ea,la,fa⟩:=hA;obtain ⟨us,eb,lb,fb⟩:=hB
 refine ⟨_,(au (bQ (mQ (pv 0) (fun _=>rfl)) (az (aR (aw cV (cD (VE (K:=K) rfl) rfl T.Pq boot_sum (ae (vv (N:=["a","b"]) (ρ:=(fun σ=>[])) (si [] rfl) rfl (mY rfl T.mh (ae (pv 1) (ae (pv 2) ai))) (fun _ _ _=>.nil) (fun _ _ _=>(aw fG (pv 0) (pv 1)))) ai)) (pv 0)))) bW)
  (au (putL 3 S.nd aj)
  (au (putL 4 S.nd aj)
  (au (ik fP rfl (mY rfl T.mh (ae (pv 1) (ae (pv 2) ai))) (y_ rfl (mM (d_ (i:=5) S.nd rfl (Or.inl rfl)) (mM (d_ (i:=6) S.nd rfl (Or.inl rfl)) y8)))
   (au (putL 3 S.nd (aw gG (aw m_ (aw m_ (pv 3) (aE bG (pv 5) aj)) (aE bG (pv 6) aj)) (aw m_ (aw m_ (aE bG (pv 5) aj) (aE bG (pv 6) aj)) (pv 4))))
  (az (putL 4 S.nd (aw m_ (aw m_ (pv 4) (aE bG (pv 5) aj)) (aE bG (pv 6) aj))))))
  (az (aR (aM (EB T) hr T.Ae T.o7.kp T.Ad aX (ae (pv 3) (ae (pv 4) ai))))))))),?_⟩
 refine ⟨_,rfl,_,rfl,cH (fun hp=>?_) (fun hp=>?_)⟩
 ·have hp:q≠0:=by simpa using hp
  obtain ⟨q2,q3,q4⟩:=hq.resolve_left hp;have eV:vs=(ps.map fun p=>p.1).map V.int:=p9 (by rw [la,bL]) fun i v e=>by
   have hi:i<ps.length:=by rw [←la];exact (aP.mp e).1
   have h1:=fa i v ps[i] e (by simp [hi])
   refine ⟨ps[i].1,by rw [cF];simp [hi],?_⟩
   generalize ps[i]=p at h1;obtain ⟨x,m⟩:=p;cases h1 with
   | bH er l bx bm=>exact absurd rfl hp
   | rem h0 h1 h2=>rfl
  have eU:us=(rs.map fun p=>p.1).map V.int:=p9 (by rw [lb,bL]) fun i v e=>by
   have hi:i<rs.length:=by rw [←lb];exact (aP.mp e).1
   have h1:=fb i v rs[i] e (by simp [hi])
   refine ⟨rs[i].1,by rw [cF];simp [hi],?_⟩
   generalize rs[i]=p at h1;obtain ⟨x,m⟩:=p;cases h1 with
   | bH er l bx bm=>exact absurd rfl hp
   | rem h0 h1 h2=>rfl
  have hz:(vs.zip us).length≤40:=by rw [jB];lia
  refine lU (sk (Gz (VP (zs:=vs.zip us) (fun R h=>⟨_,rfl,_,rfl,a,b,rfl,⟨_,.of ea⟩,⟨_,.of eb⟩,h _ _ (ah.refl _) (p6 (.of ea) (.of eb))⟩) (dO (by lia)) (fun i v=>∃w:Int,(List.zipWith (· * ·) (ps.map fun p=>p.1) (rs.map fun p=>p.1))[i]?=some w∧v=.int w) ?_ ?_)))
  ·intro i x y gQ Hc R sc kc
   have h0:=(k_.mp gQ);have hi:i<ps.length:=by rw [←la];exact (aP.mp h0.1).1
   have nb:=fa i x ps[i] h0.1 (by simp [hi])
   rw [eV,eU] at gQ;obtain ⟨t0,u0,rfl,rfl,a1,a2⟩:=VT gQ;have bt:0≤t0∧t0<1000:=by
    generalize ps[i]=p at nb;obtain ⟨x',m'⟩:=p;cases nb with
    | rem h0 h1 h2=>lia
   exact ⟨_,rfl,_,rfl,_,_,rfl,rfl,.inl ⟨by lia,by lia⟩,kc _ Hc (ah.refl _) ⟨t0*u0,by rw [Ft,a1,a2],rfl⟩⟩
  ·intro D ws Hc sc hl hP eD
   have ev:ws=(List.zipWith (· * ·) (ps.map fun p=>p.1) (rs.map fun p=>p.1)).map V.int:=p9 (by rw [hl,jB,BF,bL,bL,la,lb]) hP
   subst ev;refine ⟨D,_,rfl,.of eD,_,rfl,_,_,rfl,rfl,(show (0:Int)<q by lia),k _ Hc sc ?_⟩
   have e:=MI (ps:=ps) (rs:=rs) (ts:=ps.map fun p=>p.1) (us:=rs.map fun p=>p.1) (B:=1) (C:=1) (S:=0) (acc:=(0,1)) (by simp) (by simp)
    (fun i p t h1 h2=>by rw [cF,h1] at h2;cases h2;rw [(Qf p (pD h1)).2 hp])
    (fun i p t h1 h2=>by rw [cF,h1] at h2;cases h2;rw [(Qg p (pD h1)).2 hp]) (by simp)
   have bt:=MJ (q:=q) Qf Qg (acc:=(0,1)) ⟨fun _=>by decide,fun _=>rfl⟩
   have b1:=bt.2 hp;rw [b1] at e ⊢;rw [n5,iB,iB,iB] at e;refine .rem q2 (d4 _ hp) (d8 _ (by lia)) (by rw [pH]) ?_
   rw [←e];obtain ⟨w,ew⟩:=vm (mZ (ps.map fun p=>p.1) (rs.map fun p=>p.1)) q;exact ⟨-w,by show mZ _ _ % q*1-_=_;rw [jy];lia⟩
 ·have hp:q=0:=by simpa using hp
  subst hp;have get:∀(B:Nat) (ts:List V) (xs:aD),ts.length=xs.length→(∀(i:Nat) (v:V) (p:Int×Int),ts[i]?=some v→xs[i]?=some p→bZ B H 0 v p.1 p.2)→∀(i:Nat) (v:V),ts[i]?=some v→∃(r:Addr) (x m:Int),v=.ref r∧H r=some (.tup [.int x,.int m])∧xs[i]?=some (x,m)∧de x m∧x.natAbs≤B∧m.natAbs≤B:=fun B ts xs hl hn i v e=>by
   have hi:i<xs.length:=by rw [←hl];exact (aP.mp e).1
   have ep:xs[i]?=some xs[i]:=by simp [hi]
   have h1:=hn i v xs[i] e ep;generalize xs[i]=p at h1 ep;obtain ⟨x,m⟩:=p;cases h1 with
   | bH er l bx bm=>exact ⟨_,x,m,rfl,er,ep,l,bx,bm⟩
   | rem h0 h1 h2=>lia
  have aaK:=get B vs ps la fa;have aaL:=get C us rs lb fb;have AR:1≤B*C:=n8 B1 C1;have wd:∀{x:Int} {i:Nat},i<ps.length→x.natAbs≤40*(B*C) ^ i*(B*C)→Wide x:=fun{x i} hi hx=>by refine dq (aq hx ?_) (hW rfl);rw [jA,←n6];exact gW _ (eO AR hi)
  have lz:(vs.zip us).length=min ps.length rs.length:=by rw [jB,la,lb]
  refine ⟨_,rfl,_,rfl,a,b,rfl,⟨_,.of ea⟩,⟨_,.of eb⟩,?_⟩
  refine Gx (K:=K) (xs:=vs) (ys:=us) (fun i σ Hc=>ah H Hc∧∃(v5 v6:Option V),σ=[some (.int 0),some (.ref a),some (.ref b),some (.int (bu (ps.take i) (rs.take i) (0,1)).1),some (.int (bu (ps.take i) (rs.take i) (0,1)).2),v5,v6]∧1≤(bu (ps.take i) (rs.take i) (0,1)).2∧(bu (ps.take i) (rs.take i) (0,1)).2.natAbs≤(B*C) ^ i∧(bu (ps.take i) (rs.take i) (0,1)).1.natAbs≤i*(B*C) ^ i)
   ⟨ah.refl H,none,none,by simp [bu];rfl,by simp [bu],by simp [bu],by simp [bu]⟩ (fun i σ Hc ⟨z,_⟩=>⟨.of (z _ _ ea),.of (z _ _ eb)⟩) ?_ ?_
  ·rintro i x y σ Hc Tt gQ ⟨sc,v5,v6,rfl,b1,bb,bt⟩ nT
   obtain ⟨h1,h2⟩:=k_.mp gQ;obtain ⟨r1,x1,m1,rfl,IZ,Qh,l1,I_,yd⟩:=aaK i x h1;obtain ⟨r2,x2,m2,rfl,er2,x5,l2,Ja,EF⟩:=aaL i y h2;have tk:=ML ps rs i (0,1) (x1,m1) (x2,m2) Qh x5;generalize bu (ps.take i) (rs.take i) (0,1)=tb at *;obtain ⟨tp,bo⟩:=tb;have sT:ah Hc (upd Hc Tt (.tup [.ref r1,.ref r2])):=aS nT;have e1:=sT _ _ (sc _ _ IZ);have e2:=sT _ _ (sc _ _ er2);have p1:=l1.pos;have p2:=l2.pos;refine ⟨Tt,_,rfl,.of aA,rfl,_,_,rfl,_,_,rfl,rfl,?_⟩;dsimp only at tk b1 bb bt;have hi:i<ps.length:=(aP.mp Qh).1;have p0:1≤(B*C) ^ i:=pL AR;have Qi:i*(B*C) ^ i≤40*(B*C) ^ i:=d9 _ (by lia)
   have Jb:(B*C) ^ i≤40*(B*C) ^ i:=fO _ (by decide)
   have leB:B≤B*C:=ia _ C1;have leC:C≤B*C:=fO _ B1;have up:∀{x:Int},x.natAbs≤B*C→Wide x:=fun{x} h=>wd hi (aq h (fO _ (n8 (by decide) p0)))
   have MB:∀{x:Int},x.natAbs≤B→Wide x:=fun h=>up (aq h leB);have MC:∀{x:Int},x.natAbs≤C→Wide x:=fun h=>up (aq h leC);have mt:Wide tp:=wd hi (aq (aq bt Qi) (ia _ AR));have mt1:Wide (tp*m1):=wd hi (by rw [bz];exact aZ (aq bt Qi) (aq yd leB))
   have mb:Wide bo:=wd hi (aq (aq bb Jb) (ia _ AR));have mb1:Wide (bo*m1):=wd hi (by rw [bz];exact aZ (aq bb Jb) (aq yd leB))
   have mx:Wide (x1*x2):=up (by rw [bz];exact aZ I_ Ja)
   refine ⟨_,rfl,_,rfl,r1,_,_,_,rfl,rfl,.of e1,rfl,_,_,rfl,rfl,⟨mt,MB yd⟩,_,rfl,r2,_,_,_,rfl,rfl,.of e2,rfl,_,_,rfl,rfl,⟨mt1,MC EF⟩,_,rfl,r1,_,_,_,rfl,rfl,.of e1,rfl,_,rfl,r2,_,_,_,rfl,rfl,.of e2,rfl,_,_,rfl,rfl,⟨MB I_,MC Ja⟩,_,rfl,_,_,rfl,rfl,⟨mx,mb⟩,_,_,rfl,rfl,?_⟩;refine ⟨_,rfl,_,rfl,r1,_,_,_,rfl,rfl,.of e1,rfl,_,_,rfl,rfl,⟨mb,MB yd⟩,_,rfl,r2,_,_,_,rfl,rfl,.of e2,rfl,_,_,rfl,rfl,⟨mb1,MC EF⟩,?_⟩;refine ⟨sc.trans sT,_,_,by rw [tk];rfl,?_,?_,?_⟩
   ·rw [tk]
    have:=d6 (d6 (show 0<bo by lia) (show 0<m1 by lia)) (show 0<m2 by lia)
    dsimp only;lia
   ·rw [tk]
    dsimp only;rw [bz,bz,n6,jA];exact aZ bb (aZ yd EF)
   ·rw [tk]
    dsimp only;refine aq (Int.natAbs_add_le _ _) ?_;rw [bz,bz,bz,bz,n6,gT];refine Nat.add_le_add ?_ ?_
    ·rw [jA,←jA i]
     exact aZ bt (aZ yd EF)
    ·rw [iT]
     exact aZ bb (aZ I_ Ja)
  ·rintro σ Hc ⟨sc,v5,v6,rfl,b1,bb,bt⟩
   have e:=VZ ps rs (0,1) (vs.zip us).length (by rw [lz];exact aH _)
   rw [e] at b1 bb ⊢;have b0:(bu ps rs (0,1)).2≠0:=by lia
   have lw:=Cp (a:=(bu ps rs (0,1)).1) b0;have wb:Wide (bu ps rs (0,1)).2:=by refine dq (aq bb (aq (eO AR (show (vs.zip us).length≤ps.length by lia)) (fO _ (by decide)))) (hW rfl)
   exact ⟨_,rfl,_,rfl,_,_,rfl,b0,wb,fun r H' s' er=>k (.ref r) H' (sc.trans s') (.bH er lw.1 b0 lw.2.1)⟩
theorem Jc(T:Txt K mg t):a7 P w K mg base cz 2 t.qo t.tX ["p","one","other"] WY:=a7.imp (EE T) fun vs H Q E h=>by obtain ⟨q,a,b,ps,rs,rfl,hq,hA,hB,hL,hL',k⟩:=h;exact ⟨q,a,b,_,_,ps,rs,rfl,hq,hA,hB,by decide,by decide,hL.zS,hL'.zS,fun z=>dq (gW _ (eO (by decide) (hL.l4 z))) (by decide +kernel),k⟩
theorem aaR:bF ["p","thing","many"] ["p","thing","many"] (aU D4):=bY
theorem Qj(T:Txt K mg t):a7 P w K mg base cz 3 t.tY t.wZ ["p","thing","many"] V0:=by
 have S:=aaR;refine T.uw.cN S (fun _ _ _ _ H vs _ _ hr h=>?_);obtain ⟨q,a,tb,n,rfl,⟨vs,ea,hl,hn⟩,en,qw,hb,k⟩:=h
 refine ⟨_,(au (bQ (PW.pt (pw_or (kz (iW (cD (oA (K:=K)) rfl T.nH boot_isinstance (ae (pv 1) (ae (ot (v:=.ty "list") rfl T.o_ boot_list rfl) ai))))) (pw_or1 (bJ iE (cD dN rfl T.dH dI (ae (pv 1) ai)) (pv 2))))) (az (aR kx)) bW)
  (az (aR (cD (Mc (K:=K) rfl) rfl T.Ir boot_all (ae (gd (N:=["number","p"]) (ρ:=(fun σ=>[σ[0]?.join])) (eS [0] rfl) rfl (e7 (pv 1)) (fun _ _ _=>.nil) (fun _ _ _=>(aM (aaH T) hr T.Pa T.xT.kp T.O_ aX (ae (pv 1) (ae (pv 0) ai))))) ai))))),?_⟩
 refine ⟨_,rfl,_,_,_,true,rfl,rfl,.of (.lst ea),zu,true,rfl,cP ?_⟩;refine ⟨_,rfl,a,vs,rfl,.inl (.of ea),_,rfl,rfl,false,by rw [jO,dj (by lia)];rfl,cP ?_⟩
 dsimp only [gq];refine lU (Gz (Mq (xs:=vs) (fun R h=>⟨_,rfl,a,rfl,⟨_,.of ea⟩,h _ _ (ah.refl _) (iI (.of ea))⟩) (by rw [hl];exact dO (by lia)) (fun _ i y _=>y=.bl true) (fun _ _ _ _ _ _ h _ _=>h) ?_ ?_))
 ·intro D i v hi Hc R sc _ kc
  have a_:i<tb.length:=by rw [←hl];exact (aP.mp hi).1
  have hv:=(hn i v tb[i] hi (by simp [a_])).mono sc
  refine ⟨_,rfl,_,rfl,q,v,rfl,V3 hv (hb _ (aQ ..)),fun H' s'=>?_⟩;rw [Vs hv];exact kc _ H' s' rfl
 ·intro D ys Hc sc pe hP eD
  refine ⟨D,List.replicate ys.length true,rfl,.of (by rw [eD];exact hJ _ (hJ _ (MK hP))),?_⟩
  rw [VY];exact k Hc sc
variable {c:TT} {u:TS} {D:Ends} {σ:St}
theorem uJ{t:TS}(k:∀R:St→Hp→Prop,(∀σ H,D.nx σ H→R σ H)→u7 c t u {D with nx:=R} σ H):u7 c t u D σ H:=k D.nx fun _ _ h=>h
variable {i:Nat}
theorem Qk{r:TS}(h:r D (σ.set i (some v)) H):FE (ou (tC v) (aT i)) r D σ H:=h
theorem aaS{x:Int}(h:0≤x∧x<q)(hq:aB q):Wide x:=by
 have:q≤997:=by rcases hq with h | h <;> lia
 exact (cC.of_lt (by lia) (by lia)).wide
theorem swap_eq(M:aC)(c s:Nat):(fun j=>if j=c then M s else (fun j=>if j=s then M c else M j) j)=bT M c s:=by
 funext i
 unfold bT;by_cases z:i=c
 ·subst z
  by_cases y:i=s;·subst y;simp
  ·rw [ak rfl,ao y,ak rfl]
 ·rw [ao z,ao z]
theorem aaT:bF ["p","rows","many","left","row","big","number","count","j","at","lead","i","by","made"] ["p","rows","many"] (aU D5):=bY
theorem Ql(T:Txt K mg t):a7 P w K mg base cz 1 t.tZ t.w6 ["p","rows","many"] XR:=by
 have S:=aaT;refine T.ux.cN S (fun _ _ _ _ H vs _ _ hr h=>?_);obtain ⟨q,a,B,W,aa,rfl,hq,hA,zS,hm,W40,B1,hB,k⟩:=h;have kZ:=hr.units
 refine ⟨_,(au (eC 3 S.nd (dM ai))
  (au (ik fP rfl (e7 (pv 1)) (d_ (i:=4) S.nd rfl (Or.inl rfl))
   (au (eC 5 S.nd aj)
  (au (bQ (bJ il (pv 0) aj) (az (ik fP rfl (e7 (pv 4)) (d_ (i:=6) S.nd rfl (Or.inl rfl))
   (az (eC 5 S.nd (aw m_ (pv 5) (aE bG (pv 6) aj)))))) bW)
  (az (mK (rJ qW yX yY mR (pv 3) (ae (gd (N:=["number","p","big"]) (ρ:=(fun σ=>[σ[0]?.join,σ[5]?.join])) (eS [0,5] rfl) rfl (e7 (pv 4)) (fun _ _ _=>.nil) (fun _ _ _=>(u6 (Ni (K:=K) (pv 1) (fun _=>rfl)) (pv 0) (aw m_ (aE (p7 (K:=K)) (pv 0) aj) (aw GZ (pv 2) (aE (p7 (K:=K)) (pv 0) aj)))))) ai)))))))
  (au (putL 7 S.nd aj)
  (au (ik fP rfl (jF rfl T.gP (ae (pv 2) ai)) (d_ (i:=8) S.nd rfl (Or.inr rfl))
   (au (zA (i0:=9) (N:=["i","left","j"]) (ρ:=(fun σ=>[σ[3]?.join,σ[8]?.join])) (eS [3,8] rfl) rfl S.nd rfl (Or.inl rfl) (BR rfl T.gP (ae (pv 7) (ae (cD dN rfl T.dH dI (ae (pv 3) ai)) ai))) (fun _ _ _=>(.one (bJ iE (aE (p8 (K:=K)) (aE (p8 (K:=K)) (pv 1) (pv 0)) (pv 2)) aj))) (fun _ _ _=>(pv 0)))
  (az (bQ (bJ (Wa kZ) (pv 9) (dM ai)) (au (eC 10 S.nd (aE dc (pv 3) (aE dc (pv 9) aj)))
  (au (@kD _ _ _ _ _ _ (aE dc (pv 3) (pv 7)) (kC (pv 3) (aE dc (pv 9) aj) set_list) (by rfl) (by rfl) (by rfl))
  (au (@kD _ _ _ _ _ _ (pv 10) (kC (pv 3) (pv 7) set_list) (by rfl) (by rfl) (by rfl))
  (au (ik fP rfl (BR rfl T.gP (ae (aw gG (pv 7) aj) (ae (cD dN rfl T.dH dI (ae (pv 3) ai)) ai))) (d_ (i:=11) S.nd rfl (Or.inl rfl))
   (au (eC 12 S.nd (aE dc (aE dc (pv 3) (pv 11)) (pv 8)))
  (au (Yc (i0:=13) (N:=["a","b","lead","j","by"]) (ρ:=(fun σ=>[σ[10]?.join,σ[8]?.join,σ[12]?.join])) (si [10,8,12] rfl) rfl S.nd rfl (Or.inl rfl) (mY rfl T.mh (ae (aE dc (pv 3) (pv 11)) (ae (pv 10) ai))) (fun _ _ _=>.nil) (fun _ _ _=>(aw jG (aw m_ (pv 0) (aE (p8 (K:=K)) (pv 2) (pv 3))) (aw m_ (pv 1) (pv 4)))))
  (az (@kD _ _ _ _ _ _ (gd (N:=["number","p"]) (ρ:=(fun σ=>[σ[0]?.join])) (eS [0] rfl) rfl (e7 (pv 13)) (fun _ _ _=>.nil) (fun _ _ _=>(u6 (Ni (K:=K) (pv 1) (fun _=>rfl)) (aw cV (pv 0) (pv 1)) (pv 0)))) (kC (pv 3) (pv 11) set_list) (by rfl) (by rfl) (by rfl))))))
  (az (putL 7 S.nd (aw gG (pv 7) aj))))))) bW))))
  (az (aR (pv 7))))))),?_⟩
 obtain ⟨vs,ea,lv,fv⟩:=id hA;have Jd:q=0→∀j,j≤W+1→B ^ j<2 ^ 8192:=fun z j hj=>by
  have h1:B ^ j≤B ^ (W+1):=eO (by lia) hj
  have h2:(2*B ^ (W+1)) ^ 1≤(2*B ^ (W+1)) ^ (2 ^ (aa.length-2)):=eO (by have:=pL (n:=W+1) (show 0<B by lia);lia) (pL (by decide))
  have h3:=hB z;rw [Nat.pow_one] at h2;lia
 have Je:q=0→B<2 ^ 8192:=fun z=>by have:=Jd z 1 (by lia);rw [Nat.pow_one] at this;exact this
 refine ⟨by show 0≤sizeLine;decide,fun l nl=>?_⟩
 have s0:ah H (upd H l (.lst [])):=aS nl;have AN:upd H l (.lst []) l=some (.lst []):=aA;generalize upd H l (.lst [])=H0 at s0 AN ⊢;dsimp only [aT];simp only [L2.start,cS,ib,fU,gU,List.replicate,gY,gC,bj,bq];refine ⟨_,rfl,a,rfl,⟨_,.of (s0 _ _ ea)⟩,?_⟩;refine rp (K:=K) (a:=a) (xs:=vs) (fun i σ Hc=>ah H Hc∧∃(ls:List V) (v4 v5 v6:Option V),σ=[some (.int q),some (.ref a),some (.int (W:Int)),some (.ref l),v4,v5,v6,none,none,none,none,none,none,none]∧Hc l=some (.lst ls)∧ls.length=i∧∀(i':Nat) (v:V),ls[i']?=some v→∃(x:Addr) (ts:List Int) (b:Int),v=.ref x∧x≠l∧Hc x=some (.lst (ts.map V.int))∧zT q (B ^ (W+1)) W (aa.getD i' []) ts b) ⟨s0,[],none,none,none,rfl,AN,rfl,fun i' v e=>by simp at e⟩ (fun i σ Hc _ ⟨sc,_⟩=>.of (sc _ _ ea)) ?_ ?_
 ·rintro i v σ Hc hv ⟨sc,ls,v4,v5,v6,rfl,el,ll,EG⟩
  have hi:i<aa.length:=by rw [←lv];exact (aP.mp hv).1
  obtain ⟨r,rfl,ws,ew,lw,fw⟩:=fv i v aa[i] hv (by simp [hi])
  have lp:=hm _ (aQ hi);dsimp only [aT];simp only [bj,bq];refine Qk ?_;simp only [bj,bq];refine fT (uJ fun R hR=>?_);dsimp only;have Qm:∀p∈aa[i],aF q p.2∧p.1.natAbs≤B∧p.2.natAbs≤B:=fun p hp=>by
   obtain ⟨j,hj,e⟩:=gh.mp hp;have di:j<ws.length:=by lia
   have z:=fw j ws[j] p (by simp [di]) (by simp [hj,e])
   exact ⟨z.bot hq,z.both B1⟩
  have fin:∀(big:Int) (v6:Option V) (Hd:Hp),ah Hc Hd→aF q big→(∀p∈aa[i],p.2∣big)→big.natAbs≤B ^ W→R [some (.int q),some (.ref a),some (.int (W:Int)),some (.ref l),some (.ref r),some (.int big),v6,none,none,none,none,none,none,none] Hd:=fun big v6 Hd sd Qn dv bb=>hR _ _ (by
   have Jf:=sd _ _ el;have uK:=sd _ _ (sc _ _ ew);refine ⟨_,rfl,.inl ⟨rfl,_,.of Jf⟩,?_⟩;refine iu (xs:=ws) (fun R h=>⟨_,rfl,r,rfl,⟨_,.of uK⟩,h _ _ (ah.refl _) (iI (.of uK))⟩) (by rw [lw,lp];exact dO (by lia)) (fun D j y Hx=>∃t:Int,y=.int t∧t*(aa[i].getD j o1).2=(aa[i].getD j o1).1*big∧t.natAbs≤B ^ (W+1)∧(q≠0→0≤t∧t<q)) (fun D j y Ha Hb ys h e f=>h) ?_ ?_
   ·intro D j v hj He R' se _ kc
    have j1:j<ws.length:=(aP.mp hj).1;have j2:j<aa[i].length:=by lia
    have z:=fw j v aa[i][j] hj (by simp [j2])
    rw [getD_at j2] at kc;have bp:=Qm _ (aQ j2);have dp:=dv _ (aQ j2);generalize aa[i][j]=p at z kc bp dp;obtain ⟨x,m⟩:=p;refine ⟨_,rfl,_,rfl,cH (fun hp=>?_) (fun hp=>?_)⟩
    ·have hp:q≠0:=by simpa using hp
     cases z with
     | bH er lo bx bm=>exact absurd rfl hp
     | rem h0 h1 h2=>exact ⟨_,rfl,kc _ He (ah.refl _) ⟨x,rfl,by rw [Qn.2 hp];rfl,aq bp.2.1 (Nat.le_self_pow (by lia) B),fun _=>⟨h0,h1⟩⟩⟩
    ·have hp:q=0:=by simpa using hp
     subst hp;cases z with
     | rem h0 h1 h2=>lia
     | bH er lo bx bm=>
      rename_i pa
      have e1:=se _ _ (sd _ _ (sc _ _ er));have m0:m≠0:=by have:=lo.pos;lia
      obtain ⟨e,ee⟩:=dp;dsimp only at ee;have ef:big.fdiv m=e:=by rw [ee,Int.mul_fdiv_cancel_left _ m0]
      have be:e.natAbs≤B ^ W:=by refine aq ?_ bb;rw [ee,bz];exact fO _ (iU.mpr m0)
      have we:Wide e:=dq be (Jd rfl W (by lia))
      have wx:Wide x:=dq bx (Je rfl);have wm:Wide m:=dq bm (Je rfl);refine ⟨_,rfl,pa,_,_,_,rfl,rfl,.of e1,rfl,_,rfl,_,rfl,pa,_,_,_,rfl,rfl,.of e1,rfl,_,_,rfl,rfl,⟨m0,wm⟩,_,_,rfl,rfl,⟨wx,by rw [ef];exact we⟩,kc _ He (ah.refl _) ⟨x*e,by rw [ef],?_,?_,fun z=>absurd rfl z⟩⟩
      ·dsimp only
       rw [ee];grind
      ·rw [bz]
       exact aq (aZ bx be) (by rw [n6,iT];exact aH _)
   ·intro D ys He nD se dY hP eD
    obtain ⟨ts,lt,ht⟩:=pick (R:=fun(j:Nat) (y:V) (t:Int)=>y=.int t∧t*(aa[i].getD j o1).2=(aa[i].getD j o1).1*big∧t.natAbs≤B ^ (W+1)∧(q≠0→0≤t∧t<q)) hP;have ey:ys=ts.map V.int:=p9 lt.symm fun j v e=>by
     have j1:j<ys.length:=(aP.mp e).1;have j2:j<ts.length:=by lia
     exact ⟨ts[j],by simp [j2],(ht j v ts[j] e (by simp [j2])).1⟩
    have lt':ts.length=W:=by rw [lt,dY,lw,lp]
    have Jg:∀j,j<W→ts.getD j 0*(aa[i].getD j o1).2=(aa[i].getD j o1).1*big∧(ts.getD j 0).natAbs≤B ^ (W+1)∧(q≠0→0≤ts.getD j 0∧ts.getD j 0<q):=fun j hj=>by
     have j1:j<ys.length:=by lia
     have j2:j<ts.length:=by lia
     rw [getD_at j2];exact (ht j ys[j] ts[j] (by simp [j1]) (by simp [j2])).2
    rw [ey] at eD;have Qo:D≠l:=fun e=>by rw [e,Jf] at nD;cases nD
    have ye:=se _ _ Jf;refine ⟨l,ls,_,rfl,rfl,ye,dq (show ls.length≤100 by lia) (by decide),?_⟩
    have IE:H l=none:=nl;refine ⟨dP (sc.trans (sd.trans se)) IE,ls++[.ref D],_,_,_,rfl,aA,by simp [ll],fun i' v fH=>?_⟩
    by_cases z:i'<ls.length
    ·rw [fD z] at fH
     obtain ⟨x,ts',b,e1,e2,e3,e4⟩:=EG i' v fH;exact ⟨x,ts',b,e1,e2,by rw [bI e2];exact se _ _ (sd _ _ e3),e4⟩
    ·have ei:i'=i:=by have:=(aP.mp fH).1;simp at this;lia
     subst ei;rw [fN (by lia),ll,mF] at fH
     cases fH;refine ⟨D,ts,big,rfl,Qo,by rw [bI Qo];exact eD,?_⟩
     rw [getD_at hi];refine ⟨lt',Qn,fun k' dS=>(Jg k' dS).1,fun k'=>?_,fun z k' dS=>(Jg k' dS).2.2 z⟩;by_cases dS:k'<W;·exact (Jg k' dS).2.1
     ·rw [oR (by lia)]
      exact eJ _)
  refine ⟨_,rfl,rfl,_,rfl,cH (fun hp=>?_) (fun hp=>?_)⟩
  ·have hp:q=0:=by simpa using hp
   subst hp;refine ⟨_,rfl,r,rfl,⟨_,.of (sc _ _ ew)⟩,?_⟩;refine rp (K:=K) (a:=r) (xs:=ws) (fun j σ Hd=>ah Hc Hd∧∃(big:Int) (v6:Option V),σ=[some (.int 0),some (.ref a),some (.int (W:Int)),some (.ref l),some (.ref r),some (.int big),v6,none,none,none,none,none,none,none]∧1≤big∧(∀p∈aa[i].take j,p.2∣big)∧big.natAbs≤B ^ j) ⟨ah.refl _,1,v6,rfl,by decide,(fun p hp=>by simp at hp),by simp⟩ (fun j σ Hd _ ⟨sd,_⟩=>.of (sd _ _ (sc _ _ ew))) ?_ ?_
   ·rintro j v σ Hd hj ⟨sd,big,Qp,rfl,b1,dv,bb⟩
    have j1:j<ws.length:=(aP.mp hj).1;have j2:j<aa[i].length:=by lia
    have z:=fw j v aa[i][j] hj (by simp [j2])
    have tk:aa[i].take (j+1)=aa[i].take j++[aa[i][j]]:=by rw [List.take_succ];simp [j2]
    rw [tk];generalize aa[i][j]=p at z;obtain ⟨x,m⟩:=p;cases z with
    | rem h0 h1 h2=>lia
    | bH er lo bx bm=>
     rename_i pa
     have mp:=lo.pos;have wb:Wide big:=dq bb (Jd rfl j (by lia))
     have wm:Wide m:=dq bm (Je rfl);dsimp only [aT];simp only [bj,bq];refine ⟨_,rfl,_,rfl,pa,_,_,_,rfl,rfl,.of (sd _ _ (sc _ _ er)),rfl,_,_,rfl,rfl,⟨wb,wm⟩,?_⟩;refine ⟨sd,big*m,_,rfl,?_,fun p hp=>?_,?_⟩
     ·have:=d6 (show 0<big by lia) (show 0<m by lia)
      lia
     ·rcases kh.mp hp with y | y
      ·exact i9 (dv p y) (Int.dvd_mul_right ..)
      ·rw [i8.mp y]
       exact pF ..
     ·rw [bz,n6]
      exact aZ bb bm
   ·rintro σ Hd ⟨sd,big,Qp,rfl,b1,dv,bb⟩
    rw [lw,Bw] at dv;refine fin big Qp Hd sd ⟨fun _=>b1,fun z=>absurd rfl z⟩ dv (aq bb ?_);rw [lw,lp];exact aH _
  ·have hp:q≠0:=by simpa using hp
   exact fin 1 v6 Hc (ah.refl _) aF.one (fun p j8=>by rw [((Qm p j8).1).2 hp];exact pG 1) (pL (by lia))
 ·rintro σ H1 ⟨s1,ls,v4,v5,v6,rfl,el,ll,EG⟩
  obtain ⟨f,hf⟩:=m7 (n:=aa.length) (α:=List Int×Int) (R:=fun i y=>∃x:Addr,ls[i]?=some (.ref x)∧x≠l∧H1 x=some (.lst (y.1.map V.int))∧zT q (B ^ (W+1)) W (aa.getD i []) y.1 y.2) fun i hi=>by
   have a_:i<ls.length:=by lia
   obtain ⟨x,ts,b,e1,h2,h3,h4⟩:=EG i ls[i] (by simp [a_])
   exact ⟨(ts,b),x,by rw [←e1];simp [a_],h2,h3,h4⟩
  obtain ⟨AA,nI⟩:∃AA:Nat→Nat→Int,∀i k,AA i k=(f i).1.getD k 0:=⟨fun i k=>(f i).1.getD k 0,fun i k=>rfl⟩;have iR:oW H1 l aa.length W AA:=by
   refine ⟨ls,el,by lia,fun i v hv=>?_⟩
   have a_:i<aa.length:=by have:=(aP.mp hv).1;lia
   obtain ⟨x,e1,e2,e3,e4⟩:=hf i a_;rw [e1] at hv;cases hv;refine ⟨x,rfl,e2,?_⟩;rw [show AA i=fun k=>(f i).1.getD k 0 from funext fun k=>nI i k,Nc _ e4.len];exact e3
  have I0:iN q aa.length W (2*B ^ (W+1)) AA AA 0 0 (fun _=>0):=iN.start (fun z i k' hi hk=>by
    obtain ⟨x,e1,e2,e3,e4⟩:=hf i hi;rw [nI i k'];exact e4.rem z k' hk) (fun z i k' hi hk=>by
    obtain ⟨x,e1,e2,e3,e4⟩:=hf i hi;rw [nI i k'];exact gW 2 (e4.bd k'))
  have nk:∀{M:aC} {c:Nat} {g:Nat→Nat},iN q aa.length W (2*B ^ (W+1)) AA M c W g→∃L,ix q aa.length W aa L∧L.length=c:=fun{M c g} h=>h.lead hq (b:=fun i=>(f i).2) rfl hm (fun ps h1 p h2=>(hA.nums hq ps h1 p h2).2.1) (fun i hi=>by
    obtain ⟨x,e1,e2,e3,e4⟩:=hf i hi;exact e4.ok) (fun i k' hi hk=>by
    obtain ⟨x,e1,e2,e3,e4⟩:=hf i hi;rw [nI i k'];exact e4.eq k' hk)
  clear hf nI EG ll;dsimp only;refine Qk ?_;simp only [bj,bq];refine ⟨_,rfl,(W:Int),rfl,by lia,by lia,?_⟩
  rw [df];refine rq (fun j σ Hc=>ah H Hc∧∃(M:aC) (c:Nat) (g:Nat→Nat) (v8 v9 v10 v11 mw mB:Option V),σ=[some (.int q),some (.ref a),some (.int (W:Int)),some (.ref l),v4,v5,v6,some (.int (c:Int)),v8,v9,v10,v11,mw,mB]∧oW Hc l aa.length W M∧iN q aa.length W (2*B ^ (W+1)) AA M c j g) ⟨s1,AA,0,fun _=>0,none,none,none,none,none,none,rfl,iR,I0⟩ ?_ ?_
  ·rintro j σ Hc hj ⟨sc,M,c,g,v8,v9,v10,v11,mw,mB,rfl,iR,I⟩
   rw [show (0:Int)+(j:Int)=(j:Int) by lia]
   obtain ⟨ls,el,ll,fl⟩:=id iR;have cn:=I.cn;dsimp only [aT];simp only [bj,bq];refine fT (gM (Nj (xs:=(List.range (aa.length-c)).map fun i:Nat=>V.int ((c:Int)+(i:Int))) (fun i=>!decide (V.int (M (c+i) j)=V.int 0)) (fun R h=>⟨_,rfl,_,rfl,l,ls,rfl,.inl (.of el),(c:Int),(ls.length:Int),rfl,⟨by lia,by lia,by lia,by lia⟩,?_⟩) (by rw [bL,eK];exact dO (by lia)) ?_ (fun i x hx Hd R h=>⟨_,rfl,h⟩) ?_))
   ·rw [show ((ls.length:Int)-(c:Int)).toNat=aa.length-c by lia]
    exact h _ _ (ah.refl _) oM
   ·intro i x hx Hd R sd h
    have hi:i<aa.length-c:=by have:=(aP.mp hx).1;simpa using this
    have ex:x=.int ((c:Int)+(i:Int)):=by rw [cF] at hx;simp [hi] at hx;exact hx.symm
    subst ex;have hc:c+i<ls.length:=by lia
    obtain ⟨y,ey,_,AS⟩:=fl (c+i) ls[c+i] (by simp [hc])
    refine ⟨_,rfl,_,rfl,l,ls,_,.ref y,rfl,rfl,.of (sd _ _ el),?_,_,rfl,y,_,_,_,rfl,rfl,.of (sd _ _ AS),qi hj (M (c+i)),rfl,_,rfl,h⟩;rw [show (c:Int)+(i:Int)=((c+i:Nat):Int) by lia]
    exact cK (by rw [←ey];simp [hc])
   ·intro D ys Hd nD sd h1 h2 eD
    dsimp only [aT];simp only [bj,bq];have nts:∀v∈ys,∃i,v=.int i:=fun v hv=>by
     obtain ⟨i,_,e⟩:=h1 v hv;rw [cF] at e;cases e':(List.range (aa.length-c))[i]? with
     | none=>rw [e'] at e;cases e
     | some w=>rw [e'] at e;cases e;exact ⟨_,rfl⟩
    refine ⟨_,rfl,by show 0≤sizeLine;decide,fun b nb=>?_⟩
    have s2:ah Hd (upd Hd b (.lst [])):=aS nb;have eb:upd Hd b (.lst []) b=some (.lst []):=aA;generalize upd Hd b (.lst [])=He at s2 eb;have yf:=sc.trans (sd.trans s2);have Jh:=(iR.mono sd).mono s2;have EH:=s2 _ _ eD;refine ⟨D,b,ys,rfl,rfl,.of EH,eb,nts,_,rfl,?_⟩;cases ys with
    | nil=>
     refine cP ?_;refine ⟨yf,M,c,g,_,_,_,_,_,_,rfl,Jh,I.skip fun i h3 h4=>?_⟩;refine gE fun h5=>h2 (i-c) (by rw [bL,eK];lia) ?_ rfl
     rw [show c+(i-c)=i by lia]
     simpa using h5
    | cons v x6=>
     refine fg ?_;obtain ⟨i0,EI,pA⟩:=h1 v gB;have vo:i0<aa.length-c:=by have:=(aP.mp pA).1;simpa using this
     have ev:v=.int ((c+i0:Nat):Int):=by rw [cF] at pA;simp [vo] at pA;rw [←pA];simp
     subst ev;have ns:M (c+i0) j≠0:=by simpa using EI
     have Qq:c≤c+i0:=by lia
     have sn:c+i0<aa.length:=by lia
     generalize c+i0=s' at ns Qq sn EH;clear pA EI vo;have ye:=s2 _ _ (sd _ _ el);have Jh:=(iR.mono sd).mono s2;have dR:s'<ls.length:=by lia
     have eQ:c<ls.length:=by lia
     obtain ⟨x,ex,xl,Ji⟩:=fl s' ls[s'] (by simp [dR])
     obtain ⟨y,ey,yl,AS⟩:=fl c ls[c] (by simp [eQ])
     have Ji:=s2 _ _ (sd _ _ Ji);have AS:=s2 _ _ (sd _ _ AS);have Dl:D≠l:=fun e=>by rw [e,el] at nD;cases nD
     have ats:da ls (s':Int)=some (.ref x):=cK (by rw [←ex];simp [dR])
     have CD:da ls (c:Int)=some (.ref y):=cK (by rw [←ey];simp [eQ])
     have i7:da (V.int (s':Int)::x6) 0=some (V.int (s':Int)):=by exact cK (j:=0) rfl
     refine ⟨_,rfl,_,rfl,D,_,_,_,rfl,rfl,.of EH,i7,l,ls,_,.ref x,rfl,rfl,.of ye,ats,?_⟩;dsimp only [aT];simp only [bj,bq];refine ⟨_,rfl,_,rfl,l,ls,_,.ref y,rfl,rfl,.of ye,CD,_,rfl,_,rfl,D,_,_,_,rfl,rfl,.of EH,i7,l,ls,_,s',rfl,rfl,ye,(by unfold gI;rw [ak (by lia),ak (by lia),df]),?_⟩
     have Qr:=Jh.put ye yl AS sn;have Jj:upd He l (.lst (ls.set s' (.ref y))) l=some (.lst (ls.set s' (.ref y))):=aA;have Jk:upd He l (.lst (ls.set s' (.ref y))) x=some (.lst (((List.range W).map (M s')).map V.int)):=by rw [bI xl];exact Ji
     have s3:ah H (upd He l (.lst (ls.set s' (.ref y)))):=dP yf nl;dsimp only;generalize upd He l (.lst (ls.set s' (.ref y)))=H3 at Qr Jj Jk s3 ⊢;refine ⟨_,rfl,_,rfl,_,rfl,l,ls.set s' (.ref y),_,c,rfl,rfl,Jj,(by unfold gI;rw [gS,ak (by lia),ak (by lia),df]),?_⟩
     have uD:=Qr.put Jj xl Jk (show c<aa.length by lia)
     rw [swap_eq] at uD;have EJ:upd H3 l (.lst ((ls.set s' (.ref y)).set c (.ref x))) x=some (.lst (((List.range W).map (M s')).map V.int)):=by rw [bI xl];exact Jk
     have s4:ah H (upd H3 l (.lst ((ls.set s' (.ref y)).set c (.ref x)))):=dP s3 nl;have x8:upd H3 l (.lst ((ls.set s' (.ref y)).set c (.ref x))) l=some (.lst ((ls.set s' (.ref y)).set c (.ref x))):=aA;dsimp only;generalize upd H3 l (.lst ((ls.set s' (.ref y)).set c (.ref x)))=H4 at uD EJ s4 x8 ⊢;obtain ⟨I',Jl⟩:=I.next hq (by have:=pL (n:=W+1) (show 0<B by lia);lia) hj Qq sn ns
     have e1:bT M c s' c=M s':=by
      unfold bT;by_cases z:c=s';·rw [ak z,z]
      ·rw [ao z,ak rfl]
     rw [←e1] at EJ;generalize bT M c s'=M1 at uD EJ I' Jl;refine ⟨_,rfl,_,_,rfl,rfl,_,rfl,l,_,rfl,.inl (.of x8),_,_,rfl,⟨by lia,by lia,by lia,by have:=gS (as:=ls.set s' (.ref y)) (i:=c) (a:=.ref x);have:=gS (as:=ls) (i:=s') (a:=.ref y);lia⟩,?_⟩
     rw [show (((((ls.set s' (.ref y)).set c (.ref x)).length:Nat):Int)-((c:Int)+1)).toNat=aa.length-(c+1) by simp;lia]
     have r0:iw q M1 c j 0=M1:=by
      funext i
      unfold iw;rw [ao (by lia)]
     refine rq (fun m σ Hc=>ah H Hc∧∃(v11 mw mB:Option V),σ=[some (.int q),some (.ref a),some (.int (W:Int)),some (.ref l),v4,v5,v6,some (.int (c:Int)),some (.int (j:Int)),some (.ref D),some (.ref x),v11,mw,mB]∧oW Hc l aa.length W (iw q M1 c j m)∧Hc x=some (.lst (((List.range W).map (M1 c)).map V.int))) ⟨s4,_,_,_,rfl,by rw [r0];exact uD,EJ⟩ ?_ ?_
     ·rintro m σ H5 gv ⟨s5,v11,mw,mB,rfl,EK,AU⟩
      obtain ⟨i',hI⟩:∃i',i'=c+1+m:=⟨_,rfl⟩;have ei:(c:Int)+1+(m:Int)=(i':Int):=by lia
      rw [ei];have hi:i'<aa.length:=by lia
      have er:iw q M1 c j m (i')=M1 (i'):=by unfold iw;rw [ao (by lia)]
      have IZ:iw q M1 c j (m+1)=fun j'=>if j'=i' then (fun k=>if q=0 then M1 (i') k*M1 c j-M1 c k*M1 (i') j else (M1 (i') k*M1 c j-M1 c k*M1 (i') j) % q) else iw q M1 c j m j':=by
       funext j'
       by_cases z:j'=i'
       ·rw [ak z,z]
        unfold iw;rw [ak ⟨by lia,by lia⟩]
       ·rw [ao z]
        unfold iw;by_cases w:c<j'∧j'<c+1+m;·rw [ak w,ak ⟨w.1,by lia⟩]
        ·rw [ao w,ao (fun u=>w ⟨u.1,by lia⟩)]
      obtain ⟨yg,qx,ll5,fl5⟩:=id EK;have h5:i'<yg.length:=by lia
      obtain ⟨y5,ey5,yl5,EL⟩:=fl5 (i') yg[i'] (by simp [h5])
      rw [er] at EL;have wd:∀i k,i<aa.length→k<W→Wide (M1 i k):=fun i k hi hk=>by
       by_cases z:q=0
       ·have h1:=(Jl i k hi hk).2 z
        have h2:=hB z;have h3:(2*B ^ (W+1)) ^ (2 ^ c)≤(2*B ^ (W+1)) ^ (2 ^ (aa.length-2)):=eO (by have:=pL (n:=W+1) (show 0<B by lia);lia) (eO (by decide) (by lia))
        unfold Wide;lia
       ·exact aaS ((Jl i k hi hk).1 z) hq
      have oZ:c<aa.length:=by lia
      dsimp only [aT];simp only [bj,bq];have Qs:da yg (i':Int)=some (.ref y5):=cK (by rw [←ey5];simp [h5])
      refine ⟨_,rfl,_,rfl,l,yg,_,.ref y5,rfl,rfl,.of qx,Qs,_,rfl,y5,_,_,_,rfl,rfl,.of EL,qi hj (M1 i'),?_⟩;dsimp only [aT];simp only [bj,bq];refine fT (gM (GP (xs:=(List.range W).map (M1 i')) (ys:=(List.range W).map (M1 c)) (fun u v=>u*M1 c j-v*M1 i' j) (by simp;lia) (fun R h=>⟨_,rfl,_,rfl,l,yg,_,.ref y5,rfl,rfl,.of qx,Qs,_,rfl,y5,x,rfl,⟨_,.of EL⟩,⟨_,.of AU⟩,h _ _ (ah.refl _) (p6 (.of EL) (.of AU))⟩) ?_ ?_))
      ·intro u v huv Hf R sf kf
       have mz:=yF huv;obtain ⟨k1,Iv,rfl⟩:=eZ.mp mz.1;obtain ⟨k2,Iw,rfl⟩:=eZ.mp mz.2;exact ⟨_,rfl,_,rfl,_,rfl,x,_,_,_,rfl,rfl,.of (sf _ _ AU),qi hj (M1 c),_,_,rfl,rfl,⟨wd _ _ hi (fe.mp Iv),wd _ _ oZ hj⟩,_,rfl,_,rfl,_,_,rfl,rfl,⟨wd _ _ oZ (fe.mp Iw),wd _ _ hi hj⟩,_,_,rfl,rfl,kf Hf (ah.refl _)⟩
      ·intro D6 H6 nD6 s6 AM
       have ez:=GO W (M1 i') (M1 c) (fun u v=>u*M1 c j-v*M1 i' j);rw [ez] at AM;dsimp only [aT];simp only [bj,bq];refine gM (We (ts:=(List.range W).map fun k=>M1 i' k*M1 c j-M1 c k*M1 i' j) (fun t=>if q=0 then t else t % q) (by simp;lia) (fun R h=>⟨_,rfl,D6,rfl,⟨_,.of AM⟩,h _ _ (ah.refl _) (iI (.of AM))⟩) ?_ ?_)
       ·intro t _ Hf R sf kf
        refine ⟨_,rfl,_,rfl,cH (fun hp=>?_) (fun hp=>?_)⟩
        ·have hp:q≠0:=by simpa using hp
         rw [ao hp] at kf;have q0:0<q:=by rcases hq with h | h <;> lia
         exact ⟨_,rfl,_,rfl,_,_,rfl,rfl,q0,kf Hf (ah.refl _)⟩
        ·have hp:q=0:=by simpa using hp
         rw [ak hp] at kf;exact ⟨_,rfl,kf Hf (ah.refl _)⟩
       ·intro D7 H7 IK s7 Ex
        have mq:=s6.trans s7;have Qt:=mq _ _ qx;have em:((List.range W).map fun k=>M1 i' k*M1 c j-M1 c k*M1 i' j).map (fun t=>if q=0 then t else t % q)=(List.range W).map fun k=>if q=0 then M1 i' k*M1 c j-M1 c k*M1 i' j else (M1 i' k*M1 c j-M1 c k*M1 i' j) % q:=by rw [List.map_map];rfl
        rw [em] at Ex;have D7l:D7≠l:=fun e=>by rw [e,s6 _ _ qx] at IK;cases IK
        refine ⟨_,rfl,_,rfl,l,yg,_,i',rfl,rfl,Qt,(by unfold gI;rw [ak (by lia),ak (by lia),df]),?_⟩
        have iR8:=(EK.mono mq).put Qt D7l Ex hi;refine ⟨dP (s5.trans mq) nl,_,_,_,rfl,?_,?_⟩
        ·rw [IZ]
         exact iR8
        ·have xl':x≠l:=xl
         rw [bI xl'];exact mq _ _ AU
     ·rintro σ H5 ⟨s5,v11,mw,mB,rfl,EK,AU⟩
      refine ⟨_,rfl,_,_,rfl,rfl,?_⟩;exact ⟨s5,_,c+1,_,_,_,_,_,_,_,rfl,EK,I'⟩
  ·rintro σ Hc ⟨sc,M,c,g,v8,v9,v10,v11,mw,mB,rfl,iR,I⟩
   obtain ⟨L,hL,eL⟩:=nk I;have kk:=k L Hc sc hL;rw [eL] at kk;exact ⟨_,rfl,kk⟩
theorem EM{t:TS}(b:Bool)(hc:∀Q:Bool→Hp→Prop,Q b H→c σ H Q)(ht:b=true→t D σ H)(hu:b=false→u D σ H):u7 c t u D σ H:=hc _ (by
 cases b with
 | true=>rw [ak rfl];exact ht rfl
 | false=>rw [ao dB];exact hu rfl)
variable {Q:Bool→Hp→Prop}
theorem eq_test{w:Int}(e:σ[i]?=some (some (.int w)))(h:Q (decide (w=a)) H):u_ (lF BU (pM i) (tC (.int a))) σ H Q:=⟨.int w,e,rfl,_,rfl,by rw [jO];exact h⟩
theorem Qu{w b:Int}(e:σ[i]?=some (some (.int w)))(h:Q (decide (w=a) || decide (w=b)) H):KY (u_ (lF BU (pM i) (tC (.int a)))) (u_ (lF BU (pM i) (tC (.int b)))) σ H Q:=by
 refine eq_test e ?_;cases z:decide (w=a) with
 | true=>rw [z,Bool.true_or] at h;rw [ak rfl];exact h
 | false=>rw [z,Bool.false_or] at h;rw [ao dB];exact eq_test e h
def AV(n kk:Nat)(way:Int)(f:Nat→List (Int×Int)):Prop:=(∀i,i<n→cM (10 ^ 6) (10 ^ 6) (f i))∨(way≠3∧way≠4∧∀i,i<n→cM (if i=kk then 10 ^ 18 else 10 ^ 6) (if i=kk then 2*10 ^ 12 else 10 ^ 6) (f i))
def Jm(n kk:Nat)(way:Int)(f:Nat→List (Int×Int)):Prop:=(∀i,i<n→cM (10 ^ 6) (10 ^ 6) (f i))∨(way≠3∧way≠4∧∀i,i<n→cM (if i=kk then 10 ^ 24 else 10 ^ 12) (if i=kk then 4*10 ^ 18 else 2*10 ^ 12) (f i))
def Qv(n kk:Nat)(way:Int)(f:Nat→List (Int×Int)):Prop:=Jm n kk way f∨(way≠4∧∀i,i<n→cM (10 ^ 12) (10 ^ 12) (f i))
variable {n kk:Nat} {way:Int} {f:Nat→List (Int×Int)}
theorem AV.up(h:AV n kk way f):∀i,i<n→cM (if i=kk then 10 ^ 18 else 10 ^ 6) (if i=kk then 2*10 ^ 12 else 10 ^ 6) (f i):=fun i hi=>by
 rcases h with h | ⟨_,_,h⟩
 ·refine (h i hi).weak ?_ ?_
  ·split <;> decide
  ·split <;> decide
 ·exact h i hi
theorem AV.two(h:AV n kk way f):Jm n kk way f:=by
 rcases h with h | ⟨h1,h2,h⟩;·exact .inl h
 ·refine .inr ⟨h1,h2,fun i hi=>(h i hi).weak ?_ ?_⟩
  ·split <;> decide
  ·split <;> decide
structure EN (H Hc:Hp) (q:Int) (tb yb:Addr) (n m:Nat) (A:Nat→Addr) (f:Nat→List (Int×Int)) (byp:aD):Prop where
 same:ah H Hc
 dt:i4 H Hc q tb n m A f
 hy:aI (10 ^ 150) Hc q yb byp
 ty:tb≠yb
 ay:∀i,i<n→A i≠yb
def aa4(K:aJ):Sp:=fun vs H Q _=>∃(sa:Addr) (ns:List Int) (q:Int) (n m hd i7:Nat),vs=[.ref sa,.int q,.int (n:Int),.int (m:Int),.int (hd:Int),.int (i7:Int)]∧bP K H sa (ns.map V.int)∧aB q∧1≤n∧oT q n∧1≤m∧oT q m∧(q=0→n≤2)∧(q=0→m≤2)∧hd≤1000∧i7≤1000 ∧
 ∀(r:Addr) (H':Hp) (aa:aG) (Dl W:Nat→Nat),ah H H'→zU (10 ^ 60) H H' q r aa→aa.length=n→(∀ps∈aa,ps.length=m)→(∀i,1≤Dl i∧Dl i≤10 ^ 24)→(∀i,10 ^ 6≤W i∧W i≤4*10 ^ 18)→(q=0→a9 n (fun i=>Dl i*W i)≤10 ^ 67)→(q=0→∀i,i<n→cM (Dl i) (W i) (aa.getD i []))→Q (.ref r) H'
theorem Qw{k:Nat}(n1:1≤n)(n3:n≤2):a9 n (fun i=>(if i=k then 10 ^ 24 else 10 ^ 12)*(if i=k then 4*10 ^ 18 else 2*10 ^ 12))≤10 ^ 67:=by
 have e:(fun i=>(if i=k then 10 ^ 24 else 10 ^ 12)*(if i=k then 4*10 ^ 18 else 2*10 ^ 12))=fun i:Nat=>if i=k then 4*10 ^ 42 else 2*10 ^ 24:=by
  funext i
  split <;> rfl
 rw [e];obtain ⟨n',rfl⟩:∃n',n=n'+1:=⟨n-1,by lia⟩
 refine aq (Nn (by decide) k n') (aq (gW _ (eO (by decide) (show n'≤1 by lia))) (by decide +kernel))
theorem aa5(n3:n≤2):a9 n (fun _=>10 ^ 12*10 ^ 12)≤10 ^ 67:=by rw [l5];exact aq (eO (by decide) n3) (by decide +kernel)
theorem aa6:bF ["script","p","n","m","head","at","table","way","rest","by","two","i","row"] ["script","p","n","m","head","at"] (aU D8):=bY
theorem Qx(T:Txt K mg t):a7 P w K mg base cz 3 t.t4 t.w9 ["script","p","n","m","head","at"] (aa4 K):=by
 have S:=aa6;refine T.uy.cN S (fun _ _ _ _ H vs Q _ hr h=>?_);obtain ⟨sa,ns,q,n,m,hd,i7,rfl,hS,hq,n1,hn,m1,hm,n2,m2,hd0,ha0,k⟩:=h
 refine ⟨_,(au (eC 6 S.nd (Mv (N:=["i","m","p","script","at"]) (ρ:=(fun σ=>[σ[3]?.join,σ[1]?.join,σ[0]?.join,σ[5]?.join])) ⟨rfl,rfl,(fun _=>rfl),(fun _=>rfl),by decide +kernel,(pE.mpr ⟨rfl,(pE.mpr ⟨rfl,(pE.mpr ⟨rfl,(pE.mpr ⟨rfl,(Bq _)⟩)⟩)⟩)⟩),Mu (by rfl),rfl,by decide +kernel,rfl,(fun σ j v h=>match j,h with | 0,h=>⟨3,_,rfl,rfl,join_some h,Or.inr (Or.inl rfl),.inl rfl,.inl rfl⟩ | 1,h=>⟨1,_,rfl,rfl,join_some h,Or.inr (Or.inl rfl),.inl rfl,.inl rfl⟩ | 2,h=>⟨0,_,rfl,rfl,join_some h,Or.inr (Or.inl rfl),.inl rfl,.inl rfl⟩ | 3,h=>⟨5,_,rfl,rfl,join_some h,Or.inr (Or.inl rfl),.inl rfl,.inl rfl⟩ | j+4,h=>by cases h),(fun _ _=>rfl)⟩ rfl (jF rfl T.gP (ae (pv 2) ai)) (fun _ _ _=>.nil) (fun _ _ _=>(gd (N:=["j","p","script","at","i","m"]) (ρ:=(fun σ=>[σ[2]?.join,σ[3]?.join,σ[4]?.join,σ[0]?.join,σ[1]?.join])) (eS [2,3,4,0,1] rfl) rfl (jF rfl T.gP (ae (pv 1) ai)) (fun _ _ _=>.nil) (fun _ _ _=>(aM (ED T) hr T.Ai T.o9.kp T.Ah aX (ae (pv 1) (ae (aM (yc T) hr T.ur T.me.kp T.uq aX (ae (pv 2) (ae (aw gG (aw gG (pv 3) (aw fG (pv 4) (pv 5))) (pv 0)) ai))) ai))))))))
  (au (putL 7 S.nd (aw cV (aM (yc T) hr T.ur T.me.kp T.uq aX (ae (pv 0) (ae (pv 4) ai))) aj))
  (au (eC 8 S.nd (aw gw (aM (yc T) hr T.ur T.me.kp T.uq aX (ae (pv 0) (ae (pv 4) ai))) aj))
  (au (eC 9 S.nd (dM (ae (aM (ED T) hr T.Ai T.o9.kp T.Ah aX (ae (pv 1) (ae (aw gw (pv 8) aj) ai))) (ae (aM (ED T) hr T.Ai T.o9.kp T.Ah aX (ae (pv 1) (ae (aw gw (pv 8) aj) ai))) ai))))
  (au (bQ (PW.pt (pw_or (bJ il (pv 7) aj) (pw_or1 (bJ il (pv 7) aj)))) (au (putL 10 S.nd (dM (ae (aE dc (pv 6) (aw cV (aw gw (pv 8) aj) (pv 2))) (ae (aE dc (pv 6) (aw cV (aw gw (pv 8) aj) (pv 2))) ai))))
  (az (@kD _ _ _ _ _ _ (vv (N:=["a","b","p","by"]) (ρ:=(fun σ=>[σ[1]?.join,σ[9]?.join])) (si [1,9] rfl) rfl (mY rfl T.mh (ae (aE dc (pv 10) aj) (ae (aE dc (pv 10) aj) ai))) (fun _ _ _=>.nil) (fun _ _ _=>(aM (Jc T) hr T.uv T.mf.kp T.uu aX (ae (pv 2) (ae (pv 3) (ae (dM (ae (pv 0) (ae (pv 1) ai))) ai)))))) (kC (pv 6) (aw cV (pv 8) (pv 2)) set_list) (by rfl) (by rfl) (by rfl)))) bW)
  (au (bQ (PW.pt (pw_or (bJ il (pv 7) aj) (pw_or1 (bJ il (pv 7) aj)))) (az (ik fP rfl (jF rfl T.gP (ae (pv 2) ai)) (d_ (i:=11) S.nd rfl (Or.inl rfl))
   (au (putL 12 S.nd (aE dc (pv 6) (pv 11)))
  (az (@kD _ _ _ _ _ _ (aM (Jc T) hr T.uv T.mf.kp T.uu aX (ae (pv 1) (ae (pv 9) (ae (dM (ae (aE dc (pv 12) (aw cV (aw gw (pv 8) aj) (pv 3))) (ae (aE dc (pv 12) (aw cV (aw gw (pv 8) aj) (pv 3))) ai))) ai)))) (kC (pv 12) (aw cV (aw gw (pv 8) aj) (pv 3)) set_list) (by rfl) (by rfl) (by rfl)))))) bW)
  (au (bQ (bJ il (pv 7) aj) (az (eC 6 S.nd (Mv (N:=["row","table","p"]) (ρ:=(fun σ=>[σ[6]?.join,σ[1]?.join])) ⟨rfl,rfl,(fun _=>rfl),(fun _=>rfl),by decide +kernel,(pE.mpr ⟨rfl,(pE.mpr ⟨rfl,(Bq _)⟩)⟩),Mu (by rfl),rfl,by decide +kernel,rfl,(fun σ j v h=>match j,h with | 0,h=>⟨6,_,rfl,rfl,join_some h,Or.inr (Or.inl rfl),.inl rfl,.inl rfl⟩ | 1,h=>⟨1,_,rfl,rfl,join_some h,Or.inr (Or.inl rfl),.inl rfl,.inl rfl⟩ | j+2,h=>by cases h),(fun _ _=>rfl)⟩ rfl (e7 (pv 6)) (fun _ _ _=>.nil) (fun _ _ _=>(gd (N:=["number","p","row"]) (ρ:=(fun σ=>[σ[2]?.join,σ[0]?.join])) (eS [2,0] rfl) rfl (VS (K:=K) (aE (p8 (K:=K)) (pv 1) aj)) (fun _ _ _=>.nil) (fun _ _ _=>(aM (Jc T) hr T.uv T.mf.kp T.uu aX (ae (pv 1) (ae (dM (ae (aE (p8 (K:=K)) (pv 2) aj) ai)) (ae (dM (ae (pv 0) ai)) ai)))))))))) bW)
  (au (bQ (bJ il (pv 7) aj) (az (eC 6 S.nd (gd (N:=["i","table","rest","n"]) (ρ:=(fun σ=>[σ[6]?.join,σ[8]?.join,σ[2]?.join])) (eS [6,8,2] rfl) rfl (jF rfl T.gP (ae (pv 2) ai)) (fun _ _ _=>.nil) (fun _ _ _=>(pU (Gy (K:=K)) rfl T.o_ boot_list (ae (aE (p8 (K:=K)) (pv 1) (cD (SF rfl) rfl T.Pr boot_min (ae (pv 0) (ae (aw cV (pv 2) (pv 3)) ai)))) ai)))))) bW)
  (az (aR (pv 6))))))))))),?_⟩
 have dF:=hn.zS;have o4:=hm.zS;have im:∀i:Nat,i<n→(i:Int)*(m:Int)≤1600∧0≤(i:Int)*(m:Int):=fun i hi=>by
  have:=aZ (show i≤40 by lia) o4
  have e:(i:Int)*(m:Int)=((i*m:Nat):Int):=by simp
  lia
 refine fT (gM (G0 (n:=n) (xs:=(List.range n).map fun i:Nat=>V.int (0+(i:Int))) (by simp) (fun R h=>⟨_,rfl,(n:Int),rfl,by lia,by lia,h _ _ (ah.refl _) (by rw [df];exact oM)⟩) (dO (by lia)) (fun D i y Hx=>∃ps:List (Int×Int),H y=none∧aI (10 ^ 6) Hx q y ps∧ps.length=m∧∀p∈ps,p.2.natAbs≤1000) (fun D i y Ha Hb ys ⟨ps,h0,h1,h2,h3⟩ nD e f=>⟨ps,h0,ng h1 nD e f,h2,h3⟩) ?_ ?_))
 ·intro D i v hi Hc R sc ⟨zs,eD⟩ kc
  obtain ⟨a_,rfl⟩:=oP hi;obtain ⟨im1,im2⟩:=im i a_;refine iu (xs:=(List.range m).map fun i:Nat=>V.int (0+(i:Int))) (fun R h=>⟨_,rfl,(m:Int),rfl,by lia,by lia,h _ _ (ah.refl _) (by rw [df];exact oM)⟩) (by rw [bL,eK];exact dO (by lia)) (fun D j y Hx=>∃p:Int×Int,bZ (10 ^ 6) Hx q y p.1 p.2∧p.2.natAbs≤1000) (fun D i y Ha Hb ys ⟨p,h0,h1⟩ e f=>⟨p,h0.bC e f,h1⟩) ?_ ?_
  ·intro D' j v hj Hd R' sd _ kd
   obtain ⟨di,rfl⟩:=oP hj;refine ⟨_,rfl,_,rfl,_,rfl,_,rfl,_,rfl,_,_,rfl,rfl,.inl ⟨by lia,by lia⟩,_,_,rfl,rfl,_,rfl,_,_,rfl,rfl,sa,ns,_,rfl,(sc.trans sd).seq hS,by lia,by lia,fun H3 s3=>⟨q,_,rfl,hq,Cj ..,fun v x mm H4 s4 hN hb=>kd v H4 (s3.trans s4) ⟨(x,mm),hN,hb⟩⟩⟩
  ·intro D' ys Hd AW sd dY hP uF
   obtain ⟨ps,lp,hp⟩:=pick (R:=fun _ y p=>bZ (10 ^ 6) Hd q y (Prod.fst p) (Prod.snd p)∧(Prod.snd p).natAbs≤1000) hP;rw [bL,eK] at dY;refine kc D' Hd sd AW ⟨_,uF⟩ ⟨ps,none_of sc AW,⟨ys,uF,lp.symm,fun j v p h1 h2=>(hp j v p h1 h2).1⟩,by lia,fun p j8=>?_⟩
   obtain ⟨j,hj,e⟩:=gh.mp j8;have j1:j<ys.length:=by lia
   exact (hp j ys[j] p (by simp [j1]) (by simp [hj,e])).2
 intro tb A1 H1 Qy s1 inj hA yh;have yi:=fun i hi=>(hA i hi).1;obtain ⟨f,hf⟩:=m7 (n:=n) (α:=List (Int×Int)) (R:=fun i ps=>H (A1 i)=none∧aI (10 ^ 6) H1 q (A1 i) ps∧ps.length=m∧∀p∈ps,p.2.natAbs≤1000) yi;have dt:i4 H H1 q tb n m A1 f:=⟨yh,Qy,inj,fun i hi=>by obtain ⟨h1,h2,h3,_⟩:=hf i hi;exact ⟨(hA i hi).2,h1,h2.weak (by decide),h3⟩⟩
 have bv:q=0→∀i,i<n→cM (10 ^ 6) (10 ^ 6) (f i):=fun z i hi=>by
  obtain ⟨h1,h2,h3,h4⟩:=hf i hi;refine (CH (f i) fun p hp=>?_).weak ?_ (aH _)
  ·obtain ⟨_,b,v,hv⟩:=h2.nums hq p hp
   exact ⟨(hv.both (by decide)).1,b.1 z,h4 p hp⟩
  ·rw [h3]
   exact aq (eO (by decide) (m2 z)) (by decide)
 clear hf yi hA inj yh;dsimp only [aT];simp only [L2.start,cS,ib,fU,gU,List.replicate,gY,gC,bj,bq];have d0:=Cj ns hd;have d1:=Mj ns hd;refine ⟨_,rfl,_,rfl,sa,ns,hd,rfl,s1.seq hS,by lia,by lia,fun H2 s2=>⟨_,_,rfl,rfl,(by show (0:Int)<8;decide),?_⟩⟩
 dsimp only [aT];simp only [bj,bq];refine ⟨_,rfl,_,rfl,sa,ns,hd,rfl,(s1.trans s2).seq hS,by lia,by lia,fun H3 s3=>⟨_,_,rfl,rfl,⟨by decide,cC.of_lt (by decide) (by decide)⟩,?_⟩⟩
 dsimp only [aT];simp only [bj,bq];generalize ah8:lP ns hd % 8=way;have r0:0≤lP ns hd / 8:=yM d0 (by decide)
 generalize lP ns hd / 8=rest at r0;have uN:∀c:Int,0<c→c<10000→Mb rest c:=fun c h1 h2=>⟨h1,cC.of_lt (by lia) (by lia)⟩
 refine ⟨_,rfl,_,rfl,_,_,rfl,rfl,uN 1000 (by decide) (by decide),q,_,rfl,hq,yM r0 (by decide),fun b0 x0 m0 H4 s4 EO lb0=>?_⟩
 refine ⟨_,rfl,_,rfl,_,_,rfl,rfl,uN 7000 (by decide) (by decide),q,_,rfl,hq,yM r0 (by decide),fun b1 x1 qA H5 s5 iP lb1=>?_⟩
 refine ⟨by show 2≤sizeLine;decide,fun yb yj=>?_⟩
 have s6:ah H5 (upd H5 yb (.lst [b0,b1])):=aS yj;have Qz:upd H5 yb (.lst [b0,b1]) yb=some (.lst [b0,b1]):=aA;generalize upd H5 yb (.lst [b0,b1])=H6 at s6 Qz ⊢;have QA:aI (10 ^ 150) H6 q yb [(x0,m0),(x1,qA)]:=by
  refine ⟨[b0,b1],Qz,rfl,fun i v p h1 h2=>?_⟩;have w0:=((EO.mono s5).mono s6).weak (show 10 ^ 6≤10 ^ 150 by decide +kernel)
  have w1:=(iP.mono s6).weak (show 10 ^ 6≤10 ^ 150 by decide +kernel)
  match i,h1,h2 with
  | 0,h1,h2=>cases h1;cases h2;exact w0
  | 1,h1,h2=>cases h1;cases h2;exact w1
 have ER:q=0→su x0 m0 x1 qA:=fun z=>⟨(EO.both (by decide)).1,(iP.both (by decide)).1,(EO.bot hq).1 z,(iP.bot hq).1 z,lb0,lb1⟩
 have iQ:=s2.trans (s3.trans (s4.trans (s5.trans s6)));have nJ:=s2.trans (s3.trans (s4.trans s5));have Jn:tb≠yb:=fun e=>by rw [←e,nJ _ _ dt.at'] at yj;cases yj
 have aa9:∀i,i<n→A1 i≠yb:=fun i hi e=>by obtain ⟨_,_,⟨vs,e',_⟩,_⟩:=dt.rows i hi;rw [e] at e';rw [nJ _ _ e'] at yj;cases yj
 have ES:=dt.mono iQ;have Jo:=s1.trans iQ;clear EO iP yj s2 s3 s4 s5 s6 nJ iQ dt;dsimp only [aT];simp only [bj,bq];have nn:(n:Int)≠0:=by lia
 have np:(0:Int)<(n:Int):=by lia
 have modn:∀e:Int,∃u:Nat,u<n∧e % (n:Int)=(u:Int):=fun e=>by have h1:=d4 e nn;have h2:=d8 e np;exact ⟨(e % (n:Int)).toNat,by lia,by lia⟩
 have mn:(m:Int)≠0:=by lia
 have mp:(0:Int)<(m:Int):=by lia
 have Jp:∀e:Int,∃u:Nat,u<m∧e % (m:Int)=(u:Int):=fun e=>by have h1:=d4 e mn;have h2:=d8 e mp;exact ⟨(e % (m:Int)).toNat,by lia,by lia⟩
 obtain ⟨kk,Jq,QB⟩:=modn rest;have QC:=aa9;have I6:EN H H6 q tb yb n m A1 f [(x0,m0),(x1,qA)]:=⟨Jo,ES,QA,Jn,QC⟩;refine fT (uJ fun R1 ET=>?_);have qz:∀(A2:Nat→Addr) (f2:Nat→List (Int×Int)) (v9:Option V) (H7:Hp),EN H H7 q tb yb n m A2 f2 [(x0,m0),(x1,qA)]→(q=0→AV n kk way f2)→R1 [some (.ref sa),some (.int q),some (.int (n:Int)),some (.int (m:Int)),some (.int (hd:Int)),some (.int (i7:Int)),some (.ref tb),some (.int way),some (.int rest),some (.ref yb),v9,none,none] H7:=fun A2 f2 v9 H7 I7 b7=>ET _ _ (by
  dsimp only;refine fT (uJ fun R2 EU=>?_);have fin2:∀(f3:Nat→List (Int×Int)) (v10 v11:Option V) (H8:Hp),EN H H8 q tb yb n m A2 f3 [(x0,m0),(x1,qA)]→(q=0→Jm n kk way f3)→R2 [some (.ref sa),some (.int q),some (.int (n:Int)),some (.int (m:Int)),some (.int (hd:Int)),some (.int (i7:Int)),some (.ref tb),some (.int way),some (.int rest),some (.ref yb),v9,v10,v11] H8:=fun f3 v10 v11 H8 I8 b8=>EU _ _ (by
   dsimp only;refine fT (uJ fun R3 hR3=>?_);have QD:∀(ka:Addr) (A4:Nat→Addr) (f4:Nat→List (Int×Int)) (H9:Hp),ah H H9→i4 H H9 q ka n m A4 f4→(q=0→Qv n kk way f4)→R3 [some (.ref sa),some (.int q),some (.int (n:Int)),some (.int (m:Int)),some (.int (hd:Int)),some (.int (i7:Int)),some (.ref ka),some (.int way),some (.int rest),some (.ref yb),v9,v10,v11] H9:=fun ka A4 f4 H9 s9 k7 b9=>hR3 _ _ (by
    dsimp only;refine fT (uJ fun R4 hR4=>?_);have QE:∀(ka:Addr) (A4:Nat→Addr) (f4:Nat→List (Int×Int)) (H9:Hp),ah H H9→i4 H H9 q ka n m A4 f4→(q=0→Qv n kk way f4)→R4 [some (.ref sa),some (.int q),some (.int (n:Int)),some (.int (m:Int)),some (.int (hd:Int)),some (.int (i7:Int)),some (.ref ka),some (.int way),some (.int rest),some (.ref yb),v9,v10,v11] H9:=fun ka A4 f4 H9 s9 k7 b9=>hR4 _ _ (by
     have row:∀i,i<n→((List.range n).map f4).getD i []=f4 i:=fun i hi=>by
      rw [getD_at (by simpa using hi)]
      simp
     have eF:∀ps∈(List.range n).map f4,ps.length=m:=fun ps hp=>by obtain ⟨i,hi,e⟩:=eZ.mp hp;rw [←e];exact (k7.rows i (fe.mp hi)).2.2.2
     have iM:∀i,i<n→∀p∈f4 i,Canon q p:=fun i hi p hp=>((k7.rows i hi).2.2.1.nums hq p hp).1;dsimp only;refine ⟨_,rfl,?_⟩;by_cases z:q=0
     ·subst z
      rcases b9 rfl with (b | ⟨_,_,b⟩) | ⟨_,b⟩
      ·refine k ka H9 _ (fun i=>if i=kk then 10 ^ 24 else 10 ^ 12) (fun i=>if i=kk then 4*10 ^ 18 else 2*10 ^ 12) s9 k7.CK (by simp) eF (fun i=>?_) (fun i=>?_) (fun _=>Qw n1 (n2 rfl)) (fun _ i hi=>?_)
       ·split <;> decide
       ·split <;> decide
       ·rw [row i hi]
        refine (b i hi).weak ?_ ?_;·split <;> decide
        ·split <;> decide
      ·refine k ka H9 _ (fun i=>if i=kk then 10 ^ 24 else 10 ^ 12) (fun i=>if i=kk then 4*10 ^ 18 else 2*10 ^ 12) s9 k7.CK (by simp) eF (fun i=>?_) (fun i=>?_) (fun _=>Qw n1 (n2 rfl)) (fun _ i hi=>?_)
       ·split <;> decide
       ·split <;> decide
       ·rw [row i hi]
        exact b i hi
      ·refine k ka H9 _ (fun _=>10 ^ 12) (fun _=>10 ^ 12) s9 k7.CK (by simp) eF (fun i=>by decide) (fun i=>by decide) (fun _=>aa5 (n2 rfl)) (fun _ i hi=>?_)
       rw [row i hi];exact b i hi
     ·refine k ka H9 _ (fun _=>1) (fun _=>10 ^ 6) s9 k7.CK (by simp) eF (fun i=>by decide) (fun i=>by decide) (fun y=>absurd y z) (fun y=>absurd y z))
    refine EM (decide (way=4)) (fun Q h=>eq_test rfl h) (fun hw=>?_) (fun hw=>QE ka A4 f4 H9 s9 k7 b9);have hw:way=4:=by simpa using hw
    have abb:q=0→∀i,i<n→cM (10 ^ 6) (10 ^ 6) (f4 i):=fun z=>by
     rcases b9 z with (b | ⟨_,y,_⟩) | ⟨y,_⟩;·exact b
     ·exact absurd hw y
     ·exact absurd hw y
    have yk:∀j:Nat,j<n→da ((List.range n).map fun i=>V.ref (A4 i)) (j:Int)=some (.ref (A4 j)):=fun j hj=>cK (by simp [hj])
    refine gM (G0 (n:=n) (xs:=(List.range n).map fun i:Nat=>V.int (0+(i:Int))) (by simp) (fun R h=>⟨_,rfl,(n:Int),rfl,by lia,by lia,h _ _ (ah.refl _) (by rw [df];exact oM)⟩) (dO (by lia)) (fun D i y Hx=>∃ps:List (Int×Int),H y=none∧aI (10 ^ 60) Hx q y ps∧ps.length=m∧(q=0→cM (10 ^ 6) (10 ^ 6) ps)) (fun D i y Ha Hb ys ⟨ps,h0,h1,h2,h3⟩ nD e f=>⟨ps,h0,ng h1 nD e f,h2,h3⟩) ?_ ?_)
    ·intro D i v hi Hc R sc ⟨zs,eD⟩ kc
     obtain ⟨a_,rfl⟩:=oP hi;obtain ⟨w,wn,ew⟩:∃w:Nat,w<n∧(if rest % (n:Int)<(i:Int) then rest % (n:Int) else (i:Int))=(w:Int):=by
      rw [QB];by_cases y:(kk:Int)<(i:Int);·rw [ak y];exact ⟨kk,Jq,rfl⟩
      ·rw [ao y];exact ⟨i,a_,rfl⟩
     obtain ⟨h1,h2,⟨ws,nK,i6,qB⟩,h4⟩:=k7.rows w wn;refine ⟨_,rfl,_,rfl,_,rfl,_,rfl,_,_,rfl,rfl,np,_,_,rfl,ka,_,_,.ref (A4 w),rfl,rfl,.of (sc _ _ k7.at'),by rw [ew];exact yk w wn,A4 w,ws,rfl,.inl (.of (sc _ _ nK)),fun b nb=>?_⟩
     have sb:ah Hc (upd Hc b (.lst ws)):=aS nb;refine kc b _ sb nb ⟨_,aA⟩ ⟨f4 w,none_of (s9.trans sc) nb,⟨ws,aA,i6,fun j v p h1 h2=>((qB j v p h1 h2).mono sc).mono sb⟩,h4,fun z=>abb z w wn⟩
    ·intro Jr A5 qy Js mr inj hA yh
     have yi:=fun i hi=>(hA i hi).1;obtain ⟨f5,hf⟩:=m7 (n:=n) (α:=List (Int×Int)) (R:=fun i ps=>H (A5 i)=none∧aI (10 ^ 60) qy q (A5 i) ps∧ps.length=m∧(q=0→cM (10 ^ 6) (10 ^ 6) ps)) yi;refine QE Jr A5 f5 qy (s9.trans mr) ⟨yh,none_of s9 Js,inj,fun i hi=>?_⟩ fun z=>.inl (.inl fun i hi=>(hf i hi).2.2.2 z);obtain ⟨h1,h2,h3,_⟩:=hf i hi;exact ⟨(hA i hi).2,h1,h2,h3⟩)
   refine EM (decide (way=3)) (fun Q h=>eq_test rfl h) (fun hw=>?_) (fun hw=>QD tb A2 f3 H8 I8.same I8.dt fun z=>.inl (b8 z));have hw:way=3:=by simpa using hw
   have EV:q=0→∀i,i<n→cM (10 ^ 6) (10 ^ 6) (f3 i):=fun z=>by
    rcases b8 z with b | ⟨y,_,_⟩;·exact b
    ·exact absurd hw y
   have pB:=I8.dt;have n0:0<n:=by lia
   have m0':0<m:=by lia
   have Jt:da ((List.range n).map fun i=>V.ref (A2 i)) 0=some (.ref (A2 0)):=by exact cK (j:=0) (by simp [n0])
   obtain ⟨q1,q2,⟨us,qC,Ju,Jv⟩,q4⟩:=id (pB.rows 0 n0);refine gM (G0 (n:=n) (xs:=(List.range n).map fun i=>V.ref (A2 i)) (by simp) (fun R h=>⟨_,rfl,tb,rfl,⟨_,.of pB.at'⟩,h _ _ (ah.refl _) (iI (.of pB.at'))⟩) (dO (by lia)) (fun D i y Hx=>∃ps:List (Int×Int),H y=none∧aI (10 ^ 60) Hx q y ps∧ps.length=m∧(q=0→cM (10 ^ 12) (10 ^ 12) ps)) (fun D i y Ha Hb ys ⟨ps,h0,h1,h2,h3⟩ nD e f=>⟨ps,h0,ng h1 nD e f,h2,h3⟩) ?_ ?_)
   ·intro D i v hi Hc R sc ⟨zs,eD⟩ kc
    have a_:i<n:=by have:=(aP.mp hi).1;simpa using this
    have ev:v=.ref (A2 i):=by rw [cF] at hi;simp [a_] at hi;exact hi.symm
    subst ev;obtain ⟨h1,h2,⟨ws,nK,i6,qB⟩,h4⟩:=pB.rows i a_;have w0:0<ws.length:=by lia
    have p0:0<(f3 i).length:=by lia
    have aw0:da ws 0=some ws[0]:=by exact cK (j:=0) (by simp [w0])
    have z0:=qB 0 ws[0] (f3 i)[0] (by simp [w0]) (by simp [p0])
    refine iu (xs:=us) (fun R h=>⟨_,rfl,tb,_,_,_,rfl,rfl,.of (sc _ _ pB.at'),Jt,A2 0,rfl,⟨_,.of (sc _ _ qC)⟩,h _ _ (ah.refl _) (iI (.of (sc _ _ qC)))⟩) (by rw [Ju,q4];exact dO (by lia)) (fun D j y Hx=>∃p:Int×Int,bZ (10 ^ 60) Hx q y p.1 p.2∧(q=0→∀X Dd:Int,aO 0 (bu [(f3 i).getD 0 o1] [(f3 0).getD j o1] (0,1)) (X,Dd)→1≤Dd→p.1*Dd=X*p.2)) (fun D j y Ha Hb ys ⟨p,h0,h1⟩ e ff=>⟨p,h0.bC e ff,h1⟩) ?_ ?_
    ·intro D' j v hj Hd R' sd _ kd
     have j1:j<us.length:=(aP.mp hj).1;have j2:j<(f3 0).length:=by lia
     have z1:=Jv j v (f3 0)[j] hj (by simp [j2])
     have mC:=sc.trans sd;refine ⟨_,rfl,_,rfl,A2 i,ws,_,_,rfl,rfl,.of (mC _ _ nK),aw0,by show 1≤sizeLine;decide,fun l1 Jw=>?_⟩
     have QF:ah Hd (upd Hd l1 (.lst [ws[0]])):=aS Jw;have jN:upd Hd l1 (.lst [ws[0]]) l1=some (.lst [ws[0]]):=aA;generalize upd Hd l1 (.lst [ws[0]])=He at QF jN ⊢;refine ⟨_,rfl,by show 1≤sizeLine;decide,fun l2 x_=>?_⟩
     have Jx:ah He (upd He l2 (.lst [v])):=aS x_;have QG:upd He l2 (.lst [v]) l2=some (.lst [v]):=aA;generalize upd He l2 (.lst [v])=Hf at Jx QG ⊢;have Jy:=QF.trans Jx;have r1:aI (10 ^ 150) Hf q l1 [(f3 i)[0]]:=by
      refine ⟨[ws[0]],Jx _ _ jN,rfl,fun i' v' p h1 h2=>?_⟩;have w1:=((z0.mono mC).mono Jy).weak (show 10 ^ 60≤10 ^ 150 by decide +kernel)
      match i',h1,h2 with
      | 0,h1,h2=>cases h1;cases h2;exact w1
     have r2:aI (10 ^ 150) Hf q l2 [(f3 0)[j]]:=by
      refine ⟨[v],QG,rfl,fun i' v' p h1 h2=>?_⟩;have w1:=((z1.mono mC).mono Jy).weak (show 10 ^ 60≤10 ^ 150 by decide +kernel)
      match i',h1,h2 with
      | 0,h1,h2=>cases h1;cases h2;exact w1
     have QH:oT q 1:=⟨by decide,fun _=>by decide⟩
     refine ⟨q,l1,l2,_,_,rfl,hq,r1,r2,QH,QH,fun v' H' s' hN=>?_⟩;obtain ⟨p,hp,ym⟩:=G3 hq hN fun z=>by
      have:=W8 (EV z i a_) (EV z 0 n0) p0 j2 (by decide +kernel) (by decide)
      rw [getD_at p0,getD_at j2] at this;exact this
     refine kd v' H' (Jy.trans s') ⟨p,hp,?_⟩;rw [getD_at p0,getD_at j2];exact ym
    ·intro D' ys Hd AW sd dY hP uF
     obtain ⟨ps,lp,hp⟩:=pick (R:=fun j y p=>bZ (10 ^ 60) Hd q y (Prod.fst p) (Prod.snd p)∧(q=0→∀X Dd:Int,aO 0 (bu [(f3 i).getD 0 o1] [(f3 0).getD j o1] (0,1)) (X,Dd)→1≤Dd→(Prod.fst p)*Dd=X*(Prod.snd p))) hP;have AX:ps.length=m:=by lia
     refine kc D' Hd sd AW ⟨_,uF⟩ ⟨ps,none_of (I8.same.trans sc) AW,⟨ys,uF,lp.symm,fun j v p h1 h2=>(hp j v p h1 h2).1⟩,AX,fun z=>?_⟩;refine (W7 (EV z i a_) (EV z 0 n0) p0 q4 AX fun j hj X Dd w d1=>?_).weak (by decide) (by decide)
     have j1:j<ys.length:=by lia
     have j2:j<ps.length:=by lia
     rw [getD_at j2];exact (hp j ys[j] ps[j] (by simp [j1]) (by simp [j2])).2 z X Dd w d1
   ·intro Jr A5 qy Js mr inj hA yh
    have yi:=fun i hi=>(hA i hi).1;obtain ⟨f5,hf⟩:=m7 (n:=n) (α:=List (Int×Int)) (R:=fun i ps=>H (A5 i)=none∧aI (10 ^ 60) qy q (A5 i) ps∧ps.length=m∧(q=0→cM (10 ^ 12) (10 ^ 12) ps)) yi;refine QD Jr A5 f5 qy (I8.same.trans mr) ⟨yh,none_of I8.same Js,inj,fun i hi=>?_⟩ fun z=>.inr ⟨by lia,fun i hi=>(hf i hi).2.2.2 z⟩
    obtain ⟨h1,h2,h3,_⟩:=hf i hi;exact ⟨(hA i hi).2,h1,h2,h3⟩)
  refine EM (decide (way=2) || decide (way=5)) (fun Q h=>Qu rfl h) (fun hw=>?_) (fun hw=>fin2 f2 none none H7 I7 fun z=>(b7 z).two);have QI:way≠3∧way≠4:=by
   constructor;·intro e;rw [e] at hw;simp at hw
   ·intro e;rw [e] at hw;simp at hw
  obtain ⟨cc,ccm,ecc⟩:=Jp (rest / 3);obtain ⟨dd,ddm,edd⟩:=Jp (rest / 18);obtain ⟨ee,eem,eee⟩:=Jp (rest / 108);refine ⟨_,rfl,(n:Int),rfl,by lia,by lia,?_⟩
  rw [df];refine rq (fun i σ Hc=>∃(f3:Nat→List (Int×Int)) (v10 v11:Option V),σ=[some (.ref sa),some (.int q),some (.int (n:Int)),some (.int (m:Int)),some (.int (hd:Int)),some (.int (i7:Int)),some (.ref tb),some (.int way),some (.int rest),some (.ref yb),v9,v10,v11]∧EN H Hc q tb yb n m A2 f3 [(x0,m0),(x1,qA)]∧(q=0→∀i',i'<n→(i'<i→cM (if i'=kk then 10 ^ 24 else 10 ^ 12) (if i'=kk then 4*10 ^ 18 else 2*10 ^ 12) (f3 i'))∧(i≤i'→cM (if i'=kk then 10 ^ 18 else 10 ^ 6) (if i'=kk then 2*10 ^ 12 else 10 ^ 6) (f3 i')))) ⟨f2,none,none,rfl,I7,fun z i' a_=>⟨fun h=>by lia,fun _=>(b7 z).up i' a_⟩⟩ ?_ ?_
  ·rintro i σ Hc hi ⟨f3,v10,v11,rfl,I,b⟩
   rw [show (0:Int)+(i:Int)=(i:Int) by lia]
   dsimp only [aT];simp only [bj,bq];have yk:da ((List.range n).map fun i=>V.ref (A2 i)) (i:Int)=some (.ref (A2 i)):=cK (by simp [hi])
   refine ⟨_,rfl,_,rfl,tb,_,_,_,rfl,rfl,.of I.dt.at',yk,?_⟩;dsimp only [aT];simp only [bj,bq];obtain ⟨h1,h2,⟨ws,nK,i6,qB⟩,h4⟩:=id (I.dt.rows i hi);have d1:dd<ws.length:=by lia
   have e1:ee<ws.length:=by lia
   have d2:dd<(f3 i).length:=by lia
   have e2:ee<(f3 i).length:=by lia
   have z1:=qB dd ws[dd] (f3 i)[dd] (by simp [d1]) (by simp [d2])
   have z2:=qB ee ws[ee] (f3 i)[ee] (by simp [e1]) (by simp [e2])
   have atd:da ws (rest / 18 % (m:Int))=some ws[dd]:=by rw [edd];exact cK (by simp [d1])
   have ate:da ws (rest / 108 % (m:Int))=some ws[ee]:=by rw [eee];exact cK (by simp [e1])
   refine ⟨_,rfl,_,rfl,_,rfl,_,rfl,_,_,rfl,rfl,uN 18 (by decide) (by decide),_,rfl,_,_,rfl,rfl,mp,A2 i,ws,_,_,rfl,rfl,.of nK,atd,?_⟩
   refine ⟨_,rfl,_,rfl,_,_,rfl,rfl,uN 108 (by decide) (by decide),_,rfl,_,_,rfl,rfl,mp,A2 i,ws,_,_,rfl,rfl,.of nK,ate,by show 2≤sizeLine;decide,fun l nl=>?_⟩
   have sl:ah Hc (upd Hc l (.lst [ws[dd],ws[ee]])):=aS nl;have el:upd Hc l (.lst [ws[dd],ws[ee]]) l=some (.lst [ws[dd],ws[ee]]):=aA;generalize upd Hc l (.lst [ws[dd],ws[ee]])=Hd at sl el ⊢;have hl:aI (10 ^ 150) Hd q l [(f3 i)[dd],(f3 i)[ee]]:=by
    refine ⟨[ws[dd],ws[ee]],el,rfl,fun i v p h1 h2=>?_⟩;have w0:=(z1.mono sl).weak (show 10 ^ 60≤10 ^ 150 by decide +kernel)
    have w1:=(z2.mono sl).weak (show 10 ^ 60≤10 ^ 150 by decide +kernel)
    match i,h1,h2 with
    | 0,h1,h2=>cases h1;cases h2;exact w0
    | 1,h1,h2=>cases h1;cases h2;exact w1
   have l2:oT q 2:=⟨by decide,fun _=>by decide⟩
   refine ⟨q,yb,l,_,_,rfl,hq,I.hy.mono sl,hl,l2,l2,fun v' H' s' hN=>?_⟩;obtain ⟨p,hp,ym⟩:=G3 hq hN fun z=>by
    have bi:=(b z i hi).2 (aH _);have bi:cM (10 ^ 18) (2*10 ^ 12) (f3 i):=by
     by_cases y:i=kk;·rw [ak y,ak y] at bi;exact bi
     ·rw [ao y,ao y] at bi;exact bi.weak (by decide) (by decide)
    have:=W9 (ER z) bi d2 e2 (by decide +kernel) (by decide)
    rw [getD_at d2,getD_at e2] at this;exact this
   have EW:=sl.trans s';have Jz:=EW _ _ nK;have dt':=I.dt.mono EW;refine ⟨_,rfl,_,rfl,_,_,rfl,rfl,uN 3 (by decide) (by decide),_,rfl,_,_,rfl,rfl,mp,A2 i,ws,_,cc,rfl,rfl,Jz,?_,?_⟩
   ·rw [ecc]
    unfold gI;rw [ak (by lia),ak (by lia),df]
   ·refine ⟨_,_,_,rfl,⟨dP (I.same.trans EW) h2,dt'.cell hi Jz hp ccm,ng (I.hy.mono EW) (Ne.symm (I.ay i hi)) Jz j7,I.ty,I.ay⟩,fun z i' a_=>⟨fun h=>?_,fun h=>?_⟩⟩
    ·by_cases y:i'=i
     ·subst y
      have bi:=(b z i' hi).2 (aH _);rw [←getD_at d2 (d:=o1),←getD_at e2 (d:=o1)] at ym;have:=W6 (c:=cc) (ER z) bi d2 e2 (ym z);rw [ak rfl];refine this.weak ?_ ?_;·split <;> decide
      ·split <;> decide
     ·rw [ao y]
      exact (b z i' a_).1 (by lia)
    ·have ne:¬i'=i:=by lia
     rw [ao ne];exact (b z i' a_).2 (by lia)
  ·rintro σ Hc ⟨f3,v10,v11,rfl,I,b⟩
   exact fin2 f3 v10 v11 Hc I fun z=>.inr ⟨QI.1,QI.2,fun i hi=>(b z i hi).1 hi⟩)
 refine EM (decide (way=1) || decide (way=5)) (fun Q h=>Qu rfl h) (fun hw=>?_) (fun hw=>qz A1 f none H6 I6 fun z=>.inl (bv z));obtain ⟨u,un,eu⟩:=modn (rest / 6);obtain ⟨v,vn,ev⟩:=modn (rest / 36);have yk:∀j:Nat,j<n→da ((List.range n).map fun i=>V.ref (A1 i)) (j:Int)=some (.ref (A1 j)):=fun j hj=>cK (by simp [hj])
 refine ⟨_,rfl,_,rfl,_,_,rfl,rfl,uN 6 (by decide) (by decide),_,rfl,_,_,rfl,rfl,np,tb,_,_,_,rfl,rfl,.of ES.at',by rw [eu];exact yk u un,?_⟩
 refine ⟨_,rfl,_,rfl,_,_,rfl,rfl,uN 36 (by decide) (by decide),_,rfl,_,_,rfl,rfl,np,tb,_,_,_,rfl,rfl,.of ES.at',by rw [ev];exact yk v vn,?_⟩
 refine ⟨by show 2≤sizeLine;decide,fun tw ntw=>?_⟩
 have s7:ah H6 (upd H6 tw (.lst [.ref (A1 u),.ref (A1 v)])):=aS ntw;have JA:upd H6 tw (.lst [.ref (A1 u),.ref (A1 v)]) tw=some (.lst [.ref (A1 u),.ref (A1 v)]):=aA;generalize upd H6 tw (.lst [.ref (A1 u),.ref (A1 v)])=H7 at s7 JA ⊢;have AY:=ES.mono s7;have JB:=QA.mono s7;dsimp only [aT];simp only [bj,bq];obtain ⟨ru1,ru2,⟨us,qC,Ju,Jv⟩,ru3⟩:=id (AY.rows u un);obtain ⟨rv1,rv2,⟨ws,nK,i6,qB⟩,rv3⟩:=id (AY.rows v vn);have Jt:da [V.ref (A1 u),V.ref (A1 v)] 0=some (.ref (A1 u)):=by exact cK (j:=0) rfl
 have abn:da [V.ref (A1 u),V.ref (A1 v)] 1=some (.ref (A1 v)):=by exact cK (j:=1) rfl
 refine gM (Cy (Z:=fun zs Hx=>zs=us.zip ws∧Hx=H7) (fun R h=>⟨_,rfl,tw,_,_,_,rfl,rfl,.of JA,Jt,_,rfl,tw,_,_,_,rfl,rfl,.of JA,abn,A1 u,A1 v,rfl,⟨_,.of qC⟩,⟨_,.of nK⟩,h _ _ _ (ah.refl _) (p6 (.of qC) (.of nK)) (dO (by rw [jB];lia)) ⟨rfl,rfl⟩⟩) (fun D j y Hx=>∃p:Int×Int,bZ (10 ^ 60) Hx q y p.1 p.2∧(q=0→∀X Dd:Int,aO 0 (bu [(x0,m0),(x1,qA)] [(f u).getD j o1,(f v).getD j o1] (0,1)) (X,Dd)→1≤Dd→p.1*Dd=X*p.2)) (fun D j y Ha Hb ys ⟨p,h0,h1⟩ e ff=>⟨p,h0.bC e ff,h1⟩) ?_ ?_)
 ·rintro zs Hx ⟨rfl,rfl⟩ _ D j x y gQ Hc R sc _ kc
  obtain ⟨h1,h2⟩:=k_.mp gQ;have j1:j<us.length:=(aP.mp h1).1;have j2:j<ws.length:=(aP.mp h2).1;have j3:j<(f u).length:=by lia
  have j4:j<(f v).length:=by lia
  have z1:=(Jv j x (f u)[j] h1 (by simp [j3])).mono sc
  have z2:=(qB j y (f v)[j] h2 (by simp [j4])).mono sc
  refine ⟨_,rfl,_,rfl,_,rfl,_,rfl,by show 2≤sizeLine;decide,fun l nl=>?_⟩
  have sl:ah Hc (upd Hc l (.lst [x,y])):=aS nl;have el:upd Hc l (.lst [x,y]) l=some (.lst [x,y]):=aA;generalize upd Hc l (.lst [x,y])=Hd at sl el ⊢;have hl:aI (10 ^ 150) Hd q l [(f u)[j],(f v)[j]]:=by
   refine ⟨[x,y],el,rfl,fun i v p h1 h2=>?_⟩;have w0:=(z1.mono sl).weak (show 10 ^ 60≤10 ^ 150 by decide +kernel)
   have w1:=(z2.mono sl).weak (show 10 ^ 60≤10 ^ 150 by decide +kernel)
   match i,h1,h2 with
   | 0,h1,h2=>cases h1;cases h2;exact w0
   | 1,h1,h2=>cases h1;cases h2;exact w1
  have l2:oT q 2:=⟨by decide,fun _=>by decide⟩
  refine ⟨q,yb,l,_,_,rfl,hq,(JB.mono sc).mono sl,hl,l2,l2,fun v' H' s' hN=>?_⟩;obtain ⟨p,hp,ym⟩:=G3 hq hN fun z=>by
   have:=W5 (ER z) (bv z u un) (bv z v vn) j3 j4 (by decide +kernel) (by decide)
   rw [getD_at j3,getD_at j4] at this;exact this
  refine kc v' H' (sl.trans s') ⟨p,hp,?_⟩;rw [getD_at j3,getD_at j4];exact ym
 ·rintro zs Hx ⟨rfl,rfl⟩ _ D ys H8 nD s8 dY hP eD
  obtain ⟨ps,lp,hp⟩:=pick (R:=fun j y p=>bZ (10 ^ 60) H8 q y (Prod.fst p) (Prod.snd p)∧(q=0→∀X Dd:Int,aO 0 (bu [(x0,m0),(x1,qA)] [(f u).getD j o1,(f v).getD j o1] (0,1)) (X,Dd)→1≤Dd→(Prod.fst p)*Dd=X*(Prod.snd p))) hP;have aif:ys.length=m:=by rw [dY,jB];lia
  have AX:ps.length=m:=by lia
  have pB:=AY.mono s8;have lK:aI (10 ^ 60) H8 q D ps:=⟨ys,eD,lp.symm,fun j v p h1 h2=>(hp j v p h1 h2).1⟩;have Dtb:D≠tb:=fun e=>by rw [e,AY.at'] at nD;cases nD
  have nA:∀i,i<n→A1 i≠D:=fun i hi e=>by obtain ⟨_,_,⟨vs,e',_⟩,_⟩:=AY.rows i hi;rw [e,nD] at e';cases e'
  have Dyb:D≠yb:=fun e=>by obtain ⟨vs,e',_⟩:=JB;rw [←e,nD] at e';cases e'
  have sH8:=Jo.trans (s7.trans s8);have k7:=pB.put Jq lK AX (none_of (Jo.trans s7) nD) Dtb nA;refine ⟨_,rfl,_,rfl,_,rfl,_,_,rfl,rfl,np,tb,_,_,kk,rfl,rfl,pB.at',?_,?_⟩
  ·rw [QB]
   unfold gI;rw [ak (by lia),ak (by simp;exact Jq),df]
  ·refine qz _ _ _ _ ⟨dP sH8 Qy,k7,ng (JB.mono s8) (Ne.symm Jn) pB.at' j7,Jn,fun i hi=>?_⟩ fun z=>.inr ⟨?_,?_,fun i hi=>?_⟩
   ·by_cases y:i=kk
    ·rw [ak y];exact Dyb
    ·rw [ao y];exact QC i hi
   ·intro e;rw [e] at hw;simp at hw
   ·intro e;rw [e] at hw;simp at hw
   ·dsimp only
    by_cases y:i=kk
    ·rw [ak y,ak y,ak y]
     refine (W4 (ER z) (bv z u un) (bv z v vn) ru3 rv3 AX fun j hj X Dd w d1=>?_).weak (by decide) (by decide)
     have j1:j<ys.length:=by lia
     have j2:j<ps.length:=by lia
     rw [getD_at j2];exact (hp j ys[j] ps[j] (by simp [j1]) (by simp [j2])).2 z X Dd w d1
    ·rw [ao y,ao y,ao y]
     exact bv z i hi
theorem abr:bF ["p","one","other","rows","columns_v","whole","i","row","j"] ["p","one","other"] (aU D9):=bY
theorem abt(T:Txt K mg t):a7 P w K mg base cz 3 t.t5 t.w_ ["p","one","other"] Ya:=by
 have S:=abr;refine T.xU.cN S (fun _ _ _ _ H vs _ _ hr h=>?_);obtain ⟨a,b,q,aa,af,m,u,rfl,hq,hA,hB,n1,dF,k1,j_,hm,hu,o4,u1,Ax,k⟩:=h
 refine ⟨_,(au (putL 3 S.nd (cD dN rfl T.dH dI (ae (pv 2) ai)))
  (au (putL 4 S.nd (cD dN rfl T.dH dI (ae (aE dc (pv 2) aj) ai)))
  (au (putL 5 S.nd (dM ai))
  (au (ik fP rfl (jF rfl T.gP (ae (aw fG (cD dN rfl T.dH dI (ae (pv 1) ai)) (pv 3)) ai)) (d_ (i:=6) S.nd rfl (Or.inl rfl))
   (au (putL 7 S.nd (dM ai))
  (au (ik fP rfl (jF rfl T.gP (ae (aw fG (cD dN rfl T.dH dI (ae (aE dc (pv 1) aj) ai)) (pv 4)) ai)) (d_ (i:=8) S.nd rfl (Or.inl rfl))
   (az (mK (rJ qW yX yY mR (pv 7) (ae (aM (EE T) hr T.uv T.mf.kp T.uu aX (ae (pv 0) (ae (dM (ae (aE dc (aE dc (pv 1) (aw pS (pv 6) (pv 3))) (aw pS (pv 8) (pv 4))) ai)) (ae (dM (ae (aE dc (aE dc (pv 2) (aw cV (pv 6) (pv 3))) (aw cV (pv 8) (pv 4))) ai)) ai)))) ai)))))
  (az (mK (rJ qW yX yY mR (pv 5) (ae (pv 7) ai)))))))
  (az (aR (pv 5))))))),?_⟩
 obtain ⟨vs,ra0,ea,la,ea0,abw⟩:=hA.C2 (i:=0) (by lia)
 obtain ⟨us,rb0,eb,lb,eb0,abz⟩:=hB.C2 (i:=0) (by lia)
 obtain ⟨QJ,abA,abB,_⟩:=id abw;obtain ⟨nM,abC,QK,_⟩:=id abz;have m0:=hm _ (aQ (show 0<aa.length by lia))
 have u0:=hu _ (aQ (show 0<af.length by lia))
 refine ⟨_,rfl,b,us,rfl,.inl (.of eb),?_⟩;refine ⟨_,rfl,b,us,_,_,rfl,rfl,.of eb,(by exact cK (j:=0) eb0),rb0,nM,rfl,.inl (.of abC),?_⟩
 refine ⟨by show 0≤sizeLine;decide,fun wh JD=>?_⟩
 have sw:ah H (upd H wh (.lst [])):=aS JD;have ew:upd H wh (.lst []) wh=some (.lst []):=aA;generalize upd H wh (.lst [])=H0 at sw ew ⊢;have nk:aa.length*af.length≤40*40:=aZ dF j_;have mu:m*u≤40*40:=aZ o4 Ax;have eN:((vs.length:Int)*(us.length:Int))=((aa.length*af.length:Nat):Int):=by rw [la,lb,pK]
 have eM:((QJ.length:Int)*(nM.length:Int))=((m*u:Nat):Int):=by rw [abB,QK,m0,u0,pK]
 have ek:(us.length:Int)=((af.length:Nat):Int):=by rw [lb]
 have eu:(nM.length:Int)=((u:Nat):Int):=by rw [QK,u0]
 refine ⟨_,rfl,a,vs,rfl,.inl (.of (sw _ _ ea)),_,rfl,_,_,rfl,rfl,.inl ⟨by lia,by lia⟩,((aa.length*af.length:Nat):Int),hJ (fun x=>[V.int x]) eN,by lia,by lia,?_⟩
 rw [df]
 refine rq (fun i σ Hc=>ah H Hc∧∃(v6 v7 v8:Option V) (ys:List V),σ=[some (.int q),some (.ref a),some (.ref b),some (.int (us.length:Int)),some (.int (nM.length:Int)),some (.ref wh),v6,v7,v8]∧Hc wh=some (.lst ys)∧ys.length=i∧∀(i':Nat) (v:V),ys[i']?=some v→∃r:Addr,v=.ref r∧r≠wh∧H r=none∧lX Hc q r (m*u) (cellOf aa af af.length u i'))
  ⟨sw,none,none,none,[],rfl,ew,rfl,fun i' v e=>by simp at e⟩ ?_ ?_
 ·rintro i σ Hc hi ⟨sc,v6,v7,v8,ys,rfl,EX,ly,hy⟩
  have i1:=iJ hi;have i2:=gN hi;refine ⟨by show 0≤sizeLine;decide,fun r nr=>?_⟩
  have sr:ah Hc (upd Hc r (.lst [])):=aS nr;have er:upd Hc r (.lst []) r=some (.lst []):=aA;have s2:=sc.trans sr;refine ⟨_,rfl,a,vs,_,_,rfl,rfl,.of (s2 _ _ ea),(by exact cK (j:=0) ea0),ra0,QJ,rfl,.inl (.of (s2 _ _ abA)),_,rfl,_,_,rfl,rfl,.inl ⟨by lia,by lia⟩,((m*u:Nat):Int),hJ (fun x=>[V.int x]) eM,by lia,by lia,?_⟩
  rw [df];generalize upd Hc r (.lst [])=H1 at sr er s2 ⊢
  refine rq (fun j σ Hd=>ah Hc Hd∧∃(v8:Option V) (ws:List V),σ=[some (.int q),some (.ref a),some (.ref b),some (.int (us.length:Int)),some (.int (nM.length:Int)),some (.ref wh),some (.int (0+(i:Int))),some (.ref r),v8]∧Hd r=some (.lst ws)∧ws.length=j∧∀(j':Nat) (v:V),ws[j']?=some v→cJ Hd q v (cellOf aa af af.length u i j').1 (cellOf aa af af.length u i j').2)
   ⟨sr,v8,[],rfl,er,rfl,fun i' v e=>by simp at e⟩ ?_ ?_
  ·rintro j σ Hd hj ⟨sd,v8,ws,rfl,yo,lw,hw⟩
   have j1:=iJ hj;have j2:=gN hj;have s3:=sc.trans sd;obtain ⟨Nk,ra,Ey,la',eai,hra⟩:=(hA.mono s3).C2 i1;rw [s3 _ _ ea] at Ey;cases Ey;obtain ⟨Av,rb,QL,lb',ebi,hrb⟩:=(hB.mono s3).C2 i2;rw [s3 _ _ eb] at QL;cases QL;have mi:=hm _ (aQ i1);have ui:=hu _ (aQ i2);obtain ⟨wa,x,ewa,lwa,ewx,hx⟩:=hra.HB (j:=j / u) (by lia)
   obtain ⟨wb,y,ewb,lwb,ewy,uO⟩:=hrb.HB (j:=j % u) (by lia)
   have q1:(0+(i:Int)) / (us.length:Int)=((i / af.length:Nat):Int):=by rw [ek,n5,Int.natCast_ediv]
   have q2:(0+(j:Int)) / (nM.length:Int)=((j / u:Nat):Int):=by rw [eu,n5,Int.natCast_ediv]
   have q3:(0+(i:Int)) % (us.length:Int)=((i % af.length:Nat):Int):=by rw [ek,n5,Int.natCast_emod]
   have q4:(0+(j:Int)) % (nM.length:Int)=((j % u:Nat):Int):=by rw [eu,n5,Int.natCast_emod]
   refine Ct ⟨_,rfl,.inl ⟨rfl,_,.of yo⟩,_,rfl,_,rfl,_,rfl,_,rfl,_,_,rfl,rfl,⟨by lia,by lia⟩,a,vs,_,.ref ra,rfl,rfl,.of (s3 _ _ ea),(by show da vs ((0+(i:Int)) / (us.length:Int))=_;rw [q1];exact cK eai),_,rfl,_,rfl,_,_,rfl,rfl,⟨by lia,by lia⟩,ra,wa,_,x,rfl,rfl,.of ewa,(by show da wa ((0+(j:Int)) / (nM.length:Int))=_;rw [q2];exact cK ewx),by show 1≤sizeLine;decide,fun l1 Jw=>?_⟩
   have t1:ah Hd (upd Hd l1 (.lst [x])):=aS Jw;have QM:upd Hd l1 (.lst [x]) l1=some (.lst [x]):=aA;generalize upd Hd l1 (.lst [x])=Hf at t1 QM ⊢;refine ⟨_,rfl,_,rfl,_,rfl,_,_,rfl,rfl,(show (0:Int)<(us.length:Int) by lia),b,us,_,.ref rb,rfl,rfl,.of (t1 _ _ (s3 _ _ eb)),(by show da us ((0+(i:Int)) % (us.length:Int))=_;rw [q3];exact cK ebi),_,rfl,_,rfl,_,_,rfl,rfl,(show (0:Int)<(nM.length:Int) by lia),rb,wb,_,y,rfl,rfl,.of (t1 _ _ ewb),(by show da wb ((0+(j:Int)) % (nM.length:Int))=_;rw [q4];exact cK ewy),by show 1≤sizeLine;decide,fun l2 x_=>?_⟩
   have t2:ah Hf (upd Hf l2 (.lst [y])):=aS x_;have QN:upd Hf l2 (.lst [y]) l2=some (.lst [y]):=aA;generalize upd Hf l2 (.lst [y])=Hg at t2 QN ⊢;have QO:∀{l:Addr} {v:V} {p:Int×Int},Hg l=some (.lst [v])→bZ (10 ^ 60) Hg q v p.1 p.2→aI (10 ^ 60) Hg q l [p]:=fun{l v p} e h=>⟨[v],e,rfl,fun i' v' p' h1 h2=>by
    match i',h1,h2 with
    | 0,h1,h2=>cases h1;cases h2;exact h
    | i'+1,h1,h2=>cases h1⟩
   refine ⟨q,l1,l2,10 ^ 60,10 ^ 60,[_],[_],rfl,hq,QO (t2 _ _ QM) ((hx.mono t1).mono t2),QO QN ((uO.mono t1).mono t2),by decide +kernel,by decide +kernel,by show 1≤40;decide,by show 1≤40;decide,fun _=>by show 40*(10 ^ 60*10 ^ 60) ^ 1<_;decide +kernel,fun v H' s' hN=>?_⟩
   have sT:=t1.trans (t2.trans s');refine ⟨r,ws,v,rfl,rfl,sT _ _ yo,dy (show _<2000 by lia) (by decide),?_⟩
   have bC:∀b o,b≠r→H' b=some o→upd H' r (.lst (ws++[v])) b=some o:=fun b o nb e=>by rw [bI nb];exact e
   refine ⟨dP (sd.trans sT) nr,_,_,rfl,aA,by simp [lw],fun j' v' e=>?_⟩
   by_cases di:j'<ws.length
   ·rw [fD di] at e
    exact ((hw j' v' e).mono sT).bC (sT _ _ yo) bC
   ·have ej:j'=j:=by have:=(aP.mp e).1;simp at this;lia
    subst ej;rw [fN (by lia),lw,mF] at e
    have e:v=v':=by simpa using e
    subst e;have z:=hN.bC (sT _ _ yo) bC;unfold cellOf;rw [getD_at i1,getD_at i2];simpa [bu,oQ] using z
  ·rintro σ Hd ⟨sd,v8,ws,rfl,yo,lw,hw⟩
   have k6:r≠wh:=fun z=>by rw [z,EX] at nr;cases nr
   have uK:=sd _ _ EX;refine ⟨_,rfl,.inl ⟨rfl,_,.of uK⟩,_,rfl,wh,ys,_,rfl,rfl,uK,dy (show _<2000 by lia) (by decide),?_⟩
   have bC:∀b o,b≠wh→Hd b=some o→upd Hd wh (.lst (ys++[.ref r])) b=some o:=fun b o nb e=>by rw [bI nb];exact e
   refine ⟨dP (sc.trans sd) JD,_,_,_,_,rfl,aA,by simp [ly],fun i' v' e=>?_⟩
   by_cases a_:i'<ys.length
   ·rw [fD a_] at e
    obtain ⟨r',e1,e2,e3,e4⟩:=hy i' v' e;exact ⟨r',e1,e2,e3,(e4.mono sd).bC e2 uK bC⟩
   ·have ei:i'=i:=by have:=(aP.mp e).1;simp at this;lia
    subst ei;rw [fN (by lia),ly,mF] at e
    have e:V.ref r=v':=by simpa using e
    subst e;exact ⟨r,rfl,k6,none_of sc nr,lX.bC ⟨ws,yo,lw,hw⟩ k6 uK bC⟩
 ·rintro σ Hc ⟨sc,v6,v7,v8,ys,rfl,EX,ly,hy⟩
  exact ⟨_,rfl,k wh Hc sc JD ⟨ys,EX,ly,hy⟩⟩
theorem abL:bF ["world","table","wide","told","free"] ["world","table"] (aU Dz):=bY
theorem QP(T:Txt K mg t):a7 P w K mg base cz 6 t.sZ t.wc ["world","table"] (Ym t.cq):=by
 have S:=abL;refine T.uj.cN S (fun _ _ _ _ H _ _ _ hr h=>?_);obtain ⟨z,a,q,B,PP,aa,G,rfl,hz,hq,hA,B1,Ay,n1,dF,hm,hE,hG,hP,ph,hk,k⟩:=h
 refine ⟨_,(au (putL 2 S.nd (aM (uB T) hr T.qs T.kY.kp T.qr iH (ae (pv 1) ai)))
  (au (eC 3 S.nd (aM (Et T) hr T.Ac T.o6.kp T.Ab aX (ae (pv 0) (ae (pv 1) ai))))
  (au (zA (i0:=4) (N:=["place","told"]) (ρ:=(fun σ=>[σ[3]?.join])) (eS [3] rfl) rfl S.nd rfl (Or.inl rfl) (jF rfl T.gP (ae (pv 2) ai)) (fun _ _ _=>(.one (BW (Np (K:=K)) (pv 0) (aE (p7 (K:=K)) (pv 1) aj) rfl))) (fun _ _ _=>(pv 0)))
  (au (bQ (bJ il (cD dN rfl T.dH dI (ae (pv 4) ai)) aj) (az (aR ky)) bW)
  (az (aR (aM (PZ T) hr T.HX T.ug.kp T.HW aX (ae (pv 0) (ae (aE bG (pv 3) aj) (ae (aE bG (pv 3) aj) (ae (pv 2) (ae (aE dc (pv 4) aj) ai)))))))))))),?_⟩
 refine ⟨_,rfl,a,q,B,aa,aa.length,rfl,hA,n1,dF,hm,fun H1 s1=>?_⟩;dsimp only [aT];simp only [L2.start,cS,ib,fU,gU,List.replicate,gY,gC,bj,bq];refine ⟨_,rfl,_,rfl,z,a,q,B,PP,aa.length,aa,G,rfl,hz.mono s1,hq,hA.mono s1,B1,Ay,n1,dF,hm,by lia,hE,hG,hP,dq ph (by decide +kernel),fun p rr l H2 AA M c L last af s2 ep el hR R=>?_⟩
 have hb:∀ps∈aa,∀p∈ps,aF q p.2:=fun ps h1 p h2=>(hA.nums hq ps h1 p h2).2.1;have abM:=hA.rep hq rfl hm;have u4:L≠List.range aa.length:=fun e=>by subst e;exact W_ hk (R.G7 hq rfl rfl hm (fun _ _ _ _=>rfl) (aH _) hb) abM
 obtain ⟨c0,c0n,c0L⟩:∃c,c<aa.length∧c∉L:=gE fun y=>u4 (GV R.red.rd.up R.red.rd.len fun c hc=>gE fun x=>y ⟨c,hc,x⟩);have hL:∀l∈L,l<aa.length:=R.red.rd.lt;have ln:=R.red.rd.len;dsimp only [aT];simp only [bj,bq];refine fT (gM (Nj (xs:=(List.range aa.length).map fun i:Nat=>V.int (0+(i:Int))) (fun i=>!decide (i∈L)) (fun R h=>⟨_,rfl,(aa.length:Int),rfl,by lia,by lia,h _ _ (ah.refl _) (by rw [df];exact oM)⟩) (by rw [bL,eK];exact dO (by lia)) ?_ (fun i x hx Hd R h=>⟨_,rfl,h⟩) ?_))
 ·intro i x hx Hd R' sd h
  obtain ⟨hi,rfl⟩:=oP hx;refine ⟨_,rfl,_,rfl,p,_,_,_,rfl,rfl,.of (sd _ _ ep),rfl,l,cY L,rfl,.inl (.of (sd _ _ el)),rfl,Ho,_,rfl,?_⟩;rw [ak rfl,CO];exact h
 ·intro D ys H3 nD s3 h1 h2 eD
  dsimp only [aT];simp only [bj,bq];refine ⟨_,rfl,D,ys,rfl,.inl (.of eD),rfl,_,rfl,?_⟩;cases ys with
  | nil=>exact absurd rfl (h2 c0 (by simpa using c0n) (by simpa using c0L))
  | cons v x6=>
   obtain ⟨f0,EI,pA⟩:=h1 v gB;obtain ⟨hf,rfl⟩:=oP pA;rw [jO,fq (by simp;lia)]
   refine cP ?_;dsimp only [gq];have nf:f0∉L:=by simpa using EI
   have jq:∀ps∈af,∀p∈ps,aF q p.2:=fun ps h1 p h2=>(hR.nums hq ps h1 p h2).2.1;have i7:da (V.int (f0:Int)::x6) 0=some (V.int (f0:Int)):=by exact cK (j:=0) rfl
   have JE:=s1.trans (s2.trans s3);refine ⟨_,rfl,_,rfl,p,_,_,_,rfl,rfl,.of (s3 _ _ ep),rfl,_,rfl,p,_,_,_,rfl,rfl,.of (s3 _ _ ep),rfl,_,rfl,_,rfl,D,_,_,_,rfl,rfl,.of eD,i7,z,rr,l,q,aa.length*(bA aa.length*PP),aa.length,aa.length,f0,af,L,rfl,hz.mono JE,hq,hR.mono s3,R.red.iL,ph,R.eF,s3 _ _ el,R.len,by lia,R.red.rd.up,hL,by lia,aH _,hf,nf,fun r ps H4 s4 nr cQ lp g1 g2 g3=>k r ps f0 H4 (JE.trans s4) (none_of JE nr) cQ lp (R.Hj hq rfl rfl hm (fun _ _ _ _=>rfl) (aH _) hb jq hL hf nf (fun k hk=>(cQ.nums hq _ (by rw [getD_at (by lia)];exact aQ _)).2.1) g1 g2 g3) hf g1⟩
theorem abP:bF ["world","one","other","aim","n","k","half","whole"] ["world","one","other","aim"] (aU DF):=bY
theorem abQ(T:Txt K mg t):a7 P w K mg base (e8 P w) 7 t.tu t.wo ["world","one","other","aim"] (Yn t.cq):=by
 have S:=abP;refine T.xC.eR S (fun _ _ _ _ H _ _ _ hr h L=>?_);obtain ⟨z,a,b,d,q,aa,af,as,n,k,DA,WA,DB,WB,rfl,hz,hq,hA,hB,hd,nas,ln,lk,hm,hu,n1,k1,las,fM,fo,kL,kO⟩:=h;subst ln lk;have n3:=fM.n3;have k3:=fo.n3;have dF:aa.length≤40:=by lia
 have j_:af.length≤40:=by lia
 have z_:aa.length*af.length≤9:=aZ n3 k3;obtain ⟨xs,ed,AL,fas⟩:=id hd;have el:xs.length=aa.length*af.length:=by lia
 refine ⟨_,(au (putL 4 S.nd (aM (Iz T) hr T.Ej T.qt.kp T.Ei (iY L) (ae (pv 1) ai)))
  (au (eC 5 S.nd (aM (Iz T) hr T.Ej T.qt.kp T.Ei (iY L) (ae (pv 2) ai)))
  (au (mK (aM (aal T) hr T.OD T.xA.kp T.OC (iY L) (ae (pv 1) (ae (pv 2) ai))))
  (au (mK (aM (PK T) hr T.HQ T.ud.kp T.HP (iY L) (ae (aw fG (pv 4) (pv 5)) (ae (pv 3) ai))))
  (au (putL 6 S.nd (aM (PV T) hr T.HZ T.uh.kp T.HY (iY L) (ae (pv 0) (ae (pv 1) (ae (gd (N:=["i","aim","k"]) (ρ:=(fun σ=>[σ[3]?.join,σ[5]?.join])) (eS [3,5] rfl) rfl (jF rfl T.gP (ae (pv 4) ai)) (fun _ _ _=>.nil) (fun _ _ _=>(B3 (Nd (K:=K)) (pv 1) (zi (aw fG (pv 0) (pv 2))) (zi (aw gG (aw fG (pv 0) (pv 2)) (pv 2)))))) ai)))))
  (au (bQ (bJ rz (pv 6) ky) (az (aR (fZ (ae fV (ae aj (ae (aM (P_ T) hr T.Ic T.uk.kp T.Ib aX (ae (pv 0) (ae (aM (QP T) hr T.Ia T.uj.kp T.H_ aX (ae (pv 0) (ae (pv 1) ai))) (ae (aM (PJ T) hr T.HS T.ue.kp T.HR aX (ae (pv 0) (ae (pv 5) (ae aj ai)))) ai)))) ai)))))) bW)
  (au (putL 7 S.nd (aM (PV T) hr T.HZ T.uh.kp T.HY (iY L) (ae (pv 0) (ae (pv 2) (ae (aM (IC T) hr T.El T.qu.kp T.Ek aX (ae (pv 6) ai)) ai)))))
  (au (bQ (bJ rz (pv 7) ky) (az (aR (fZ (ae fV (ae aj (ae (aM (P_ T) hr T.Ic T.uk.kp T.Ib aX (ae (pv 0) (ae (aM (PJ T) hr T.HS T.ue.kp T.HR aX (ae (pv 0) (ae (pv 4) (ae aj ai)))) (ae (aM (QP T) hr T.Ia T.uj.kp T.H_ aX (ae (pv 0) (ae (pv 2) ai))) ai)))) ai)))))) bW)
  (az (aR (fZ (ae fV (ae (aM (aaq T) hr T.OF T.xB.kp T.OE aX (ae (aM (IC T) hr T.El T.qu.kp T.Ek aX (ae (pv 7) ai)) ai)) ai))))))))))))),?_⟩
 refine ⟨_,rfl,a,q,10 ^ 60,aa,aa.length,rfl,hA,n1,dF,hm,fun ne=>absurd rfl ne,fun _ H1 s1=>?_⟩;dsimp only [aT];simp only [L2.start,cS,ib,fU,gU,List.replicate,gY,gC,bj,bq];refine ⟨_,rfl,b,q,10 ^ 60,af,af.length,rfl,hB.mono s1,k1,j_,hu,fun ne=>absurd rfl ne,fun _ H2 s2=>?_⟩;dsimp only [aT];simp only [bj,bq];have ke:=s1.trans s2;refine ⟨_,rfl,_,rfl,a,b,q,10 ^ 60,aa,af,aa.length,af.length,rfl,hA.mono ke,hB.mono ke,n1,dF,k1,j_,hm,hu,dF,j_,fun h H3 s3=>(by have:=h.elim id id;lia),fun aim _ H3 s3=>?_⟩
 have nN:=ke.trans s3;refine ⟨_,rfl,_,rfl,_,_,rfl,rfl,.inl ⟨by lia,by lia⟩,_,rfl,aa.length*af.length,d,xs,rfl,nN _ _ ed,fun ne=>absurd el ne,fun _=>?_⟩
 have QQ:=hA.nums hq;have QR:=hB.nums hq;have JF:∀ps∈aa,∀p∈ps,aF q p.2:=fun ps h1 p h2=>(QQ ps h1 p h2).2.1;have JG:∀ps∈af,∀p∈ps,aF q p.2:=fun ps h1 p h2=>(QR ps h1 p h2).2.1;have JH:=hd.nums hq;have JI:=hA.rep hq rfl hm;have JJ:=hB.rep hq rfl hu;have cA:=hA.iM hq;have cB:=hB.iM hq;have abT:10 ^ 6≤10 ^ 60:=by decide +kernel
 have yp:∀{x:Nat},x≤10 ^ 290→x<2 ^ 2048:=fun h=>dq h (by decide +kernel)
 have bX:∀{n P X Y:Nat},n≤3→P≤10 ^ 67*X ^ 2→18*(10 ^ 67*X ^ 2)≤Y→n*(bA n*P)≤Y:=fun h hp hy=>aq (Xi h) (aq (gW _ hp) hy);have ain:as.length=xs.length:=by lia
 have small:∀i:Nat,i<aa.length→i*af.length+af.length≤xs.length:=fun i hi=>by rw [el,←gT];exact d9 _ hi
 have NX:xs.length≤40:=by lia
 dsimp only;refine ⟨_,rfl,_,rfl,?_⟩;refine iu (xs:=(List.range aa.length).map fun i:Nat=>V.int (0+(i:Int))) (fun R h=>⟨_,rfl,(aa.length:Int),rfl,by lia,by lia,h _ _ (ah.refl _) (by rw [df];exact oM)⟩) (by rw [bL,eK];exact dO (by lia)) (fun D i y Hx=>∃x:Addr,y=.ref x∧x≠D∧aI (10 ^ 6) Hx q x ((as.drop (i*af.length)).take af.length)) (fun D i y Ha Hb ys ⟨x,h1,h2,h3⟩ e f=>⟨x,h1,h2,ng h3 h2 e f⟩) ?_ ?_
 ·intro D i v hi Hc R sc ⟨zs,eD⟩ kc
  obtain ⟨a_,rfl⟩:=oP hi;have sm:=small i a_;refine ⟨_,rfl,_,rfl,_,rfl,_,_,rfl,rfl,.inl ⟨by lia,by lia⟩,_,rfl,_,rfl,_,rfl,_,_,rfl,rfl,.inl ⟨by lia,by lia⟩,_,rfl,_,_,rfl,rfl,_,rfl,d,xs,rfl,.of (sc _ _ (nN _ _ ed)),fun p JK=>?_⟩
  have ec:ip xs (some ((i:Int)*(af.length:Int))) (some ((i:Int)*(af.length:Int)+(af.length:Int)))=(xs.drop (i*af.length)).take af.length:=Xg xs (i*af.length) af.length sm;rw [ec];have sp:ah Hc (upd Hc p (.lst ((xs.drop (i*af.length)).take af.length))):=aS JK;refine kc _ _ sp ⟨p,rfl,(fun e=>by rw [e,eD] at JK;cases JK),?_⟩
  exact aI.mid aA AL fun j v p h1 h2=>(((fas j v p h1 h2).mono nN).mono sc).mono sp
 intro D ys H4 nD s4 dY hP4 eD;obtain ⟨bO,EY⟩:∃bO:List (List (Int×Int)),bO=(List.range aa.length).map fun i=>(as.drop (i*af.length)).take af.length:=⟨_,rfl⟩;have nO:bO.length=aa.length:=by rw [EY];simp
 have QS:∀i,i<aa.length→bO.getD i []=(as.drop (i*af.length)).take af.length:=fun i hi=>by
  rw [EY,getD_at (by simpa using hi)]
  simp
 have wU:∀ps∈bO,ps.length=af.length:=fun ps hp=>by rw [EY] at hp;obtain ⟨i,hi,e⟩:=eZ.mp hp;have:=small i (fe.mp hi);rw [←e,qO,nS];lia
 have EZ:∀ps∈bO,∀p∈ps,p∈as:=fun ps hp p h=>by rw [EY] at hp;obtain ⟨i,hi,e⟩:=eZ.mp hp;rw [←e] at h;exact List.mem_of_mem_drop (List.mem_of_mem_take h)
 have tU:bE (10 ^ 6) H4 q D bO:=by
  refine ⟨ys,eD,by rw [dY,nO];simp,fun i v ps h1 h2=>?_⟩
  obtain ⟨x,e1,_,e3⟩:=hP4 i v h1;have i2:i<bO.length:=(aP.mp h2).1;have g:=QS i (by lia)
  rw [getD_at i2] at g;have:ps=bO[i]:=by simpa [i2] using h2.symm
  rw [this,g];exact ⟨x,e1,e3⟩
 have k8:=nN.trans s4;have abV:∀i,i<aa.length→∀p∈aa.getD i []++bO.getD i [],Canon q p:=fun i hi p hp=>by
  have h2:i<bO.length:=by lia
  rw [getD_at hi,getD_at h2] at hp;rcases kh.mp hp with y | y;·exact (QQ _ (aQ hi) p y).1
  ·exact (JH p (EZ _ (aQ h2) p y)).1
 have abW:∀i,i<aa.length→eE q (gA q DA WA (10 ^ 12) i) ((List.zipWith (·++·) aa bO).getD i []):=fun i hi=>by
  have h2:i<bO.length:=by lia
  have m2:=aQ h2;rw [qk nO hi];refine fM.HG hq hi (fun z=>?_) (abV i hi);rw [getD_at h2];refine Yl (fun p h=>nas p (EZ _ m2 p h)) (fun p h=>(JH p (EZ _ m2 p h)).2.1.1 z) (wU _ m2) (fo.n2 z)
 have E12:∀i:Nat,1000≤gA q DA WA (10 ^ 12) i∧gA q DA WA (10 ^ 12) i<2 ^ 2048:=fun i=>by
  have:=fM.ge (X:=10 ^ 12) (by decide) i
  exact ⟨this.1,yp (aq this.2 (by decide +kernel))⟩
 have E1A:∀i:Nat,1000≤gA q DA WA 1 i∧gA q DA WA 1 i<2 ^ 2048:=fun i=>by
  have:=fM.ge (X:=1) (by decide) i
  exact ⟨this.1,yp (aq this.2 (by decide +kernel))⟩
 have E1B:∀i:Nat,1000≤gA q DB WB 1 i∧gA q DB WB 1 i<2 ^ 2048:=fun i=>by
  have:=fo.ge (X:=1) (by decide) i
  exact ⟨this.1,yp (aq this.2 (by decide +kernel))⟩
 have QT:∀{n:Nat},n≤3→n*(bA n*(10 ^ 67*(10 ^ 12) ^ 2))≤10 ^ 93:=fun h=>bX (X:=10 ^ 12) h (aH _) (by decide +kernel)
 have yq:∀{n:Nat},n≤3→n*(bA n*(10 ^ 67*1 ^ 2))≤10 ^ 75:=fun h=>bX (X:=1) h (aH _) (by decide +kernel)
 have JL:1000≤10 ^ 60:=by decide +kernel
 have JM:10 ^ 60<2 ^ 2048:=by decide +kernel
 refine ⟨z,a,D,q,10 ^ 60,10 ^ 67*(10 ^ 12) ^ 2,af.length,aa,bO,gA q DA WA (10 ^ 12),rfl,hz.mono k8,hq,hA.mono k8,tU.weak abT,JL,JM,n1,dF,nO,hm,wU,j_,Nt nO hm wU,abW,E12,fM.prod (by decide),yp (aq (QT n3) (by decide +kernel)),fun H5 AA M c LL last sE s5 R u4=>?_,fun H5 AA M c last sE hf s5 R AZ hF=>?_⟩
 ·have j6:oV q aa.length aa:=R.Nr hq rfl (nh nO) hm (fun i k hi hk=>vD nO hm hi hk) (nZ _ _) JF u4
  dsimp only [aT];simp only [bj,bq];refine ⟨_,rfl,rfl,_,rfl,fg ?_⟩;refine ⟨_,rfl,_,rfl,_,rfl,z,a,q,10 ^ 60,10 ^ 67*1 ^ 2,aa,gA q DA WA 1,rfl,hz.mono (k8.trans s5),hq,hA.mono (k8.trans s5),JL,JM,n1,dF,hm,fun i hi=>fM.N_ hq hi (z8 hq cA i),E1A,fM.prod (by decide),aq (yq n3) (by decide +kernel),j6,fun r1 A3 f1 H6 s6 Es kg A6 JN JO g1=>?_⟩
  have iQ:=k8.trans (s5.trans s6);refine ⟨_,rfl,_,rfl,z,q,af.length,0,rfl,hz.mono iQ,hq,j_,by lia,fun r2 H7 s7 IQ JP=>?_⟩
  have iA:=iQ.trans s7;refine ⟨z,r1,r2,q,10 ^ 75,A3,jV af.length 0,rfl,hz.mono iA,hq,(kg.mono s7).weak (yq n3),aI.weak (B:=10 ^ 60) JP (by decide +kernel),by decide +kernel,by decide +kernel,by lia,by rw [qc];lia,by rw [qc];lia,fun r3 H8 s8 JQ pQ=>?_⟩
  have JR:=kg.weak (yq n3);rw [A6,qc] at pQ;have A7:∀p∈A3,Canon q p:=fun p hp=>(kg.nums hq p hp).1;have row:=Ob (B:=10 ^ 75) (C:=1) hq pQ A7 (C8 hq) (fun z i=>JR.Oa (by decide +kernel) z i) (fun _ i=>HI) (by decide +kernel) (aH _)
  have own:=Od (n:=aa.length) (k:=af.length) hq (f:=f1) (g:=0) JO k1 g1 (by rw [GD k1,ak rfl])
  refine ⟨by show 3≤sizeLine;decide,fun tp A8=>?_⟩
  have st:=aS (o:=.tup [.str (Str.ofString "loose"),.int 0,.ref r3]) A8;exact kL tp r3 0 _ _ _ (iA.trans (s8.trans st)) aA (none_of iA JQ) ((row.weak (by decide +kernel)).mono st) C7 (Oc hq cA cB JI JJ A7 (C8 hq) A6 qc (.inl JN)) own.1 own.2 (.inl ⟨rfl,j6⟩)
 ·have QU:oX q aa.length aa:=R.G7 hq rfl (nh nO) hm (fun i k hi hk=>vD nO hm hi hk) (nZ _ _) JF
  obtain ⟨Hx,xx,AZ⟩:=AZ;have ab0:=AZ.nums hq;have QV:sE.length=aa.length:=by rw [R.len,eK]
  obtain ⟨i5,A9⟩:∃i5:List (List (Int×Int)),i5=sE.map fun ps=>ps.drop aa.length:=⟨_,rfl⟩;rw [←A9] at hF;have lf:i5.length=aa.length:=by rw [A9,bL,QV]
  have wf:∀ps∈i5,ps.length=af.length:=fun ps hp=>by rw [A9] at hp;obtain ⟨ps',h1,e⟩:=eZ.mp hp;rw [←e,nS,R.eF _ h1];lia
  have aio:=hF.b.nums hq;have JS:=QT n3;dsimp only [aT];simp only [bj,bq];refine ⟨_,rfl,rfl,_,rfl,cP ?_⟩;dsimp only [gq];have nJ:=k8.trans s5;have QW:=hF.b.weak JS;refine ⟨_,rfl,_,rfl,_,rfl,hf,q,10 ^ 93,i5,af.length,rfl,QW,by lia,by lia,wf,j_,fun cb H6 s6 ncb hC=>?_⟩
  have iQ:=nJ.trans s6;have lC:=nj af.length i5;have wC:∀ps∈eW af.length i5,ps.length=aa.length:=fun ps hp=>by rw [Nu _ _ ps hp,lf]
  have QX:=hC.nums hq;have ab2:∀i,i<af.length→∀p∈af.getD i []++(eW af.length i5).getD i [],Canon q p:=fun i hi p hp=>by
   have h2:i<(eW af.length i5).length:=by lia
   rw [getD_at hi,getD_at h2] at hp;rcases kh.mp hp with y | y;·exact (QR _ (aQ hi) p y).1
   ·exact (QX _ (aQ h2) p y).1
  have ab3:∀i,i<af.length→eE q (gA q DB WB (10 ^ 93) i) ((List.zipWith (·++·) af (eW af.length i5)).getD i []):=fun i hi=>by
   have h2:i<(eW af.length i5).length:=by lia
   rw [qk lC hi];refine fo.HG hq hi (fun zq=>?_) (ab2 i hi);subst zq;obtain ⟨Dc,dc1,QY,QZ⟩:=R.common;rw [nh nO] at QY QZ;refine ⟨Dc,dc1,aq QY JS,fun j hj=>?_⟩;have di:j<aa.length:=by rw [getD_at h2,wC _ (aQ h2)] at hj;exact hj
   have g:=Xh (m:=af.length) (i:=i) (j:=j) (aa:=i5) hi (by lia)
   rw [g,A9,Ng (by lia)]
   obtain ⟨x,e1,e2⟩:=QZ j (aa.length+i) (by simpa using di) (by lia)
   exact ⟨x,e1,aq e2 JS⟩
  have E93:∀i:Nat,1000≤gA q DB WB (10 ^ 93) i∧gA q DB WB (10 ^ 93) i<2 ^ 2048:=fun i=>by
   have:=fo.ge (X:=10 ^ 93) (by decide +kernel) i
   exact ⟨this.1,yp (aq this.2 (by decide +kernel))⟩
  have Q0:af.length*(bA af.length*(10 ^ 67*(10 ^ 93) ^ 2))≤10 ^ 255:=bX (X:=10 ^ 93) k3 (aH _) (by decide +kernel)
  have S1:C4 q aa.length af.length aa bO i5:=by rw [A9];exact R.N7 hq rfl nO hm wU JF (fun ps h1 p h2=>(JH p (EZ ps h1 p h2)).2.1) (fun i j=>((AZ.iM hq).at' hq i j).bot) (fun ps h1 p h2=>(ab0 ps h1 p h2).2.1) (AZ.rep hq QV R.eF)
  refine ⟨z,b,cb,q,10 ^ 93,10 ^ 67*(10 ^ 93) ^ 2,aa.length,af,eW af.length i5,gA q DB WB (10 ^ 93),rfl,hz.mono iQ,hq,(hB.mono iQ).weak (by decide +kernel),hC,by decide +kernel,by decide +kernel,k1,j_,lC,hu,wC,dF,Nt lC hu wC,ab3,E93,fo.prod (by decide +kernel),yp (aq Q0 (by decide +kernel)),fun H7 AA' M' c' LL' Hk A_ s7 R' ab7=>?_,fun H7 AA' M' c' Hk A_ hf' s7 R' Ba hF'=>?_⟩
  ·have j6:oV q af.length af:=R'.Nr hq rfl (nh lC) hu (fun i k hi hk=>vD lC hu hi hk) (nZ _ _) JG ab7
   dsimp only [aT];simp only [bj,bq];refine ⟨_,rfl,rfl,_,rfl,fg ?_⟩;have iA:=iQ.trans s7;refine ⟨_,rfl,_,rfl,_,rfl,z,q,aa.length,0,rfl,hz.mono iA,hq,dF,by lia,fun r2 H8 s8 IQ JP=>?_⟩
   have qD:=iA.trans s8;refine ⟨_,rfl,_,rfl,z,b,q,10 ^ 60,10 ^ 67*1 ^ 2,af,gA q DB WB 1,rfl,hz.mono qD,hq,hB.mono qD,JL,JM,k1,j_,hu,fun i hi=>fo.N_ hq hi (z8 hq cB i),E1B,fo.prod (by decide),aq (yq k3) (by decide +kernel),j6,fun r1 A3 f1 H9 s9 Es kg A6 JN JO g1=>?_⟩
   have uP:=qD.trans s9;refine ⟨z,r2,r1,q,10 ^ 75,jV aa.length 0,A3,rfl,hz.mono uP,hq,aI.weak (B:=10 ^ 60) (aI.mono (B:=10 ^ 60) JP s9) (by decide +kernel),kg.weak (yq k3),by decide +kernel,by decide +kernel,by rw [qc];lia,by lia,by lia,fun r3 qy mr JQ pQ=>?_⟩
   have JR:=kg.weak (yq k3);rw [A6,qc] at pQ;have A7:∀p∈A3,Canon q p:=fun p hp=>(kg.nums hq p hp).1;have row:=Ob (B:=1000) (C:=10 ^ 75) hq pQ (C8 hq) A7 (fun _ i=>⟨aq HI.1 (by decide),aq HI.2 (by decide)⟩) (fun z i=>JR.Oa (by decide +kernel) z i) (aH _) (by decide +kernel)
   have own:=Od (n:=aa.length) (k:=af.length) hq (f:=0) (g:=f1) n1 JO (by rw [GD n1,ak rfl]) g1
   refine ⟨by show 3≤sizeLine;decide,fun tp A8=>?_⟩
   have st:=aS (o:=.tup [.str (Str.ofString "loose"),.int 1,.ref r3]) A8;exact kL tp r3 1 _ _ _ (uP.trans (mr.trans st)) aA (none_of uP JQ) ((row.weak (by decide +kernel)).mono st) C7 (Oc hq cA cB JI JJ (C8 hq) A7 qc A6 (.inr JN)) own.1 own.2 (.inr ⟨rfl,QU,j6⟩)
  ·have ab_:oX q af.length af:=R'.G7 hq rfl (nh lC) hu (fun i k hi hk=>vD lC hu hi hk) (nZ _ _) JG
   have Q1:A_.length=af.length:=by rw [R'.len,eK]
   dsimp only [aT];simp only [bj,bq];refine ⟨_,rfl,rfl,_,rfl,cP ?_⟩;dsimp only [gq];have iA:=iQ.trans s7;have Q2:(A_.map fun ps=>ps.drop af.length).length=af.length:=by rw [bL,Q1]
   have Q3:∀ps∈A_.map fun ps=>ps.drop af.length,ps.length=aa.length:=fun ps hp=>by obtain ⟨ps',h1,e⟩:=eZ.mp hp;rw [←e,nS,R'.eF _ h1];lia
   have hW:=hF'.b.weak Q0;obtain ⟨Hx',xx',Ba⟩:=Ba;have aca:=Ba.nums hq;have S2:=R'.N7 hq rfl lC hu wC JG (fun ps h1 p h2=>(QX ps h1 p h2).2.1) (fun i j=>((Ba.iM hq).at' hq i j).bot) (fun ps h1 p h2=>(aca ps h1 p h2).2.1) (Ba.rep hq Q1 R'.eF);generalize (A_.map fun ps=>ps.drop af.length)=bB at hW Q2 Q3 S2;have JT:∀ps∈eW aa.length bB,ps.length=af.length:=fun ps hp=>by rw [Nu _ _ ps hp,Q2]
   refine ⟨_,rfl,hf',q,10 ^ 255,bB,aa.length,rfl,hW,by lia,by lia,Q3,dF,fun cb' H8 s8 ait hC'=>?_⟩
   refine ⟨cb',q,_,_,af.length,rfl,hC',by rw [nj];lia,JT,j_,fun r4 H9 s9 nr4 Eu=>?_⟩
   refine ⟨by show 2≤sizeLine;decide,fun tp A8=>?_⟩
   have st:=aS (o:=.tup [.str (Str.ofString "one"),.ref r4]) A8;obtain ⟨T0,D0,rT0⟩:=JI;obtain ⟨S0,E0,rS0⟩:=JJ;obtain ⟨X0,F0,rX0⟩:=QW.rep hq lf wf;have sol:=Yi (n:=aa.length) (k:=af.length) hq cA cB rT0 rS0 rX0 S1 S2 (as:=as) (xs:=(eW aa.length bB).flatten) (fun c j hc hj=>NO hc (by lia)) (fun i c hi hc=>by
    have sm:=small i hi;unfold atT;rw [QS i hi,cu,Fi hc,BD,←cu]) (fun j l hj hl=>by
    rw [Yp JT (by rw [nj];exact hj) hl]
    exact NO hj (by lia))
   exact kO tp r4 _ _ (iA.trans (s8.trans (s9.trans st))) aA (none_of (iA.trans s8) nr4) (Eu.mono st) (by rw [Yq JT,nj]) sol QU ab_
theorem aci:bF ["world","whole","aim","found","plain"] ["world","whole","aim","found"] (aU Ea):=bY
theorem acj(T:Txt K mg t):a7 P w K mg base cz 8 t.t7 t.xf ["world","whole","aim","found"] (YC t.cq):=by
 have S:=aci;refine T.xW.cN S (fun _ _ _ _ H vs _ _ hr h=>?_);obtain ⟨z,a,b,p,q,l,B,X,N,PP,P2,bB,as,G,G2,rfl,hz,hq,hT,hb,rfl,hm,n1,AF,la,sz,fd,k⟩:=h;have kZ:=hr.units
 refine ⟨_,(au (putL 4 S.nd (aM (aaa T) hr T.OB T.xy.kp T.OA iH (ae (pv 0) (ae (pv 1) (ae (pv 2) ai)))))
  (au (bQ (bJ il (aE bG (pv 3) aj) fV) (az (aR (mP (Yv (n:=2) kZ) (pv 4) (pv 3)))) bW)
  (az (aR (mP iE (aE bG (pv 4) aj) fV))))),?_⟩
 have nums:=hT.nums hq;have ack:=hb.nums hq;obtain ⟨T0,D0,rT⟩:=hT.rep hq rfl hm;have ba:∀p∈as,aF q p.2:=fun p hp=>(ack p hp).2.1;refine ⟨_,rfl,_,rfl,_,rfl,z,a,b,q,B,PP,P2,bB.length,bB,as,G,G2,rfl,hz,hq,hT,hb,sz.b1,sz.b2,n1,AF,hm,AF,la,sz.hE,sz.hG,sz.hP,sz.hX,sz.HK,sz.HL,sz.z9,sz.YB,fun pl r ys H1 s1 Bb kg dY bar _=>?_,fun pl r ys L H1 s1 Bb kg dY sol _ lead full=>?_,fun pl r t ys L eG H1 s1 Bb kg dY sol _ lead part _ _=>?_⟩
 ·dsimp only [aT]
  simp only [L2.start,cS,ib,fU,gU,List.replicate,gY,gC,bj,bq];cases fd with
  | one r' xs l0 e hx lx sol nk=>exact (Yy hq rT ba la (fun p hp=>(hx.nums hq p hp).2.1) (fun p hp=>(kg.nums hq p hp).2.1) lx dY sol bar).elim
  | loose r' ws f l0 e hx lx mv hf ef=>
   refine ⟨_,rfl,p,_,_,_,rfl,rfl,.of (s1 _ _ e),(by exact cK (j:=0) rfl),rfl,false,rfl,cP ?_⟩
   dsimp only [gq];exact ⟨_,rfl,pl,_,_,.str (Str.ofString "barred"),rfl,rfl,.of Bb,(by exact cK (j:=0) rfl),rfl,k H1 s1⟩
 ·dsimp only [aT]
  simp only [L2.start,cS,ib,fU,gU,List.replicate,gY,gC,bj,bq];cases fd with
  | one r' xs l0 e hx lx Q4 nk=>
   refine ⟨_,rfl,p,_,_,_,rfl,rfl,.of (s1 _ _ e),(by exact cK (j:=0) rfl),rfl,true,rfl,fg ?_⟩
   have eq:=Yx hq rT (nk _ _ rT) ba la (fun p hp=>(kg.nums hq p hp).1) (fun p hp=>(hx.nums hq p hp).1) dY lx sol Q4;subst eq;have hx1:=hx.mono s1;obtain ⟨us,eu,lu,fu⟩:=id kg;obtain ⟨vs,ev,lv,fv⟩:=id hx1;refine ⟨_,rfl,_,rfl,pl,p,_,_,rfl,rfl,.of Bb,.of (s1 _ _ e),rfl,fun j x y h1 h2=>?_,k H1 s1⟩
   match j,h1,h2 with
   | 0,h1,h2=>cases h1;cases h2;exact .inl ⟨rfl,rfl⟩
   | 1,h1,h2=>
    cases h1;cases h2;refine .inr ⟨r,r',us,vs,rfl,rfl,.inl ⟨.of eu,.of ev⟩,by lia,fun j x y g1 g2=>?_⟩
    have j1:j<us.length:=(aP.mp g1).1;have j2:j<ys.length:=by lia
    exact zH ((fu j x ys[j] g1 (by simp [j2])).jU hq) ((fv j y ys[j] g2 (by simp [j2])).jU hq) rfl 0
  | loose r' ws f l0 e hx lx mv hf ef=>
   obtain ⟨V,E',rV⟩:=jZ (fun p hp=>(hx.nums hq p hp).2.1) lx;have z:=C6 lead full rT (x:=V) (fun t ht=>mv T0 D0 V E' rT rV t ht) hf;have w:=rV.2 f hf;dsimp only at w;rw [ef] at w
   exfalso
   refine rV.1.nz hq ?_;obtain ⟨c1,e1⟩:=w;obtain ⟨c2,e2⟩:=z;exact ⟨c1+c2,by dsimp only at e1;rw [Int.mul_add];omega⟩
 ·dsimp only [aT]
  simp only [L2.start,cS,ib,fU,gU,List.replicate,gY,gC,bj,bq];cases fd with
  | one r' xs l0 e hx lx Q4 nk=>obtain ⟨x,c,hc,nz,pA⟩:=HF lead part rT;exact (nz (nk _ _ rT x pA c hc)).elim
  | loose r' ws f l0 e hx lx mv hf ef=>
   refine ⟨_,rfl,p,_,_,_,rfl,rfl,.of (s1 _ _ e),(by exact cK (j:=0) rfl),rfl,false,rfl,cP ?_⟩
   dsimp only [gq];exact ⟨_,rfl,pl,_,_,.str (Str.ofString "many"),rfl,rfl,.of Bb,(by exact cK (j:=0) rfl),rfl,k H1 s1⟩
variable {N:Nat} {r:Addr}
theorem Q5{u:V}(hu:cJ H q u 0 1)(e:H r=some (.lst (List.replicate (N:Int).toNat [u]).flatten)):∃us:List V,H r=some (.lst us)∧us.length=N∧∀(j:Nat) (y:V),us[j]?=some y→y=u∧cJ H q y 0 1:=by
 refine ⟨_,e,by rw [len_rep];simp,fun j y h=>?_⟩
 have hy:y=u:=by have:=pD h;obtain ⟨l',oO,uO⟩:=BB.mp this;rw [(yV.mp oO).2] at uO;exact i8.mp uO
 exact ⟨hy,hy▸hu⟩
theorem acn{X f:Nat}{u:V}{us ws:List V}{xs:aD}(hN:xs.length=N)(ew:H r=some (.lst ws))(lw:ws.length=xs.length)(fw:∀(i:Nat) (v:V) (p:Int×Int),ws[i]?=some v→xs[i]?=some p→bZ X H q v p.1 p.2)(hu:∀(j:Nat) (y:V),us[j]?=some y→y=u∧cJ H q y 0 1)(E3:cJ H q u 0 1)(hf:f<N)(ef:xs.getD f o1=(1,1)):∃e:Nat→Bool,(∀(j:Nat) (x y:V),ws[j]?=some x→us[j]?=some y→vI K H 2 x y (e j))∧(List.range ws.length).all e=false:=by
 obtain ⟨e,he⟩:=m7 (n:=N) (α:=Bool) (R:=fun j b=>∀x,ws[j]?=some x→vI K H 2 x u b∧(b=true→(xs.getD j o1).1=0)) fun j hj=>by
  have j1:j<ws.length:=by lia
  have j2:j<xs.length:=by lia
  have z:=fw j ws[j] xs[j] (by simp [j1]) (by simp [j2])
  obtain ⟨b,h1,h2⟩:=Yw (K:=K) z E3;refine ⟨b,fun x hx=>?_⟩;have:x=ws[j]:=by simpa [j1] using hx.symm
  subst this;rw [getD_at j2];exact ⟨h1,h2⟩
 refine ⟨e,fun j x y h1 h2=>?_,?_⟩
 ·have j1:j<ws.length:=(aP.mp h1).1
  rw [(hu j y h2).1];exact (he j (by lia) x h1).1
 ·cases y:(List.range ws.length).all e with
  | false=>rfl
  | true=>
   have j1:f<ws.length:=by lia
   have z:=k9.mp y f (fe.mpr j1);have w:=(he f hf ws[f] (by simp [j1])).2 z
   rw [ef] at w;exact absurd w (by decide)
theorem aco:bF ["p","whole","aim","loose","found","many","nought"] ["p","whole","aim","loose","found"] (aU D_):=bY
theorem acp(T:Txt K mg t):a7 P w K mg base cz 8 t.t6 t.xc ["p","whole","aim","loose","found"] YA:=by
 have S:=aco;refine T.xV.cN S (fun _ _ _ _ H vs _ E hr h=>?_);obtain ⟨a,b,p,q,l,B,X,N,bB,as,rfl,hq,hT,hb,rfl,eF,n1,dF,la,b1,x1,x2,fit,fd,k⟩:=h;have hu:=hr.Lq;have kZ:=hr.units
 refine ⟨_,(au (putL 5 S.nd (cD dN rfl T.dH dI (ae (pv 1) ai)))
  (au (putL 6 S.nd (u6 (mQ (pv 0) (fun _=>rfl)) aj (fZ (ae aj (ae aj ai)))))
  (au (bQ (PW.pt (pw_or (kz (iW (cD (oA (K:=K)) rfl T.nH boot_isinstance (ae (pv 4) (ae (ot (v:=.ty "tuple") rfl T.Aq boot_tuple rfl) ai))))) (pw_or1 (bJ iF (cD dN rfl T.dH dI (ae (pv 4) ai)) aj)))) (az (aR kx)) bW)
  (au (bQ (bJ iF (pv 3) aj) (au (bQ (PW.pt (pw_or (bJ iE (cD dN rfl T.dH dI (ae (pv 4) ai)) aj) (pw_or (bJ iE (aE bG (pv 4) aj) fV) (pw_or1 (kz (iW (aM (Qj T) hr T.Ig T.uw.kp T.Ie aX (ae (pv 0) (ae (aE bG (pv 4) aj) (ae (pv 5) ai)))))))))) (az (aR kx)) bW)
  (az (aR (mP (MD (n:=1) kZ) (gd (N:=["row","p","found"]) (ρ:=(fun σ=>[σ[0]?.join,σ[4]?.join])) (eS [0,4] rfl) rfl (e7 (pv 1)) (fun _ _ _=>.nil) (fun _ _ _=>(aM (EE T) hr T.uv T.mf.kp T.uu aX (ae (pv 1) (ae (pv 0) (ae (aE (p7 (K:=K)) (pv 2) aj) ai)))))) (pv 2))))) bW)
  (au (bQ (PW.pt (pw_or (bJ iE (cD dN rfl T.dH dI (ae (pv 4) ai)) aj) (pw_or (bJ iE (aE bG (pv 4) aj) fV) (pw_or (kz (iW (aM (EC T) hr T.Ag T.o8.kp T.Af aX (ae (aE bG (pv 4) aj) ai)))) (pw_or1 (bJ iE (aE bG (pv 4) aj) (pv 3))))))) (az (aR kx)) bW)
  (au (bQ (PW.pt (pw_or (kz (iW (aM (Qj T) hr T.Ig T.uw.kp T.Ie aX (ae (pv 0) (ae (aE bG (pv 4) aj) (ae (pv 5) ai)))))) (pw_or1 (bJ (Yt (n:=2) kZ) (aE bG (pv 4) aj) (aw rN (dM (ae (pv 6) ai)) (pv 5)))))) (az (aR kx)) bW)
  (az (aR (mP (MD (n:=1) kZ) (gd (N:=["row","p","found"]) (ρ:=(fun σ=>[σ[0]?.join,σ[4]?.join])) (eS [0,4] rfl) rfl (e7 (pv 1)) (fun _ _ _=>.nil) (fun _ _ _=>(aM (EE T) hr T.uv T.mf.kp T.uu aX (ae (pv 1) (ae (pv 0) (ae (aE (p7 (K:=K)) (pv 2) aj) ai)))))) (aw rN (dM (ae (pv 6) ai)) (pv 5))))))))))),?_⟩
 obtain ⟨vs,ea,lv,fv⟩:=id hT;have rT:=hT.rep hq rfl eF;have ab:∀p∈as,aF q p.2:=fun p hp=>(hb.nums hq p hp).2.1;refine ⟨_,rfl,a,vs,rfl,.inl (.of ea),?_⟩;rw [show (vs.length:Int)=(bB.length:Int) by lia]
 dsimp only [aT];simp only [L2.start,cS,ib,fU,gU,List.replicate,gY,gC,bj,bq];refine fT (gM (NV hq (.inl rfl) (fun Q' h=>⟨_,rfl,_,rfl,h⟩) (fun Q' h=>h) (fun Q' h=>⟨by show 2≤sizeLine;decide,h⟩) fun u H1 s1 hu1=>?_))
 dsimp only [aT];simp only [bj,bq];have fd1:=fd.mono s1;cases fd1 with
 | one r xs l0 e hx lx sol nk=>
  have JU:da [V.str (Str.ofString "one"),.ref r] 0=some (.str (Str.ofString "one")):=by exact cK (j:=0) rfl
  have Bc:da [V.str (Str.ofString "one"),.ref r] 1=some (.ref r):=by exact cK (j:=1) rfl
  have xb:∀p∈xs,aF q p.2:=fun p hp=>(hx.nums hq p hp).2.1;have nx:p_ H1 q r xs:=by obtain ⟨ws,e,l,f⟩:=id hx;exact ⟨ws,e,l,fun i v p h1 h2=>(f i v p h1 h2).jU hq⟩
  refine ⟨_,rfl,_,_,_,true,rfl,rfl,.of (.tup e),zu,true,rfl,cP ?_⟩;refine ⟨_,rfl,p,_,rfl,.inr (.of e),_,_,rfl,rfl,false,rfl,cP ?_⟩;dsimp only [gq];refine ⟨_,rfl,_,_,rfl,rfl,true,by (dsimp only;rw [dj l0]),fg ?_⟩
  refine ⟨_,rfl,p,_,rfl,.inr (.of e),rfl,false,rfl,cP ?_⟩;refine ⟨_,rfl,p,_,_,_,rfl,rfl,.of e,JU,rfl,false,rfl,cP ?_⟩;refine ⟨_,rfl,_,rfl,p,_,_,_,rfl,rfl,.of e,Bc,_,rfl,q,r,xs,_,rfl,nx,by lia,by lia,?_,fun H2 s2=>⟨true,rfl,cP ?_⟩⟩
  ·intro p hp
   obtain ⟨_,_,v,hv⟩:=hx.nums hq p hp;exact dq (hv.both x1).2 x2
  dsimp only [gq];have ke:=s1.trans s2;refine sk (NW (E:=E0) rfl hq (hT.mono ke) (hx.mono s2) eF dF dF (by lia) b1 (by lia) fit (fun r Hc R sc h=>⟨_,rfl,_,rfl,_,rfl,p,_,_,_,rfl,rfl,.of (sc _ _ (s2 _ _ e)),Bc,h⟩) fun D H3 nD s3 hN=>?_)
  have nN:=ke.trans s3;obtain ⟨ws,ec,lw,fw⟩:=hN;obtain ⟨vb,eb,lvb,fb⟩:=hb.mono nN;rw [bL] at lw;refine ⟨_,rfl,D,b,ws,vb,rfl,rfl,.of ec,.of eb,by lia,fun j x y h1 h2=>?_,k H3 nN⟩
  have j1:j<ws.length:=(aP.mp h1).1;have j2:j<bB.length:=by lia
  have j3:j<as.length:=by lia
  have zb:=fw j x _ h1 (by rw [cF,yZ j2];rfl)
  have w:=XF hq rfl eF la lx rT ab xb sol j2;rw [getD_at j2,getD_at j3] at w;have hy:=fb j y as[j] h2 (by simp [j3])
  exact zH (zb.Cv w (ab _ (aQ _))) (hy.jU hq) rfl 0
 | loose r xs f l0 e hx lx mv hf ef=>
  have JU:da [V.str (Str.ofString "loose"),.int l,.ref r] 0=some (.str (Str.ofString "loose")):=by exact cK (j:=0) rfl
  have Bc:da [V.str (Str.ofString "loose"),.int l,.ref r] 1=some (.int l):=by exact cK (j:=1) rfl
  have JV:da [V.str (Str.ofString "loose"),.int l,.ref r] 2=some (.ref r):=by exact cK (j:=2) rfl
  have xb:∀p∈xs,aF q p.2:=fun p hp=>(hx.nums hq p hp).2.1;have nx:p_ H1 q r xs:=by obtain ⟨ws,e,l,f⟩:=id hx;exact ⟨ws,e,l,fun i v p h1 h2=>(f i v p h1 h2).jU hq⟩
  refine ⟨_,rfl,_,_,_,true,rfl,rfl,.of (.tup e),zu,true,rfl,cP ?_⟩;refine ⟨_,rfl,p,_,rfl,.inr (.of e),_,_,rfl,rfl,false,rfl,cP ?_⟩;dsimp only [gq];refine ⟨_,rfl,_,_,rfl,rfl,false,by (dsimp only;rw [fq (by lia)]),cP ?_⟩
  dsimp only [gq];refine ⟨_,rfl,p,_,rfl,.inr (.of e),rfl,false,rfl,cP ?_⟩;refine ⟨_,rfl,p,_,_,_,rfl,rfl,.of e,JU,rfl,false,rfl,cP ?_⟩;refine ⟨_,rfl,p,_,_,_,rfl,rfl,.of e,Bc,_,rfl,.int _,true,rfl,cP ?_⟩;refine ⟨_,rfl,p,_,_,_,rfl,rfl,.of e,Bc,_,rfl,rfl,false,by rw [jO,dj rfl];rfl,cP ?_⟩
  dsimp only [gq];refine ⟨_,rfl,_,rfl,p,_,_,_,rfl,rfl,.of e,JV,_,rfl,q,r,xs,_,rfl,nx,by lia,by lia,?_,fun H2 s2=>⟨true,rfl,cP ?_⟩⟩
  ·intro p hp
   obtain ⟨_,_,v,hv⟩:=hx.nums hq p hp;exact dq (hv.both x1).2 x2
  have ke:=s1.trans s2;obtain ⟨ws,ew,lw,fw⟩:=id hx;have Q6:∀u:V,[u].length*(bB.length:Int).toNat≤sizeLine:=fun u=>aq (show [u].length*(bB.length:Int).toNat≤40 by simp;lia) (by decide)
  refine XT (sk ⟨_,rfl,p,_,_,_,rfl,rfl,.of (s2 _ _ e),JV,?_⟩);refine sk (zI ⟨_,rfl,by show 1≤sizeLine;decide,fun l7 E4=>?_⟩)
  have s3:ah H2 (upd H2 l7 (.lst [u])):=aS E4;refine ⟨_,rfl,l7,(bB.length:Int),[u],rfl,rfl,aA,by lia,by lia,Q6 u,fun l8 Q7=>?_⟩
  generalize upd H2 l7 (.lst [u])=H3 at s3 Q7 ⊢;have s4:ah H3 (upd H3 l8 (.lst (List.replicate (bB.length:Int).toNat [u]).flatten)):=aS Q7;have E5:=(hu1.mono s2).mono (s3.trans s4);obtain ⟨us,qC,Ju,Cd⟩:=Q5 E5 aA;generalize upd H3 l8 (.lst (List.replicate (bB.length:Int).toNat [u]).flatten)=H4 at s4 E5 qC Cd ⊢;have pz:=s2.trans (s3.trans s4);obtain ⟨e',he',Ga⟩:=acn (K:=K) (H:=H4) (r:=r) lx (pz _ _ ew) lw (fun i v p h1 h2=>(fw i v p h1 h2).mono pz) Cd E5 hf ef;refine ⟨r,l8,ws,us,e',rfl,rfl,.of (pz _ _ ew),.of qC,by lia,he',?_⟩
  rw [Ga];refine ⟨false,rfl,cP ?_⟩;dsimp only [gq];have k8:=s1.trans pz;refine sk (NW (E:=E0) rfl hq (hT.mono k8) (hx.mono pz) eF dF dF (by lia) b1 (by lia) fit (fun r Hc R sc h=>⟨_,rfl,_,rfl,_,rfl,p,_,_,_,rfl,rfl,.of (sc _ _ (pz _ _ e)),JV,h⟩) fun D H5 nD s5 hN=>?_)
  refine sk (zI ⟨_,rfl,by show 1≤sizeLine;decide,fun l9 nl9=>?_⟩)
  have s6:ah H5 (upd H5 l9 (.lst [u])):=aS nl9;refine ⟨_,rfl,l9,(bB.length:Int),[u],rfl,rfl,aA,by lia,by lia,Q6 u,fun JW Q8=>?_⟩
  generalize upd H5 l9 (.lst [u])=H6 at s6 Q8 ⊢;have s7:ah H6 (upd H6 JW (.lst (List.replicate (bB.length:Int).toNat [u]).flatten)):=aS Q8;have Q9:=E5.mono (s5.trans (s6.trans s7));obtain ⟨Av,Q_,aiv,Ra⟩:=Q5 Q9 aA;generalize upd H6 JW (.lst (List.replicate (bB.length:Int).toNat [u]).flatten)=H7 at s7 Q9 Q_ Ra ⊢;have mq:=s6.trans s7;obtain ⟨ds,ec,ld,fd'⟩:=p_.mono hN mq;rw [bL] at ld;refine ⟨D,JW,ds,Av,rfl,rfl,.of ec,.of Q_,by lia,fun j x y h1 h2=>?_,k H7 (k8.trans (s5.trans mq))⟩
  have j1:j<ds.length:=(aP.mp h1).1;have j2:j<bB.length:=by lia
  have zb:=fd' j x _ h1 (by rw [cF,yZ j2];rfl)
  have w:=XG hq rfl eF lx rT xb mv j2;rw [getD_at j2] at w;exact zH (zb.Cv w aF.one) (Ra j y h2).2 rfl 0
theorem acw{t:TE}{Q:VK}(P:V→Hp→Prop)(h:∀Q':VK,(∀v H',P v H'→Q' v H')→t σ H Q')(k:∀v H',P v H'→Q v H'):t σ H Q:=h Q k
variable {aa:aG}
theorem Rb{K1 K2:aJ}{a:Addr}{Q:VK}(e:σ[i]?=some (some (.ref a)))(h:bE B H q a aa)(dF:aa.length≤40)(k:∀D H',H D=none→ah H H'→bE B H' q D aa→Q (.ref D) H'):jM (BQ K1 (pM i)) (fun _=>[]) (fun _ H Q=>Q true H) (B0 (MF K2) (rC (pM 0) BZ)) σ H Q:=by
 obtain ⟨vs,ea,lv,fv⟩:=id h;refine iu (xs:=vs) (fun R h=>⟨_,e,a,rfl,⟨_,.of ea⟩,h _ _ (ah.refl _) (iI (.of ea))⟩) (by rw [lv];exact dO (by lia)) (fun D i y Hx=>∃x:Addr,y=.ref x∧x≠D∧aI B Hx q x (aa.getD i [])) (fun D i y Ha Hb ys ⟨x,h1,h2,h3⟩ e f=>⟨x,h1,h2,ng h3 h2 e f⟩) ?_ ?_
 ·intro D i v hi Hc R sc ⟨zs,eD⟩ kc
  have i1:i<vs.length:=(aP.mp hi).1;have i2:i<aa.length:=by lia
  obtain ⟨r,rfl,ws,ew,lw,fw⟩:=fv i v aa[i] hi (by simp [i2])
  refine ⟨_,rfl,r,ws,rfl,.inl (.of (sc _ _ ew)),fun b nb=>?_⟩;have sb:ah Hc (upd Hc b (.lst ws)):=aS nb;refine kc _ _ sb ⟨b,rfl,(fun e=>by rw [e,eD] at nb;cases nb),?_⟩
  rw [getD_at i2];exact ⟨ws,aA,lw,fun j v p h1 h2=>((fw j v p h1 h2).mono sc).mono sb⟩
 ·intro D ys Hc nD sc dY hP eD
  refine k D Hc nD sc ⟨ys,eD,by lia,fun i v ps h1 h2=>?_⟩
  obtain ⟨x,e1,_,e3⟩:=hP i v h1;have i2:i<aa.length:=(aP.mp h2).1;rw [getD_at i2] at e3;have:ps=aa[i]:=by simpa [i2] using h2.symm
  rw [this];exact ⟨x,e1,e3⟩
theorem Rc{t:TS}(S:Bool→Hp→Prop)(hc:∀Q:Bool→Hp→Prop,(∀b H',S b H'→Q b H')→c σ H Q)(kt:∀H',S true H'→t D σ H')(ku:∀H',S false H'→u D σ H'):u7 c t u D σ H:=hc _ fun b H' h=>by
 cases b with
 | true=>rw [ak rfl];exact kt H' h
 | false=>rw [ao dB];exact ku H' h
theorem Rf{B':Nat}(hq:aB q){a b:Addr}(h1:bE B H q a aa)(h2:bE B' H q b aa):sj K H 3 (.ref a) (.ref b):=by
 obtain ⟨vs,e1,l1,f1⟩:=h1;obtain ⟨us,e2,l2,f2⟩:=h2;refine .inr ⟨a,b,vs,us,rfl,rfl,.inl ⟨.of e1,.of e2⟩,by lia,fun j x y hx hy=>?_⟩
 have hj:j<aa.length:=by rw [←l1];exact (aP.mp hx).1
 obtain ⟨r1,rfl,g1⟩:=f1 j x aa[j] hx (by simp [hj])
 obtain ⟨r2,rfl,g2⟩:=f2 j y aa[j] hy (by simp [hj])
 exact V7 hq g1 g2 0
theorem acx:bF ["script","p","world","draw","n","k","one","other","whole","loose","handed","aims","aim","copy","found"] ["script"] (aU Eb):=bY
theorem acy(T:Txt K mg t):a7 P w K mg base cz 12 t.qp t.t8 ["script"] (Ck K):=by
 have S:=acx;refine T.xX.cN S (fun _ _ _ _ H _ _ _ hr h=>?_);obtain ⟨a,ns,rfl,hS,hlen,kQ⟩:=h;have kZ:=hr.units
 refine ⟨_,(au (eC 1 S.nd (aM (aaz T) hr T.O7 T.xR.kp T.O6 aX (ae (aM (yc T) hr T.ur T.me.kp T.uq aX (ae (pv 0) (ae aj ai))) ai)))
  (au (putL 2 S.nd (aM (aaD T) hr T.O9 T.xS.kp T.O8 aX (ae (pv 1) ai)))
  (au (putL 3 S.nd (aM (yc T) hr T.ur T.me.kp T.uq aX (ae (pv 0) (ae aj ai))))
  (au (putL 4 S.nd (aw gG aj (aw cV (pv 3) (u6 (mQ (pv 1) (fun _=>rfl)) aj aj))))
  (au (putL 5 S.nd (aw gG aj (aw cV (aw gw (pv 3) aj) (u6 (PW.pt (pw_and (mQ (pv 1) (fun _=>rfl)) (pw_and1 (bJ iF (pv 4) aj)))) aj aj))))
  (au (putL 6 S.nd (aM (Qx T) hr T.Ik T.uy.kp T.Ij aX (ae (pv 0) (ae (pv 1) (ae (pv 4) (ae (pv 4) (ae aj (ae aj ai))))))))
  (au (putL 7 S.nd (aM (Qx T) hr T.Ik T.uy.kp T.Ij aX (ae (pv 0) (ae (pv 1) (ae (pv 5) (ae (pv 5) (ae aj (ae aj ai))))))))
  (au (putL 8 S.nd (aM (abt T) hr T.Pc T.xU.kp T.Pb aX (ae (pv 1) (ae (pv 6) (ae (pv 7) ai)))))
  (au (putL 9 S.nd (FP FR aj))
  (au (bQ (bJ iF (aM (Ql T) hr T.Ii T.ux.kp T.Ih aX (ae (pv 1) (ae (pv 7) (ae (pv 5) ai)))) (pv 5)) (az (putL 9 S.nd aj)) bW)
  (au (bQ (bJ iF (aM (Ql T) hr T.Ii T.ux.kp T.Ih aX (ae (pv 1) (ae (pv 6) (ae (pv 4) ai)))) (pv 4)) (az (putL 9 S.nd aj)) bW)
  (au (putL 10 S.nd (dM (ae (gd (N:=["row"]) (ρ:=(fun σ=>[])) (eS [] rfl) rfl (e7 (pv 6)) (fun _ _ _=>.nil) (fun _ _ _=>(pU (Gy (K:=K)) rfl T.o_ boot_list (ae (pv 0) ai)))) (ae (gd (N:=["row"]) (ρ:=(fun σ=>[])) (eS [] rfl) rfl (e7 (pv 7)) (fun _ _ _=>.nil) (fun _ _ _=>(pU (Gy (K:=K)) rfl T.o_ boot_list (ae (pv 0) ai)))) ai))))
  (au (putL 11 S.nd (dM (ae (gd (N:=["i","p","script"]) (ρ:=(fun σ=>[σ[1]?.join,σ[0]?.join])) (eS [1,0] rfl) rfl (jF rfl T.gP (ae (aw fG (pv 4) (pv 5)) ai)) (fun _ _ _=>.nil) (fun _ _ _=>(aM (ED T) hr T.Ai T.o9.kp T.Ah aX (ae (pv 1) (ae (aM (yc T) hr T.ur T.me.kp T.uq aX (ae (pv 2) (ae (aw gG aj (pv 0)) ai))) ai))))) (ae (aw rN (dM (ae (u6 (mQ (pv 1) (fun _=>rfl)) aj (fZ (ae aj (ae aj ai)))) ai)) (aw fG (pv 4) (pv 5))) ai))))
  (au (ik fP rfl (e7 (aw B6 (pv 11) (B3 F3 (pv 11) FX (zi aj)))) (d_ (i:=12) S.nd rfl (Or.inl rfl))
   (au (putL 13 S.nd (pU B5 rfl T.o_ boot_list (ae (pv 12) ai)))
  (au (putL 14 S.nd (aM (abQ T) hr T.OH T.xC.kp T.OG iH (ae (pv 2) (ae (aE dc (pv 10) aj) (ae (aE dc (pv 10) aj) (ae (pv 13) ai))))))
  (au (bQ (PW.pt (pw_or (kz (iW (aM (acp T) hr T.Pe T.xV.kp T.Pd aX (ae (pv 1) (ae (pv 8) (ae (pv 12) (ae (pv 9) (ae (pv 14) ai)))))))) (pw_or1 (kz (iW (aM (acj T) hr T.Pg T.xW.kp T.Pf aX (ae (pv 2) (ae (pv 8) (ae (pv 12) (ae (pv 14) ai)))))))))) (az (aR kx)) bW)
  (au (bQ (PW.pt (pw_or (bJ (ME (n:=1) kZ) (pv 13) (pv 12)) (pw_or1 (bJ (ME (n:=3) kZ) (pv 10) (dM (ae (pv 6) (ae (pv 7) ai))))))) (az (aR kx)) bW)
  (az (mK (rJ qW yX yY mR (aE bG (pv 14) (aw jG (cD dN rfl T.dH dI (ae (pv 14) ai)) aj)) (ae aj ai)))))))))
  (az (aR kx)))))))))))))))),?_⟩
 refine ⟨_,rfl,a,ns,0,rfl,hS,by lia,by lia,fun H1 s1=>⟨_,rfl,fun q H2 s2 hq=>?_⟩⟩
 dsimp only [aT];simp only [L2.start,cS,ib,fU,gU,List.replicate,gY,gC,bj,bq];refine ⟨_,rfl,q,rfl,hq,fun z H3 s3 hz=>?_⟩;have fJ:bP K H3 a (ns.map V.int):=(s1.trans (s2.trans s3)).seq hS;dsimp only [aT];simp only [bj,bq];refine ⟨_,rfl,a,ns,1,rfl,fJ,by lia,by lia,fun H4 s4=>?_⟩
 have hz:=hz.mono s4;have JX:=s4.seq fJ;clear fJ hS s1 s2 s3 s4;have d0:=Cj ns 1;have d1:=Mj ns 1;generalize lP ns 1=d at d0 d1;dsimp only [aT];simp only [bj,bq];have wide:∀(w1 w2:Int) (Q':VK) (c:TT) (ta tb:TE) (σ:St),(∀w:Nat,1≤w→w≤3→(q=0→w≤2)→Q' (.int (w:Int)) H4)→(∀R:Bool→Hp→Prop,(∀b:Bool,(q=0→b=false)→R b H4)→c σ H4 R)→(∀R:VK,R (.int 3) H4→ta σ H4 R)→(∀R:VK,R (.int 2) H4→tb σ H4 R)→FC c ta tb σ H4 Q':=fun _ _ Q' c ta tb σ k hc ha hb=>hc _ fun b dW=>by
  cases b with
  | true=>exact fg (ha _ (k 3 (by decide) (by decide) fun z=>absurd (dW z) (by decide)))
  | false=>exact cP (hb _ (k 2 (by decide) (by decide) fun _=>by decide))
 have num:∀(e:Int) (w:Nat),0≤e→1≤w→w≤3→(q=0→w≤2)→∃n:Nat,1+e % (w:Int)=(n:Int)∧1≤n∧n≤3∧(q=0→n≤2):=fun e w e0 w1 w5 w3=>by
  have h1:=d4 e (show (w:Int)≠0 by lia)
  have h2:=d8 e (show (0:Int)<(w:Int) by lia)
  exact ⟨(1+e % (w:Int)).toNat,by lia,by lia,by lia,fun z=>by have:=w3 z;lia⟩
 have qb:q=0→(q != 0)=false:=fun z=>by rw [z];rfl
 refine ⟨_,rfl,wide 0 0 _ _ _ _ _ (fun w w1 w5 w3=>?_) (fun R h=>⟨_,rfl,_,rfl,h _ qb⟩) (fun R h=>h) (fun R h=>h)⟩;obtain ⟨n,en,n1,n3,n2⟩:=num d w d0 w1 w5 w3;refine ⟨_,_,rfl,rfl,(show (0:Int)<(w:Int) by lia),_,_,rfl,rfl,?_⟩
 dsimp only [aT];rw [en];simp only [bj,bq];clear en w1 w5 w3 w;refine ⟨_,rfl,_,_,rfl,rfl,⟨by decide,cC.of_lt (by decide) (by decide)⟩,wide 0 0 _ _ _ _ _ (fun w w1 w5 w3=>?_) (fun R h=>⟨_,rfl,_,rfl,(by
  by_cases z:q=0
  ·rw [qb z]
   exact cP (h false fun _=>rfl)
  ·rw [show (q != 0)=true by simpa using z]
   exact fg ⟨_,rfl,_,_,rfl,rfl,_,rfl,h _ fun y=>absurd y z⟩)⟩) (fun R h=>h) (fun R h=>h)⟩
 obtain ⟨k,ek,k1,k3,k2⟩:=num (d / 3) w (by lia) w1 w5 w3
 refine ⟨_,_,rfl,rfl,(show (0:Int)<(w:Int) by lia),_,_,rfl,rfl,?_⟩
 dsimp only [aT];rw [ek];simp only [bj,bq];clear ek w1 w5 w3 w wide num d0 d1;have hn:oT q n:=⟨by lia,fun z=>by have:=n2 z;lia⟩
 have hk:oT q k:=⟨by lia,fun z=>by have:=k2 z;lia⟩
 refine ⟨_,rfl,_,rfl,_,rfl,_,rfl,a,ns,q,n,n,2,4,rfl,JX,hq,n1,hn,n1,hn,n2,n2,by decide,by decide,fun ta H5 aa DA WA s5 tf ln wA hD hW hP hV=>?_⟩
 dsimp only [aT];simp only [bj,bq];have fM:iO q n aa DA WA:=⟨hD,hW,hP,hV,n3,n2⟩;have hA:=tf.b;have hz:=hz.mono s5;have JY:=s5.seq JX;clear s5 JX tf hD hW hP hV;refine ⟨_,rfl,_,rfl,_,rfl,_,rfl,a,ns,q,k,k,3,13,rfl,JY,hq,k1,hk,k1,hk,k2,k2,by decide,by decide,fun tb H6 af DB WB s6 tf lk wB hD hW hP hV=>?_⟩
 dsimp only [aT];simp only [bj,bq];have fo:iO q k af DB WB:=⟨hD,hW,hP,hV,k3,k2⟩;have hB:=tf.b;have hz:=hz.mono s6;have hA:=hA.mono s6;have Rg:=s6.seq JY;clear s6 JY tf hD hW hP hV;have cA:=hA.iM hq;have cB:=hB.iM hq;refine ⟨_,rfl,_,rfl,_,rfl,ta,tb,q,aa,af,n,k,rfl,hq,hA,hB,by lia,by lia,by lia,by lia,wA,wB,by lia,k1,by lia,fun tw H7 s7 _ hW=>?_⟩
 rw [ln,lk] at hW;have hW:=hW.dG hq cA cB hA.N5 hB.N5 (by decide) (by decide)
 dsimp only [aT];simp only [bj,bq];have hz:=hz.mono s7;have hA:=hA.mono s7;have hB:=hB.mono s7;have Rh:=s7.seq Rg;clear s7 Rg;obtain ⟨TA,D1,Bd⟩:=hA.rep hq ln wA;obtain ⟨TB,D2,Be⟩:=hB.rep hq lk wB;have z_:n*k≤9:=aZ n3 k3;have Ri:1≤n*k:=aZ n1 k1;have vJ:q=0→n*k≤4:=fun y=>aZ (n2 y) (k2 y);have Rj:∀{r:Nat},r≤3→(q=0→r≤2)→q=0→(2*(10 ^ 60) ^ (r+1)) ^ (2 ^ (r-2))<2 ^ 8192:=fun{r} r3 r2 y=>by have:=r2 y;exact dq (aq (Nat.pow_le_pow_left (gW 2 (eO (by decide +kernel) (show r+1≤3 by lia))) _) (eO (by decide +kernel) (show 2 ^ (r-2)≤1 by rw [show r-2=0 by lia];decide))) (by decide +kernel)
 refine fT (gM ⟨_,rfl,?_⟩);dsimp only [aT];simp only [bj,bq];refine fT (uJ fun R1 ET=>?_);have qz:∀(L2:List Nat) (l:Int) (H8:Hp),ah H7 H8→ix q k k af L2→(l=if L2.length<k then 1 else -1)→R1 [some (.ref a),some (.int q),some (.ref z),some (.int d),some (.int (n:Int)),some (.int (k:Int)),some (.ref ta),some (.ref tb),some (.ref tw),some (.int l),none,none,none,none,none] H8:=fun L2 l H8 s8 E6 el=>ET _ _ (by
  dsimp only;refine fT (uJ fun R2 EU=>?_);have fin2:∀(L1:List Nat) (l':Int) (H9:Hp),ah H7 H9→ix q n n aa L1→(l'=if L1.length<n then 0 else l)→R2 [some (.ref a),some (.int q),some (.ref z),some (.int d),some (.int (n:Int)),some (.int (k:Int)),some (.ref ta),some (.ref tb),some (.ref tw),some (.int l'),none,none,none,none,none] H9:=fun L1 l' H9 s9 E7 pj=>EU _ _ (by
   dsimp only;have qE:=hz.mono s9;have qF:=hA.mono s9;have qG:=hB.mono s9;have qH:=hW.mono s9;have E8:=s9.seq Rh;have JZ:(n:Int)*(k:Int)=((n*k:Nat):Int):=by rw [pK]
   refine fT (gM (zI (Rb rfl qF (by lia) fun c1 qy nc1 mr qI=>Rb rfl (qG.mono mr) (by lia) fun c2 ya nc2 AI qJ=>⟨by show 2≤sizeLine;decide,fun hd Rk=>?_⟩)))
   have ke:ah ya (upd ya hd (.lst [.ref c1,.ref c2])):=aS Rk;have qK:upd ya hd (.lst [.ref c1,.ref c2]) hd=some (.lst [.ref c1,.ref c2]):=aA;generalize upd ya hd (.lst [.ref c1,.ref c2])=H12 at ke qK ⊢;have yr:=mr.trans (AI.trans ke);have qI:=qI.mono (AI.trans ke);have qJ:=qJ.mono ke;have qE:=qE.mono yr;have qF:=qF.mono yr;have qG:=qG.mono yr;have qH:=qH.mono yr;have E8:=yr.seq E8;clear yr mr AI ke nc1 nc2 Rk ET EU hz hA hB hW Rh s9;dsimp only [aT];simp only [bj,bq];refine fT (gM (zI (XX (q:=q) (N:=n*k) (by lia) (fun R h=>⟨_,rfl,_,rfl,_,_,rfl,rfl,.inl ⟨by lia,by lia⟩,(n:Int)*(k:Int),rfl,by lia,by lia,h _ _ (ah.refl _) (by rw [JZ,df];exact oM)⟩) (fun i hi Hc R sc h=>⟨_,rfl,_,rfl,_,rfl,_,_,rfl,rfl,a,ns,_,rfl,sc.seq E8,by lia,by lia,fun H3 s3=>⟨q,_,rfl,hq,Cj ..,fun v x mm H4 s4 hN hb=>h v x mm H4 (s3.trans s4) hN hb⟩⟩) fun a1 H13 Rl na1 nN yt Rm Rn=>?_)))
   refine sk (zI (NV hq (.inl rfl) (fun Q' h=>⟨_,rfl,_,rfl,h⟩) (fun Q' h=>h) (fun Q' h=>⟨by show 2≤sizeLine;decide,h⟩) fun u E9 k8 Ro=>⟨by show 1≤sizeLine;decide,fun l7 E4=>?_⟩))
   have nJ:ah E9 (upd E9 l7 (.lst [u])):=aS E4;refine ⟨_,rfl,_,rfl,_,_,rfl,rfl,.inl ⟨by lia,by lia⟩,l7,(n:Int)*(k:Int),[u],rfl,rfl,aA,by lia,by lia,aq (show [u].length*((n:Int)*(k:Int)).toNat≤40 by rw [JZ];simp;lia) (by decide),fun a2 J0=>⟨by show 2≤sizeLine;decide,fun al Bf=>?_⟩⟩
   rw [JZ] at Bf ⊢;generalize upd E9 l7 (.lst [u])=E_ at nJ J0 Bf ⊢;have iQ:ah E_ (upd E_ a2 (.lst (List.replicate ((n*k:Nat):Int).toNat [u]).flatten)):=aS J0;have E3:bZ (10 ^ 6) E9 q u 0 1:=HC (p:=(0,1)) hq Ro aF.one (CV hq) (aO.refl _) fun _=>⟨by decide,by decide⟩
   have yu:aI (10 ^ 6) (upd E_ a2 (.lst (List.replicate ((n*k:Nat):Int).toNat [u]).flatten)) q a2 (List.replicate (n*k) ((0:Int),(1:Int))):=by
    refine ⟨_,aA,by rw [len_rep,df,List.length_replicate];simp,fun i v p h1 h2=>?_⟩
    have hy:v=u:=by have:=pD h1;obtain ⟨l',oO,uO⟩:=BB.mp this;rw [(yV.mp oO).2] at uO;exact i8.mp uO
    have hp:p=(0,1):=(yV.mp (pD h2)).2;rw [hy,hp];exact (E3.mono nJ).mono iQ
   generalize upd E_ a2 (.lst (List.replicate ((n*k:Nat):Int).toNat [u]).flatten)=Fb at iQ yu Bf ⊢;have iA:ah Fb (upd Fb al (.lst [.ref a1,.ref a2])):=aS Bf;have Fc:upd Fb al (.lst [.ref a1,.ref a2]) al=some (.lst [.ref a1,.ref a2]):=aA;generalize upd Fb al (.lst [.ref a1,.ref a2])=Fd at iA Fc ⊢;have J1:=k8.trans (nJ.trans (iQ.trans iA));have qL:=nN.trans J1;have yt:=yt.mono J1;have yu:=yu.mono iA;have acC:vC (List.replicate (n*k) ((0:Int),(1:Int))):=fun p hp=>by
    rw [(yV.mp hp).2]
    decide
   have qK:=qL _ _ qK;have qI:=qI.mono qL;have qJ:=qJ.mono qL;have qE:=qE.mono qL;have qF:=qF.mono qL;have qG:=qG.mono qL;have qH:=qH.mono qL;clear nN k8 nJ iQ iA J1 qL Bf J0 E4 Ro E3 na1 E8;dsimp only [aT];simp only [bj,bq];have e1:ip [V.ref a1,.ref a2] none (some 1)=[V.ref a1]:=V9 [V.ref a1,.ref a2] 1 (Nat.succ_le_succ (eJ _));refine fT ⟨_,rfl,_,rfl,_,rfl,al,_,rfl,.of Fc,fun sl Rp=>?_⟩;rw [e1];have qD:ah Fd (upd Fd sl (.lst [.ref a1])):=aS Rp;have J2:upd Fd sl (.lst [.ref a1]) sl=some (.lst [.ref a1]):=aA;generalize upd Fd sl (.lst [.ref a1])=Fe at qD J2 ⊢;refine ⟨al,sl,_,_,rfl,rfl,qD _ _ Fc,J2,by show 3≤sizeLine;decide,fun lp Rq=>?_⟩
   have uP:ah Fe (upd Fe lp (.lst ([V.ref a1,.ref a2]++[V.ref a1]))):=aS Rq;have J3:upd Fe lp (.lst ([V.ref a1,.ref a2]++[V.ref a1])) lp=some (.lst [V.ref a1,.ref a2,.ref a1]):=aA;generalize upd Fe lp (.lst ([V.ref a1,.ref a2]++[V.ref a1]))=Rr at uP J3 ⊢;have nP:=qD.trans uP;have qK:=nP _ _ qK;have yt:=yt.mono nP;have yu:=yu.mono nP;have qI:=qI.mono nP;have qJ:=qJ.mono nP;have qE:=qE.mono nP;have qF:=qF.mono nP;have qG:=qG.mono nP;have qH:=qH.mono nP;clear qD uP nP Rq Rp J2 Fc e1;have Jb:L1.length≤n:=by rw [C5 E7];exact aq (yO _ _) (by rw [eK];exact aH _)
   have le2:L2.length≤k:=by rw [C5 E6];exact aq (yO _ _) (by rw [eK];exact aH _)
   have kA:oV q n aa→L1.length<n:=fun⟨x,c,hc,nx,hx⟩=>gE fun ge=>by
    obtain ⟨e,he⟩:=C6 E7 (by lia) Bd (hx TA D1 Bd) hc
    exact nx ⟨e,by omega⟩
   have kB:oV q k af→L2.length<k:=fun⟨x,c,hc,nx,hx⟩=>gE fun ge=>by
    obtain ⟨e,he⟩:=C6 E6 (by lia) Be (hx TB D2 Be) hc
    exact nx ⟨e,by omega⟩
   have nA:oX q n aa→L1.length=n:=fun h=>gE fun ne=>by obtain ⟨x,c,hc,nx,hx⟩:=HF E7 ne Bd;exact nx (h TA D1 Bd x hx c hc)
   have nB:oX q k af→L2.length=k:=fun h=>gE fun ne=>by obtain ⟨x,c,hc,nx,hx⟩:=HF E6 ne Be;exact nx (h TB D2 Be x hx c hc)
   have hLK:=X6 hq cA cB Bd Be E7 E6;have nkW:L1.length=n→L2.length=k→∀T D,cE q (n*k) (n*k) (atT (dG q n n k k aa af)) T D→∀x:Nat→Int,(∀t,t<n*k→Cg q (ag (n*k) fun j=>T t j*x j) 0)→∀c,c<n*k→Cg q (x c) 0:=fun e1 e2 T D r x hx c hc=>C6 hLK (by rw [zZ,e1,e2]) r hx hc
   have fit:q=0→40*(10 ^ 60*10 ^ 60*10 ^ 255) ^ (n*k)<2 ^ 8192:=fun y=>dq (gW 40 (eO (by decide +kernel) (vJ y))) (by decide +kernel)
   refine ⟨lp,rfl,⟨_,.of J3⟩,?_⟩;refine rp (K:=K) (a:=lp) (xs:=[V.ref a1,.ref a2,.ref a1]) (fun i σ Hc=>ah Rr Hc∧∃mw mB J4:Option V,σ=[some (.ref a),some (.int q),some (.ref z),some (.int d),some (.int (n:Int)),some (.int (k:Int)),some (.ref ta),some (.ref tb),some (.ref tw),some (.int l'),some (.ref hd),some (.ref al),mw,mB,J4]) ⟨ah.refl _,_,_,_,rfl⟩ (fun i σ Hc _ ⟨sc,_⟩=>.of (sc _ _ J3)) ?_ ?_
   ·rintro i v σ Hc hi ⟨sc,mw,mB,J4,rfl⟩
    obtain ⟨ra,as,rfl,hR,nR,lR⟩:∃(ra:Addr) (as:aD),v=.ref ra∧aI (10 ^ 6) Rr q ra as∧vC as∧as.length=n*k:=by
     match i,hi with
     | 0,hi=>cases hi;exact ⟨a1,Rl,rfl,yt,Rn,Rm⟩
     | 1,hi=>cases hi;exact ⟨a2,_,rfl,yu,acC,by simp⟩
     | 2,hi=>cases hi;exact ⟨a1,Rl,rfl,yt,Rn,Rm⟩
    dsimp only [aT];simp only [bj,bq];obtain ⟨ws,ew,lw,fw⟩:=hR.mono sc;refine ⟨_,rfl,ra,ws,rfl,.inl (.of ew),fun cp ncp=>?_⟩;have s1:ah Hc (upd Hc cp (.lst ws)):=aS ncp;have J5:aI (10 ^ 6) (upd Hc cp (.lst ws)) q cp as:=⟨ws,aA,lw,fun i v p h1 h2=>(fw i v p h1 h2).mono s1⟩;generalize upd Hc cp (.lst ws)=Hd at s1 J5 ⊢;have mC:=sc.trans s1;have i7:da [V.ref c1,.ref c2] 0=some (.ref c1):=by exact cK (j:=0) rfl
    have at1:da [V.ref c1,.ref c2] 1=some (.ref c2):=by exact cK (j:=1) rfl
    dsimp only [aT];simp only [bj,bq];refine fT (gM (acw (fun v He=>∃(fp r:Addr) (av ys:List V),v=.ref fp∧ah Hd He∧Hd r=none∧He fp=some (.tup av)∧1≤av.length∧av.length≤3∧av[av.length-1]?=some (.ref r)∧He r=some (.lst ys)∧ys.length≤40∧qm q (n*k) (10 ^ 255) (dG q n n k k aa af) as He fp l') (fun Q' kq=>⟨_,rfl,_,rfl,hd,_,_,.ref c1,rfl,rfl,.of (mC _ _ qK),i7,_,rfl,hd,_,_,.ref c2,rfl,rfl,.of (mC _ _ qK),at1,_,rfl,z,c1,c2,cp,q,aa,af,as,n,k,DA,WA,DB,WB,rfl,qE.mono mC,hq,qI.mono mC,qJ.mono mC,J5,nR,ln,lk,wA,wB,n1,k1,lR,fM,fo,fun tp r s' ws' f He se uC nr hw lw' mv hf ef hs=>?_,fun tp r xs He se uC nr hx lx sol rE noB=>?_⟩) (fun v He hv=>?_)))
    ·obtain ⟨us,eu,lu,_⟩:=id hw
     refine kq _ He ⟨tp,r,_,us,rfl,se,nr,uC,(by show 1≤3;decide),(by show 3≤3;decide),rfl,eu,by lia,?_⟩
     have e3:s'=l':=by
      rcases hs with ⟨h1,h2⟩ | ⟨h1,h2,h3⟩;·rw [h1,pj,ak (kA h2)]
      ·have:=nA h2
       rw [h1,pj,ao (by lia),el,ak (kB h3)]
     subst e3;refine .loose _ r ws' f ?_ uC hw lw' mv hf ef;rcases hs with ⟨h1,_⟩ | ⟨h1,_⟩ <;> lia
    ·obtain ⟨us,eu,lu,_⟩:=id hx
     have e1:=nA rE;have e2:=nB noB;refine kq _ He ⟨tp,r,_,us,rfl,se,nr,uC,(by show 1≤2;decide),(by show 2≤3;decide),rfl,eu,by lia,.one _ r xs ?_ uC hx lx sol (nkW e1 e2)⟩
     rw [pj,ao (by lia),el,ao (by lia)]
     decide
    obtain ⟨fp,r,av,ys,rfl,se,nr,Ff,i1,i3,ir,er,ly,Rt⟩:=hv;have yf:=mC.trans se;have Ru:=(hR.weak (show 10 ^ 6≤10 ^ 60*10 ^ 60 by decide +kernel))
    dsimp only [aT];simp only [bj,bq];obtain ⟨P1,P2,G1,G2,szU⟩:=YD hq fM fo cA cB ln lk wA wB n1 k1 (fun p hp=>(hR.nums hq p hp).1) nR lR;refine ⟨_,rfl,_,rfl,_,rfl,_,rfl,_,rfl,tw,ra,fp,q,l',10 ^ 60*10 ^ 60,10 ^ 255,n*k,_,as,rfl,hq,qH.mono yf,Ru.mono yf,CY,CZ,Ri,by lia,lR,by decide +kernel,by decide +kernel,by decide +kernel,fit,Rt,fun Hf sf=>⟨true,rfl,cP ?_⟩⟩
    have Fg:=yf.trans sf;refine ⟨_,rfl,_,rfl,_,rfl,_,rfl,z,tw,ra,fp,q,l',10 ^ 60*10 ^ 60,10 ^ 255,n*k,P1,P2,_,as,G1,G2,rfl,qE.mono Fg,hq,qH.mono Fg,Ru.mono Fg,CY,CZ,Ri,by lia,lR,szU,Rt.mono sf,fun Hg sg=>⟨true,rfl,cP ?_⟩⟩
    have Rv:=Fg.trans sg;dsimp only [gq];refine ⟨_,rfl,_,rfl,V8 hq (J5.mono (se.trans (sf.trans sg))) (hR.mono Rv) ⟨_,rfl,cP ?_⟩⟩;refine ⟨_,rfl,_,rfl,_,rfl,by show 2≤sizeLine;decide,fun o2 no2=>?_⟩
    have s2:ah Hg (upd Hg o2 (.lst [.ref ta,.ref tb])):=aS no2;have Rw:upd Hg o2 (.lst [.ref ta,.ref tb]) o2=some (.lst [.ref ta,.ref tb]):=aA;generalize upd Hg o2 (.lst [.ref ta,.ref tb])=Hh at s2 Rw ⊢;have yv:=Rv.trans s2;refine ⟨hd,o2,_,_,rfl,rfl,.of (yv _ _ qK),.of Rw,rfl,fun j x y h1 h2=>?_,⟨_,rfl,cP ?_⟩⟩
    ·match j,h1,h2 with
     | 0,h1,h2=>cases h1;cases h2;exact Rf hq (qI.mono yv) (qF.mono yv)
     | 1,h1,h2=>cases h1;cases h2;exact Rf hq (qJ.mono yv) (qG.mono yv)
    dsimp only [gq];have Rx:=sf.trans (sg.trans s2);have atl:da av ((av.length:Int)-1)=some (.ref r):=by
     rw [show (av.length:Int)-1=((av.length-1:Nat):Int) by lia]
     exact cK ir
    have Ff:=Rx _ _ Ff;have er:=Rx _ _ er;refine Ct ⟨_,rfl,_,rfl,fp,av,rfl,.inr (.of Ff),_,_,rfl,rfl,fp,av,_,.ref r,rfl,rfl,.of Ff,atl,.inl ⟨rfl,_,.of er⟩,r,ys,_,rfl,rfl,er,dq (show ys.length≤100 by lia) (by decide),?_⟩
    exact ⟨dP yv (none_of mC nr),_,_,_,rfl⟩
   rintro σ H20 ⟨s20,mw,mB,J4,rfl⟩;exact kQ H20)
  have l1:∀L1:List Nat,ix q n n aa L1→True:=fun _ _=>trivial;refine Rc (fun b H'=>ah H7 H'∧∃L1,ix q n n aa L1∧b=decide (L1.length<n)) (fun Q' J6=>?_) (fun H9 ⟨s9,L1,h1,h2⟩=>?_) (fun H9 ⟨s9,L1,h1,h2⟩=>?_)
  ·refine ⟨_,rfl,_,rfl,_,rfl,q,ta,10 ^ 60,n,aa,rfl,hq,hA.mono s8,by lia,wA,by lia,by decide,by rw [ln];exact Rj n3 n2,fun L1 H9 s9 h1=>⟨_,rfl,_,_,rfl,rfl,_,rfl,J6 _ _ ⟨s8.trans s9,L1,by rw [ln] at h1;exact h1,?_⟩⟩⟩
   simp
  ·exact gM (fin2 L1 0 H9 s9 h1 (by rw [ak (by simpa using h2.symm)]))
  ·exact fin2 L1 l H9 s9 h1 (by rw [ao (by simpa using h2.symm)]))
 refine Rc (fun b H'=>ah H7 H'∧∃L2,ix q k k af L2∧b=decide (L2.length<k)) (fun Q' J6=>?_) (fun H8 ⟨s8,L2,h1,h2⟩=>?_) (fun H8 ⟨s8,L2,h1,h2⟩=>?_)
 ·refine ⟨_,rfl,_,rfl,_,rfl,q,tb,10 ^ 60,k,af,rfl,hq,hB,by lia,wB,by lia,by decide,by rw [lk];exact Rj k3 k2,fun L2 H9 s9 h1=>⟨_,rfl,_,_,rfl,rfl,_,rfl,J6 _ _ ⟨s9,L2,by rw [lk] at h1;exact h1,?_⟩⟩⟩
  simp
 ·exact gM (qz L2 1 H8 s8 h1 (by rw [ak (by simpa using h2.symm)]))
 ·exact qz L2 (-1) H8 s8 h1 (by rw [ao (by simpa using h2.symm)])
theorem acO{l:PySem.W.OpenLaw}(T:Txt K mg t):∃fd:FuncData,(∀(s:Shared) (v:Value),BindsTo s fd ⟨[v],[]⟩ [("script",v)])∧∀base:Heap,K.In base→base.Ns mainGlobals mg→a7 l.prog w K mg base cz 12 t.qp fd ["script"] (Ck K):=by obtain ⟨oc,od,kV,doc,pm,an,br,ct,gH,e,lk,gF⟩:=T.xX.ex;refine ⟨t.t8,fun s v=>?_,fun base _ _=>acy T⟩;rw [e];exact .of_eq rfl
end
theorem walk{l:PySem.W.OpenLaw}{q:Program}{loose:List Str}{XP:(Str→Option Value)→Heap→Prop}{YP:World→Heap→Prop}{d:DefRec}{K:Params→PySem.W.Frag}(hn:l.most=some 63)(zl:d.params.defaults=[])
  (hY:∀(w:World) (h:Heap),YP w h→(K w.params).In h)
  (F:∀(w:World) (mg:dU) (fa:Addr) (h:Heap),(K w.params).In h→h.Ns mainGlobals mg→mg d.name=some (.ref fa)→
   ∃fd:FuncData,(∀(s:Shared) (u:Value),BindsTo s fd ⟨[u],[]⟩ [("script",u)])∧∀base:Heap,(K w.params).In base→base.Ns mainGlobals mg→a7 l.prog w (K w.params) mg base cz 12 fa fd ["script"] (Ck (K w.params))) :
  PySem.W.WalkO q loose XP YP l.row.toRowW d [] (fun f vs=>PySem.call f vs):=
 L2.T8 (n:=63) (k:=12) (x:="script") (CX:=fun _=>cz) (sp:=fun w=>Ck (K w.params)) hn (by decide) zl ⟨rfl,by decide,by decide⟩ hY F (fun _ _ a ns hl _ hS=>⟨a,ns,rfl,hS,hl,fun _=>rfl⟩) fun _ _ _ _ _ z=>z
theorem acP{K:aJ}{h:Heap}{mg:dU}(X:K.In h)(G:h.Ns mainGlobals mg)
  {cq:Addr}
  {uc:Addr}
  {nF:Addr}
  {jt:Addr}
  {xn:Addr}
  {o5:Addr} {acQ Ry:Option Addr} {acR:Array (Option Value)} {acS Rz RA RB J7 RC:Value}
  {J8:Addr} {acT:Tok} {acU:Value} {acV:Option Addr} {acW:Nat} {acX:Array (Option Value)}
  {acY:Tok}
  {acZ:Tok}
  {ac0:Tok}
  {sF sG sI sJ sL sM sN sO sP sQ sR sS sU sV sW sX sY sZ s_ td tq tu tx tD tE tF tG tH tI tJ tK tL tM tN tO tP tQ tR tS tT tV tW qo tY tZ t4 t5 t6 t7 qp t9 t_ ua ub:Addr} {vK vL vM vN vO vP vQ vR vS vT vU vV vW vX vY vZ v_ wc wg wj wk wo wq wt wy wz wD wF wG wH wI wJ wK wL wM wN wO wQ wR wV wX wY tX wZ w6 w9 w_ xc xf t8 xg xh xi xj:FuncData}
  (J9:PySem.W.nsIn K mainGlobals "World"=some (some (.ref cq)))
  (J_:PySem.W.nsIn K mainGlobals "NoWorld"=some (some (.ref uc)))
  (Ka:PySem.W.nsIn K mainGlobals "NoOver"=some (some (.ref nF)))
  (Kc:PySem.W.nsIn K mainGlobals "NoFit"=some (some (.ref jt)))
  (Kd:PySem.W.nsIn K mainGlobals "WrightError"=some (some (.ref xn)))
  (ac1:mg "width"=some (.ref sF))
  (kY:aL K "width" De sF vK)
  (ac2:mg "square_size"=some (.ref sG))
  (qt:aL K "square_size" Df sG vL)
  (ac3:mg "check_aim"=some (.ref sI))
  (ud:aL K "check_aim" Dg sI vM)
  (ac4:mg "column"=some (.ref sJ))
  (xo:aL K "column" Dh sJ vN)
  (ac5:mg "columns"=some (.ref sL))
  (qu:aL K "columns" Di sL vO)
  (ac6:mg "one_table_row"=some (.ref sM))
  (ue:aL K "one_table_row" Dj sM vP)
  (ac7:mg "cleared"=some (.ref sN))
  (xp:aL K "cleared" Dk sN vQ)
  (ac8:mg "first_filled"=some (.ref sO))
  (xq:aL K "first_filled" Dm sO vR)
  (ac9:mg "swapped"=some (.ref sP))
  (xt:aL K "swapped" Dn sP vS)
  (ac_:mg "row_over"=some (.ref sQ))
  (xu:aL K "row_over" Dq sQ vT)
  (ada:mg "reduced"=some (.ref sR))
  (o6:aL K "reduced" Ds sR vU)
  (adb:mg "beside"=some (.ref sS))
  (qv:aL K "beside" Dt sS vV)
  (ade:mg "answer_of"=some (.ref sU))
  (uf:aL K "answer_of" Du sU vW)
  (adf:mg "move_of"=some (.ref sV))
  (ug:aL K "move_of" Dv sV vX)
  (adg:mg "bar_of"=some (.ref sW))
  (xv:aL K "bar_of" Dw sW vY)
  (adh:mg "undone"=some (.ref sX))
  (xy:aL K "undone" Dx sX vZ)
  (adi:mg "back_times"=some (.ref sY))
  (uh:aL K "back_times" Dy sY v_)
  (adj:mg "some_move"=some (.ref sZ))
  (uj:aL K "some_move" Dz sZ wc)
  (adk:mg "check_sizes"=some (.ref s_))
  (xA:aL K "check_sizes" DC s_ wg)
  (adl:mg "twofold_row"=some (.ref td))
  (uk:aL K "twofold_row" DD td wj)
  (adm:mg "joined"=some (.ref tq))
  (xB:aL K "joined" DE tq wk)
  (adn:mg "twofold_undone"=some (.ref tu))
  (xC:aL K "twofold_undone" DF tu wo)
  (ado:mg "is_whole"=some (.ref tx))
  (xD:aL K "is_whole" DG tx wq)
  (adp:mg "common_divisor"=some (.ref tD))
  (ma:aL K "common_divisor" DH tD wt)
  (adq:mg "is_prime"=some (.ref tE))
  (xF:aL K "is_prime" DI tE wy)
  (ads:mg "ratio"=some (.ref tF))
  (xG:aL K "ratio" DJ tF wz)
  (adt:mg "ratio_plus"=some (.ref tG))
  (xH:aL K "ratio_plus" DK tG wD)
  (adu:mg "ratio_minus"=some (.ref tH))
  (xI:aL K "ratio_minus" DL tH wF)
  (adv:mg "ratio_times"=some (.ref tI))
  (xJ:aL K "ratio_times" DM tI wG)
  (adw:mg "one_bottom"=some (.ref tJ))
  (xK:aL K "one_bottom" DN tJ wH)
  (adx:mg "remainder_back"=some (.ref tK))
  (xM:aL K "remainder_back" DO tK wI)
  (ady:mg "remainder_over"=some (.ref tL))
  (xN:aL K "remainder_over" DP tL wJ)
  (adz:mg "is_fractions"=some (.ref tM))
  (xO:aL K "is_fractions" DQ tM wK)
  (adA:mg "is_wheel"=some (.ref tN))
  (xP:aL K "is_wheel" DR tN wL)
  (adB:mg "_law_b_draw"=some (.ref tO))
  (me:aL K "_law_b_draw" DS tO wM)
  (adC:mg "_law_b_low"=some (.ref tP))
  (o7:aL K "_law_b_low" DT tP wN)
  (adD:mg "_law_b_prime"=some (.ref tQ))
  (xQ:aL K "_law_b_prime" DU tQ wO)
  (adE:mg "_law_b_wheel"=some (.ref tR))
  (xR:aL K "_law_b_wheel" DV tR wQ)
  (adF:mg "_law_b_world"=some (.ref tS))
  (xS:aL K "_law_b_world" DW tS wR)
  (adG:mg "_law_b_whole"=some (.ref tT))
  (o8:aL K "_law_b_whole" DX tT wV)
  (adH:mg "_law_b_is"=some (.ref tV))
  (xT:aL K "_law_b_is" DY tV wX)
  (adI:mg "_law_b_number"=some (.ref tW))
  (o9:aL K "_law_b_number" DZ tW wY)
  (adJ:mg "_law_b_dot"=some (.ref qo))
  (mf:aL K "_law_b_dot" D3 qo tX)
  (adK:mg "_law_b_is_row"=some (.ref tY))
  (uw:aL K "_law_b_is_row" D4 tY wZ)
  (adL:mg "_law_b_rank"=some (.ref tZ))
  (ux:aL K "_law_b_rank" D5 tZ w6)
  (adM:mg "_law_b_drawn"=some (.ref t4))
  (uy:aL K "_law_b_drawn" D8 t4 w9)
  (adN:mg "_law_b_twofold"=some (.ref t5))
  (xU:aL K "_law_b_twofold" D9 t5 w_)
  (adO:mg "_law_b_right"=some (.ref t6))
  (xV:aL K "_law_b_right" D_ t6 xc)
  (adP:mg "_law_b_as_plainly"=some (.ref t7))
  (xW:aL K "_law_b_as_plainly" Ea t7 xf)
  (adQ:mg "law"=some (.ref qp))
  (xX:aL K "law" Eb qp t8)
  (Ak:Mk K cq t9)
  (Aj:fS K "__init__" "World.__init__" Ec t9 xg)
  (Ke:PySem.W.findIn K (.ref cq) "of"=some (some (.ref o5)))
  (Kf:PySem.W.isFn K (.ref o5)=true)
  (yw:K.lookup o5=some ⟨acS,acQ,.func (PySem.W.fnOf "of" "World.of" (jK kX) (g8 kX) (aU kX) (.ref J8) Rz RA RB Ry J7 RC),acR⟩)
  (yy:PySem.W.codeIn K J7 "World.of"=true)
  (uQ:PySem.W.keepIn K (.ref o5)=true)
  (yz:K.lookup J8=some ⟨acU,acV,.seq #[.int 1 acT] acW,acX⟩)
  (Eo:Meth K cq "minus" t_)
  (Am:fS K "minus" "World.minus" Ed t_ xh)
  (Ep:Meth K cq "times" ua)
  (An:fS K "times" "World.times" Ee ua xi)
  (Er:Meth K cq "as_wholes" ub)
  (Ao:fS K "as_wholes" "World.as_wholes" Eg ub xj)
  (Kg:PySem.W.plainGet K cq Str.empty=true)
  (Kh:PySem.W.hasDictIn K cq=true)
  (Kl:PySem.W.plainOver K cq=true)
  (Km:PySem.W.findIn K (.ref cq) "__setattr__"=some (some (.builtin "object.__setattr__")))
  (Kn:PySem.W.findIn K (.ref cq) "prime"=some none)
  (Ko:PySem.W.nsIn K mainGlobals "len"=some none)
  (Kp:PySem.W.nsIn K mainGlobals "isinstance"=some none)
  (Kq:PySem.W.nsIn K mainGlobals "int"=some none)
  (Kr:PySem.W.nsIn K mainGlobals "bool"=some none)
  (Ks:PySem.W.nsIn K mainGlobals "tuple"=some none)
  (Ku:PySem.W.nsIn K mainGlobals "list"=some none)
  (Kv:PySem.W.nsIn K mainGlobals "range"=some none)
  (Kw:PySem.W.nsIn K mainGlobals "abs"=some none)
  (Kx:PySem.W.nsIn K mainGlobals "all"=some none)
  (Ky:PySem.W.nsIn K mainGlobals "any"=some none)
  (Kz:PySem.W.nsIn K mainGlobals "sum"=some none)
  (KA:PySem.W.nsIn K mainGlobals "zip"=some none)
  (KC:PySem.W.nsIn K mainGlobals "min"=some none)
  (KD:PySem.W.nsIn K mainGlobals "GREATEST_PRIME"=some (some (.int 997 acY)))
  (KG:PySem.W.nsIn K mainGlobals "LONG"=some (some (.int 2048 acZ)))
  (KH:PySem.W.nsIn K mainGlobals "MOST"=some (some (.int 40 ac0)))
  (KI:PySem.W.excIn K uc [.type "ValueError",.type "Exception",.type "BaseException",.type "object"] "ValueError.__new__"=true)
  (KJ:PySem.W.excIn K nF [.type "ValueError",.type "Exception",.type "BaseException",.type "object"] "ValueError.__new__"=true)
  (KL:PySem.W.excIn K jt [.type "ValueError",.type "Exception",.type "BaseException",.type "object"] "ValueError.__new__"=true)
  (KN:PySem.W.excIn K xn [.type "ValueError",.type "Exception",.type "BaseException",.type "object"] "ValueError.__new__"=true)
  : ∃t:HN,Txt K mg t:=by
 refine ⟨⟨sF,vK,sG,vL,sI,vM,sJ,vN,sL,vO,sM,vP,sN,vQ,sO,vR,sP,vS,sQ,vT,sR,vU,sS,vV,sU,vW,sV,vX,sW,vY,sX,vZ,sY,v_,sZ,wc,s_,wg,td,wj,tq,wk,tu,wo,tx,wq,tD,wt,tE,wy,tF,wz,tG,wD,tH,wF,tI,wG,tJ,wH,tK,wI,tL,wJ,tM,wK,tN,wL,tO,wM,tP,wN,tQ,wO,tR,wQ,tS,wR,tT,wV,tV,wX,tW,wY,qo,tX,tY,wZ,tZ,w6,t4,w9,t5,w_,t6,xc,t7,xf,qp,t8,t9,xg,o5,PySem.W.fnOf "of" "World.of" (jK kX) (g8 kX) (aU kX) (.ref J8) Rz RA RB Ry J7 RC,t_,xh,ua,xi,ub,xj,cq,uc,nF,jt,xn⟩,?_⟩
 exact {
  kY:=kY
  qr:=kY.b_
  qs:=ac1
  qt:=qt
  Ei:=qt.b_
  Ej:=ac2
  ud:=ud
  HP:=ud.b_
  HQ:=ac3
  xo:=xo
  Oj:=xo.b_
  Ol:=ac4
  qu:=qu
  Ek:=qu.b_
  El:=ac5
  ue:=ue
  HR:=ue.b_
  HS:=ac6
  xp:=xp
  Om:=xp.b_
  Oo:=ac7
  xq:=xq
  Oq:=xq.b_
  Ot:=ac8
  xt:=xt
  Ou:=xt.b_
  Ov:=ac9
  xu:=xu
  Ow:=xu.b_
  Ox:=ac_
  o6:=o6
  Ab:=o6.b_
  Ac:=ada
  qv:=qv
  Em:=qv.b_
  En:=adb
  uf:=uf
  HU:=uf.b_
  HV:=ade
  ug:=ug
  HW:=ug.b_
  HX:=adf
  xv:=xv
  Oy:=xv.b_
  Oz:=adg
  xy:=xy
  OA:=xy.b_
  OB:=adh
  uh:=uh
  HY:=uh.b_
  HZ:=adi
  uj:=uj
  H_:=uj.b_
  Ia:=adj
  xA:=xA
  OC:=xA.b_
  OD:=adk
  uk:=uk
  Ib:=uk.b_
  Ic:=adl
  xB:=xB
  OE:=xB.b_
  OF:=adm
  xC:=xC
  OG:=xC.b_
  OH:=adn
  xD:=xD
  OI:=xD.b_
  OJ:=ado
  ma:=ma
  um:=ma.b_
  uo:=adp
  xF:=xF
  OK:=xF.b_
  OL:=adq
  xG:=xG
  OM:=xG.b_
  ON:=ads
  xH:=xH
  OO:=xH.b_
  OP:=adt
  xI:=xI
  OQ:=xI.b_
  OR:=adu
  xJ:=xJ
  OS:=xJ.b_
  OT:=adv
  xK:=xK
  OU:=xK.b_
  OV:=adw
  xM:=xM
  OW:=xM.b_
  OX:=adx
  xN:=xN
  OY:=xN.b_
  OZ:=ady
  xO:=xO
  O0:=xO.b_
  O1:=adz
  xP:=xP
  O2:=xP.b_
  O3:=adA
  me:=me
  uq:=me.b_
  ur:=adB
  o7:=o7
  Ad:=o7.b_
  Ae:=adC
  xQ:=xQ
  O4:=xQ.b_
  O5:=adD
  xR:=xR
  O6:=xR.b_
  O7:=adE
  xS:=xS
  O8:=xS.b_
  O9:=adF
  o8:=o8
  Af:=o8.b_
  Ag:=adG
  xT:=xT
  O_:=xT.b_
  Pa:=adH
  o9:=o9
  Ah:=o9.b_
  Ai:=adI
  mf:=mf
  uu:=mf.b_
  uv:=adJ
  uw:=uw
  Ie:=uw.b_
  Ig:=adK
  ux:=ux
  Ih:=ux.b_
  Ii:=adL
  uy:=uy
  Ij:=uy.b_
  Ik:=adM
  xU:=xU
  Pb:=xU.b_
  Pc:=adN
  xV:=xV
  Pd:=xV.b_
  Pe:=adO
  xW:=xW
  Pf:=xW.b_
  Pg:=adP
  xX:=xX
  YF:=xX.b_
  Ph:=adQ
  Aj:=Aj
  Il:=Aj.b_
  Ak:=Ak
  Pj:=(Co (st:=kX) (i:=1) yw yy uQ yz)
  Pk:=jR.binds (ps:=["self","top","bottom"]) (Co (st:=kX) (i:=1) yw yy uQ yz) fun s dT kV doc pm an br ct tk o n us ho hd hl=>match us,hl with | [_,_,_],_=>.of_defaults rfl ho hd rfl rfl
  Al:=jR.Vk (ps:=["self","top","bottom"]) (Co (st:=kX) (i:=1) yw yy uQ yz) fun s dT kV doc pm an br ct tk o n us ho hd hl=>match us,hl with | [_,_],_=>.of_defaults rfl ho hd rfl rfl
  YG:=jR.Vl (ps:=["self","top","bottom"]) (y:="bottom") (Co (st:=kX) (i:=1) yw yy uQ yz) fun s dT kV doc pm an br ct tk o n us ws ho hd hw hl=>match ws,us,hw,hl with | [_],[_,_],_,_=>.of_defaults rfl ho hd rfl rfl
  nG:=⟨Ke,Kf,uQ⟩
  Am:=Am
  Pl:=Am.b_
  Eo:=Eo
  An:=An
  Pm:=An.b_
  Ep:=Ep
  Ao:=Ao
  Pn:=Ao.b_
  Er:=Er
  eX:=⟨Kg,Kh,Kl,Km⟩
  Im:=bN X G J9
  ju:=Kn
  Po:=bN X G J_
  Io:=bN X G Ka
  Ap:=bN X G Kc
  YH:=bN X G Kd
  dH:=jC X G Ko
  nH:=jC X G Kp
  Ip:=jC X G Kq
  Iq:=jC X G Kr
  Aq:=jC X G Ks
  o_:=jC X G Ku
  gP:=jC X G Kv
  Ar:=jC X G Kw
  Ir:=jC X G Kx
  Pp:=jC X G Ky
  Pq:=jC X G Kz
  mh:=jC X G KA
  Pr:=jC X G KC
  Pt:=⟨_,bN X G KD,_,rfl⟩
  Pu:=⟨_,bN X G KG,_,rfl⟩
  Pw:=⟨_,bN X G KH,_,rfl⟩
  Px:=KI
  Iu:=KJ
  As:=KL
  YI:=KN
 }
end My
namespace PySem.W.Fast
def tw15546013598038203795:Unit:=()
def tw7963269169140255187:Unit:=()
def tw17590463798098955039:Unit:=()
def tw7776966709670149352:Unit:=()
def tw13182205781827165183:Unit:=()
def tw10074352917887387976:Unit:=()
def tw4349571225856979845:Unit:=()
def tw2885631731402964342:Unit:=()
def tw3503838178797284468:Unit:=()
def tw9090484840870994539:Unit:=()
def tw8373241457826675247:Unit:=()
def tw14357740880362912179:Unit:=()
def tw10806464170973415109:Unit:=()
def tw15292132038820672929:Unit:=()
def tw10156336753192772237:Unit:=()
def tw13812652356958853108:Unit:=()
def tw6119866993570024805:Unit:=()
def tw15608023025147032676:Unit:=()
def tw10454730586154149367:Unit:=()
def tw4002254568639217272:Unit:=()
def tw1943525118468003255:Unit:=()
def tw1883891134900693442:Unit:=()
def tw11604791326641730984:Unit:=()
def tw12767715675521170391:Unit:=()
def tw13495351425822210097:Unit:=()
def tw15210478721560034071:Unit:=()
def tw921447779132127713:Unit:=()
def tw6250886707297593047:Unit:=()
def tw8919291422155092875:Unit:=()
def tw6692051266699292604:Unit:=()
def tw7943511159633210879:Unit:=()
def tw4861310070292013694:Unit:=()
def tw6731185266586340396:Unit:=()
def tw1034138527201373743:Unit:=()
def tw3472660916451726863:Unit:=()
def tw10096621838774739550:Unit:=()
def tw16416665417818751943:Unit:=()
def tw18314617241977414416:Unit:=()
def tw7892998079383676664:Unit:=()
def tw13385277378509115743:Unit:=()
def tw13308715773075164857:Unit:=()
def tw7387209442664823148:Unit:=()
def tw2715123608888628862:Unit:=()
def tw12271054954849001484:Unit:=()
def tw15756415163827618884:Unit:=()
def tw6322781251399035535:Unit:=()
def tw17439299041384957314:Unit:=()
def tw10936706283107559757:Unit:=()
def tw8785353749293018668:Unit:=()
def tw15210662091167485031:Unit:=()
def tw11173858159515922454:Unit:=()
def tw14146634328283893898:Unit:=()
def tw2199216763960987460:Unit:=()
def tw14695250531926836140:Unit:=()
def tw4928804140691785161:Unit:=()
def tw9435535877447840916:Unit:=()
def tw5053214177050341534:Unit:=()
def tw3165419897334993805:Unit:=()
def tw3069238985237985222:Unit:=()
def tw17165685499790541379:Unit:=()
def tw5978962621335825023:Unit:=()
def tw317822161798100861:Unit:=()
def tw16714700270912229211:Unit:=()
def tw12432368837652510634:Unit:=()
def tw17680100408090253876:Unit:=()
def tw4821457787957682436:Unit:=()
def tw13153720310720664354:Unit:=()
def tw2559449862619309458:Unit:=()
def tw8955907638122292759:Unit:=()
def tw10883085639624712870:Unit:=()
def tw11530878641590838005:Unit:=()
def tw15472658237402523870:Unit:=()
def tw13878754475343559860:Unit:=()
def tw7727798526217655712:Unit:=()
def tw11054207793629189226:Unit:=()
def tw5955381917292025543:Unit:=()
def tw13741203333443735326:Unit:=()
def tw8569402978141956786:Unit:=()
def tw2953542267503909943:Unit:=()
def tw14577926610924302479:Unit:=()
def tw13695614638711293340:Unit:=()
def tw7008137268131602632:Unit:=()
def tw14633322682046371027:Unit:=()
def tw14453847586029604315:Unit:=()
def tw17587826979771954704:Unit:=()
def tw3601809002058716992:Unit:=()
def tw8147859855820157081:Unit:=()
def tw6881311421200540727:Unit:=()
def tw4049170401864950656:Unit:=()
def tw13473565924836072561:Unit:=()
def tw10943554780421061667:Unit:=()
def tw1734661362111294959:Unit:=()
def tw8506823152598175815:Unit:=()
def tw7005230929720543907:Unit:=()
def tw4424695899146759640:Unit:=()
def tw364757301626019005:Unit:=()
def tw5420305211534766047:Unit:=()
def tw10748163249726184922:Unit:=()
def tw7380884914220747130:Unit:=()
def tw7286547681474714452:Unit:=()
def tw11801837943886572565:Unit:=()
def tw11888083771913969303:Unit:=()
def tw1457768055787157919:Unit:=()
def tw9009153447786026372:Unit:=()
def tw10091119251629835208:Unit:=()
def tw5494998763467718943:Unit:=()
def tw6234346086708119463:Unit:=()
def tw11110583176868150285:Unit:=()
def tw14763290579749689542:Unit:=()
def tw89553422351823915:Unit:=()
def tw12006318567257149069:Unit:=()
def tw3927818755479487801:Unit:=()
def tw17059904263625856283:Unit:=()
def tw13632080002974346471:Unit:=()
def tw8890618107513255978:Unit:=()
def tw6424735248345168094:Unit:=()
def tw15569194007336291009:Unit:=()
def tw2824250086790819049:Unit:=()
def tw6572027668811611725:Unit:=()
def tw6399500260270316975:Unit:=()
def tw5255234458893223021:Unit:=()
def tw15729587084442693550:Unit:=()
def tw17271683821902336389:Unit:=()
def tw12608129080122775263:Unit:=()
def tw1193815764094910196:Unit:=()
def tw11499283693229806788:Unit:=()
def tw4167334030967007242:Unit:=()
def tw3243708514951196954:Unit:=()
def tw5661136612545689476:Unit:=()
def tw12459119794208484375:Unit:=()
def tw14012619022457554044:Unit:=()
def tw6500696696187214291:Unit:=()
def tw5720245716025594058:Unit:=()
def tw10614861301480052994:Unit:=()
def tw12695518338346233677:Unit:=()
def tw189232240319570433:Unit:=()
def tw3297834765352251764:Unit:=()
def tw5392242825527778693:Unit:=()
def tw4933242879337916227:Unit:=()
def tw10001803038910153761:Unit:=()
def tw10762500419208016566:Unit:=()
def tw17269207758587612201:Unit:=()
def tw158386025777370853:Unit:=()
def tw7203113498394883203:Unit:=()
def tw2633273703837637770:Unit:=()
def tw10005987427981542370:Unit:=()
def tw4317359781626375546:Unit:=()
def tw12463925890696206006:Unit:=()
def tw6247169852873865067:Unit:=()
def tw8398750847809756860:Unit:=()
def tw16924016035294010514:Unit:=()
def tw9996966782070303382:Unit:=()
def tw3907693663822158043:Unit:=()
def tw16030386997045917294:Unit:=()
def tw12128252124136472111:Unit:=()
def tw7740686389736207671:Unit:=()
def tw2014459465450274173:Unit:=()
def tw5475542236728824676:Unit:=()
def tw11208827551637273562:Unit:=()
def tw7860060952272089077:Unit:=()
def tw13037978955389283788:Unit:=()
def tw5017830573355273469:Unit:=()
def tw18297927185869617488:Unit:=()
def tw15664138296634402692:Unit:=()
def tw14595388272733954751:Unit:=()
def tw8078339094784533819:Unit:=()
def tw12448499274311886866:Unit:=()
def tw15259550349624140413:Unit:=()
def tw7345953458180318175:Unit:=()
def tw12331935442377305769:Unit:=()
def tw12064297548463537186:Unit:=()
def tw5230351462454634226:Unit:=()
def tw16064051411586997027:Unit:=()
def tw2051247517537088369:Unit:=()
def tw1620526293440443765:Unit:=()
def tw1644378240101707246:Unit:=()
def tw6596951629799884906:Unit:=()
def tw11919666149190595606:Unit:=()
def tw4005930880487486995:Unit:=()
def tw4773777794509988379:Unit:=()
def tw4494552788873360376:Unit:=()
def tw17959022358675220438:Unit:=()
def tw12559134570354821578:Unit:=()
def tw5307459183196944478:Unit:=()
def tw7507158960642172441:Unit:=()
def tw1284480935549715491:Unit:=()
def tw9925067548184760802:Unit:=()
def tw18293561222460805479:Unit:=()
def tw2893932112628850403:Unit:=()
def tw16645974636573874584:Unit:=()
def tw9418807729150820338:Unit:=()
def tw3242320200792526028:Unit:=()
def tw16479507267815009660:Unit:=()
def tw11084194154706082131:Unit:=()
def tw16067323785390755001:Unit:=()
def tw7577362441491600222:Unit:=()
def tw16534269347550027898:Unit:=()
def tw6367204621840237333:Unit:=()
def tw11051437301531929734:Unit:=()
def tw13180187412948061369:Unit:=()
def tw5784482869218279043:Unit:=()
def tw2973321226304581658:Unit:=()
def tw11096561131774535991:Unit:=()
def tw16626039879290592360:Unit:=()
def tw11564053917092897147:Unit:=()
def tw15105688330145764354:Unit:=()
def tw207144908614793489:Unit:=()
def tw8770693112426878174:Unit:=()
def tw14634088418340126973:Unit:=()
def tw16244793123962376553:Unit:=()
def tw2394734591510893035:Unit:=()
def tw5159316522574683602:Unit:=()
def tw5960525296383287067:Unit:=()
def tw2039347335732591776:Unit:=()
def tw9442625938741306066:Unit:=()
def tw4003411156538404453:Unit:=()
def tw10109334484954895496:Unit:=()
def tw5703353887774068493:Unit:=()
def tw3100851321844901054:Unit:=()
def tw2750916065163335601:Unit:=()
def tw2689013326136680971:Unit:=()
def tw7454833042331464659:Unit:=()
def tw6199450355338846228:Unit:=()
def tw13058256395122590304:Unit:=()
def tw17622393049494273309:Unit:=()
def tw7590427015937702494:Unit:=()
def tw14077005051887934105:Unit:=()
def tw17022161821372224120:Unit:=()
def tw16544108714103273076:Unit:=()
def tw13788812761799095721:Unit:=()
def tw942426476074367753:Unit:=()
def tw5117946336130094292:Unit:=()
def tw9214318890022072969:Unit:=()
def tw12479076041520104434:Unit:=()
def tw8648807196431796115:Unit:=()
def tw9224140082404079198:Unit:=()
def tw8138883674498207547:Unit:=()
def tw11088574538950709892:Unit:=()
def tw9408585286513893205:Unit:=()
def tw16652362505810266936:Unit:=()
def tw10427583714400707570:Unit:=()
def tw1111534425327782289:Unit:=()
def tw14875850680054690026:Unit:=()
def tw9915689213380394688:Unit:=()
def tw11012268272824705756:Unit:=()
def tw7259947730166556128:Unit:=()
def tw10619501141418596568:Unit:=()
def tw6067349190747208973:Unit:=()
def tw10683311347972000446:Unit:=()
def tw6355065694483099841:Unit:=()
def tw15597849245325135994:Unit:=()
def tw18004671639649392414:Unit:=()
def tw9646464234635722311:Unit:=()
def tw7491706848152464767:Unit:=()
def tw9842624342608115716:Unit:=()
def tw15877683929256664170:Unit:=()
def tw2898453810504159955:Unit:=()
def tw15669130592766181746:Unit:=()
def tw6296189657802678597:Unit:=()
def tw4329152382653424525:Unit:=()
def tw3499673501590128201:Unit:=()
def tw8837601440605963121:Unit:=()
def tw9323370231120973626:Unit:=()
def tw5893439468014228759:Unit:=()
def tw13703508936295394758:Unit:=()
def tw551400539022809906:Unit:=()
def tw16724229444693816644:Unit:=()
def tw1077256724536284326:Unit:=()
def tw16218825885452677983:Unit:=()
def tw15370420498859209012:Unit:=()
def tw8434913805916748938:Unit:=()
def tw3371669953860004650:Unit:=()
def tw11112948598507884036:Unit:=()
def tw9440386381945262551:Unit:=()
def tw18377321996978214393:Unit:=()
def tw2315891000893745523:Unit:=()
def tw5239437517161381873:Unit:=()
def tw3130766739776809267:Unit:=()
def tw7471315459454952900:Unit:=()
def tw8221944313352896378:Unit:=()
def tw6752764933408830:Unit:=()
def tw4805691191558000200:Unit:=()
def tw10179519875564203608:Unit:=()
def tw7009811935098088355:Unit:=()
def tw13880063140540753986:Unit:=()
def tw14098830813435627588:Unit:=()
def tw7095033770418708276:Unit:=()
def tw6821155029169678060:Unit:=()
def tw10978638095573177528:Unit:=()
def tw345965772198005114:Unit:=()
def tw11414661616405051397:Unit:=()
def tw1520473064540854858:Unit:=()
def tw14150628352897127245:Unit:=()
def tw12600405841417959132:Unit:=()
def tw5695553457816868416:Unit:=()
def tw5131228917187301937:Unit:=()
def tw10144534431840422151:Unit:=()
def tw13114483042387772581:Unit:=()
def tw10295359902446745867:Unit:=()
def tw9714705191052407641:Unit:=()
def tw4403662236130384907:Unit:=()
def tw12435811689814440138:Unit:=()
def tw8662252708096668289:Unit:=()
def tw2671401133376266606:Unit:=()
def tw12638523679652770669:Unit:=()
def tw17451926723960822364:Unit:=()
def tw1556451704862269101:Unit:=()
def tw11510394667139016731:Unit:=()
def tw1352253601884840383:Unit:=()
end PySem.W.Fast
open PySem PySem.W PyProof.Rows
set_option maxRecDepth 100000 in
set_option maxHeartbeats 0 in
theorem PySem.Challenge.cw_bandwright_k68_whole_twofold_undone_holds : PySem.Challenge.rw_bandwright_k68_whole_twofold_undone.Holds := by
 w_on;o_law;k_head;(case hw=>w_witness2)
 k_fill
 refine My.walk (l:=PySem.Challenge.rw_bandwright_k68_whole_twofold_undone) rfl rfl (fun w h Y=>PySem.W.kIn_of Y) ?F
 case F=>
  intro w mg fa h KX G zm
  have T:∃t,My.Txt (L2.L3 KX) mg t:=by
   dsimp only [L2.L3]
   refine' My.acP KX G ?J9 ?J_ ?Ka ?Kc ?Kd (bN KX G ?adR) (L2.cf (st:=My.De) ?adS ?adT ?adU) (bN KX G ?adV) (L2.cf (st:=My.Df) ?adW ?adX ?adY) (bN KX G ?adZ) (L2.cf (st:=My.Dg) ?ad0 ?ad1 ?ad2) (bN KX G ?ad3) (L2.cf (st:=My.Dh) ?ad4 ?ad5 ?ad6) (bN KX G ?ad7) (L2.cf (st:=My.Di) ?ad8 ?ad9 ?ad_) (bN KX G ?aea) (L2.cf (st:=My.Dj) ?aeb ?aec ?aed) (bN KX G ?aee) (L2.cf (st:=My.Dk) ?aef ?aeg ?aeh) (bN KX G ?aei) (L2.cf (st:=My.Dm) ?aej ?aek ?ael) (bN KX G ?aem) (L2.cf (st:=My.Dn) ?aen ?aeo ?aep) (bN KX G ?aeq) (L2.cf (st:=My.Dq) ?aer ?aes ?aet) (bN KX G ?aeu) (L2.cf (st:=My.Ds) ?aev ?aew ?aex) (bN KX G ?aey) (L2.cf (st:=My.Dt) ?aez ?aeA ?aeB) (bN KX G ?aeC) (L2.cf (st:=My.Du) ?aeD ?aeE ?aeF) (bN KX G ?aeG) (L2.cf (st:=My.Dv) ?aeH ?aeI ?aeJ) (bN KX G ?aeK) (L2.cf (st:=My.Dw) ?aeL ?aeM ?aeN) (bN KX G ?aeO) (L2.cf (st:=My.Dx) ?aeP ?aeQ ?aeR) (bN KX G ?aeS) (L2.cf (st:=My.Dy) ?aeT ?aeU ?aeV) (bN KX G ?aeW) (L2.cf (st:=My.Dz) ?aeX ?aeY ?aeZ) (bN KX G ?ae0) (L2.cf (st:=My.DC) ?ae1 ?ae2 ?ae3) (bN KX G ?ae4) (L2.cf (st:=My.DD) ?ae5 ?ae6 ?ae7) (bN KX G ?ae8) (L2.cf (st:=My.DE) ?ae9 ?ae_ ?afa) (bN KX G ?afb) (L2.cf (st:=My.DF) ?afc ?afd ?afe) (bN KX G ?afg) (L2.cf (st:=My.DG) ?afh ?afi ?afj) (bN KX G ?afk) (L2.cf (st:=My.DH) ?afl ?afm ?afn) (bN KX G ?afo) (L2.cf (st:=My.DI) ?afp ?afq ?afr) (bN KX G ?afs) (L2.cf (st:=My.DJ) ?aft ?afu ?afv) (bN KX G ?afw) (L2.cf (st:=My.DK) ?afx ?afy ?afz) (bN KX G ?afA) (L2.cf (st:=My.DL) ?afB ?afC ?afD) (bN KX G ?afE) (L2.cf (st:=My.DM) ?afF ?afG ?afH) (bN KX G ?afI) (L2.cf (st:=My.DN) ?afJ ?afK ?afL) (bN KX G ?afM) (L2.cf (st:=My.DO) ?afN ?afO ?afP) (bN KX G ?afQ) (L2.cf (st:=My.DP) ?afR ?afS ?afT) (bN KX G ?afU) (L2.cf (st:=My.DQ) ?afV ?afW ?afX) (bN KX G ?afY) (L2.cf (st:=My.DR) ?afZ ?af0 ?af1) (bN KX G ?af2) (L2.cf (st:=My.DS) ?af3 ?af4 ?af5) (bN KX G ?af6) (L2.cf (st:=My.DT) ?af7 ?af8 ?af9) (bN KX G ?af_) (L2.cf (st:=My.DU) ?aga ?agb ?agc) (bN KX G ?agd) (L2.cf (st:=My.DV) ?age ?agf ?agg) (bN KX G ?agh) (L2.cf (st:=My.DW) ?agi ?agj ?agk) (bN KX G ?agl) (L2.cf (st:=My.DX) ?agm ?agn ?ago) (bN KX G ?agp) (L2.cf (st:=My.DY) ?agq ?agr ?ags) (bN KX G ?agt) (L2.cf (st:=My.DZ) ?agu ?agv ?agw) (bN KX G ?agx) (L2.cf (st:=My.D3) ?agy ?agz ?agA) (bN KX G ?agB) (L2.cf (st:=My.D4) ?agC ?agD ?agE) (bN KX G ?agF) (L2.cf (st:=My.D5) ?agG ?agH ?agI) (bN KX G ?agJ) (L2.cf (st:=My.D8) ?agK ?agL ?agM) (bN KX G ?agN) (L2.cf (st:=My.D9) ?agO ?agP ?agQ) (bN KX G ?agR) (L2.cf (st:=My.D_) ?agS ?agT ?agU) (bN KX G ?agV) (L2.cf (st:=My.Ea) ?agW ?agX ?agY) (bN KX G ?agZ) (L2.cf (st:=My.Eb) ?ag0 ?ag1 ?ag2) ⟨?ag3,?ag4,?ag5,?ag6⟩ (L2.cf (st:=My.Ec) ?ag7 ?ag8 ?ag9) ?Ke ?Kf ?yw ?yy ?uQ ?yz ⟨?ag_,?aha,?ahb⟩ (L2.cf (st:=My.Ed) ?ahc ?ahd ?ahe) ⟨?ahf,?ahg,?ahh⟩ (L2.cf (st:=My.Ee) ?ahi ?ahj ?ahk) ⟨?ahl,?ahm,?ahn⟩ (L2.cf (st:=My.Eg) ?aho ?ahp ?ahq) ?Kg ?Kh ?Kl ?Km ?Kn ?Ko ?Kp ?Kq ?Kr ?Ks ?Ku ?Kv ?Kw ?Kx ?Ky ?Kz ?KA ?KC ?KD ?KG ?KH ?KI ?KJ ?KL ?KN
   (case J9|J_|Ka|Kc|Kd|adR|adS|adT|adU|adV|adW|adX|adY|adZ|ad0|ad1|ad2|ad3|ad4|ad5|ad6|ad7|ad8|ad9|ad_|aea|aeb|aec|aed|aee|aef|aeg|aeh|aei|aej|aek|ael|aem|aen|aeo|aep|aeq|aer|aes|aet|aeu|aev|aew|aex|aey|aez|aeA|aeB|aeC|aeD|aeE|aeF|aeG|aeH|aeI|aeJ|aeK|aeL|aeM|aeN|aeO|aeP|aeQ|aeR|aeS|aeT|aeU|aeV|aeW|aeX|aeY|aeZ|ae0|ae1|ae2|ae3|ae4|ae5|ae6|ae7|ae8|ae9|ae_|afa|afb|afc|afd|afe|afg|afh|afi|afj|afk|afl|afm|afn|afo|afp|afq|afr|afs|aft|afu|afv|afw|afx|afy|afz|afA|afB|afC|afD|afE|afF|afG|afH|afI|afJ|afK|afL|afM|afN|afO|afP|afQ|afR|afS|afT|afU|afV|afW|afX|afY|afZ|af0|af1|af2|af3|af4|af5|af6|af7|af8|af9|af_|aga|agb|agc|agd|age|agf|agg|agh|agi|agj|agk|agl|agm|agn|ago|agp|agq|agr|ags|agt|agu|agv|agw|agx|agy|agz|agA|agB|agC|agD|agE|agF|agG|agH|agI|agJ|agK|agL|agM|agN|agO|agP|agQ|agR|agS|agT|agU|agV|agW|agX|agY|agZ|ag0|ag1|ag2|ag3|ag4|ag5|ag6|ag7|ag8|ag9|Ke|Kf|yw|yy|uQ|yz|ag_|aha|ahb|ahc|ahd|ahe|ahf|ahg|ahh|ahi|ahj|ahk|ahl|ahm|ahn|aho|ahp|ahq|Kg|Kh|Kl|Km|Kn|Ko|Kp|Kq|Kr|Ks|Ku|Kv|Kw|Kx|Ky|Kz|KA|KC|KD|KG|KH=>k_is)
   (case KI|KJ|KL|KN=>k_exc)
  obtain ⟨t,T⟩:=T
  have e0:=zm.symm.trans T.Ph
  cases e0
  exact My.acO T
#print axioms PySem.Challenge.cw_bandwright_k68_whole_twofold_undone_holds
