import PyProof.Rows.All
import Wide.All
import OpenK.AllK
import Wide.FinOn
import Lean
import PyProof.EqAt
import PyProof.EqKinds
import PyProof.TupleCall
import PySem.Challenge.RW_bandwright_k27_fewest_of_all_orders
set_option Elab.async false
set_option linter.all false
set_option maxRecDepth 100000
abbrev bW:=@decide_eq_false
abbrev sF:=@beq_eq_false_iff_ne
abbrev Bm:=@List.getElem?_eq_none_iff
abbrev ae:=@if_pos
abbrev aa:=@if_neg
abbrev aT:=@PySem.Heap.lt_size
abbrev dA:=@Nat.lt_of_lt_of_le
abbrev dG:=@Nat.lt_irrefl
abbrev bL:=@Nat.ne_of_lt
abbrev yh:=@PySem.W.hideAll_get
abbrev cu:=@List.mem_filter
abbrev b7:=@List.mem_range
abbrev a9:=@Nat.le_trans
abbrev ma:=@Nat.le_of_lt
abbrev yi:=@List.filterMap_cons
abbrev dy:=@List.mem_cons_self
abbrev cw:=@List.mem_cons_of_mem
abbrev cf:=@List.mem_cons
abbrev dg:=@List.mem_append
abbrev sG:=@List.mem_append_left
abbrev bM:=@List.getElem?_eq_some_iff
abbrev yj:=@List.getElem_inj
abbrev bC:=@PySem.wpAny_mono
abbrev md:=@PySem.wpAny_truthy_bool
abbrev eA:=@Array.length_toList
abbrev d8:=@congrArg
abbrev yk:=@PySem.wpAny_execs_nil
abbrev aC:=@PySem.wpAny_bind
abbrev kJ:=@PySem.wpAny_holding
abbrev o6:=@PySem.wpAny_standAt
abbrev o7:=@PySem.wpAny_passesOwn
abbrev dz:=@Bool.false_ne_true
abbrev bE:=@PySem.wpAny_pure
abbrev vG:=@Bool.false_and
abbrev vH:=@PySem.wpAny_pyIter_list
abbrev bX:=@PySem.Heap.get?_push_of_some
abbrev dH:=@PySem.Heap.get?_push_size
abbrev ax:=@Nat.le_refl
abbrev yl:=@PyProof.Rows.callWith_type1
abbrev dI:=@List.mem_append_right
abbrev ba:=@Nat.zero_le
abbrev nF:=@Bool.eq_iff_iff
abbrev iD:=@PySem.sizeLine_eq
abbrev iW:=@PySem.W.kia_one
abbrev o8:=@List.append_nil
abbrev vI:=@PySem.wpAny_Call_Name_kw
abbrev jj:=@List.nodup_cons
abbrev Bn:=@Option.isSome_iff_exists
abbrev me:=@List.length_take
abbrev jR:=@PySem.mem_of_lookup
abbrev gU:=@List.getElem?_append_right
abbrev gW:=@List.getElem?_append_left
abbrev bP:=@List.getElem?_map
abbrev iX:=@List.mem_of_getElem?
abbrev dh:=@List.length_append
abbrev aD:=@List.length_map
abbrev eB:=@List.length_cons
abbrev vJ:=@List.length_nil
abbrev bQ:=@decide_eq_true
abbrev Bo:=@PySem.F.slot_tuple_add
abbrev Bp:=@PySem.F.entry_tuple_add
abbrev Bq:=@PySem.F.args_tuple_add_2
abbrev bR:=@List.size_toArray
abbrev cZ:=@Int.toNat_natCast
abbrev sI:=@List.map_nil
abbrev di:=@List.map_cons
abbrev vK:=@List.length_drop
abbrev jS:=@if_true
abbrev kK:=@Bool.and_eq_true
abbrev o9:=@List.any_cons
abbrev sJ:=@List.replicate_succ
abbrev vL:=@List.flatten_cons
abbrev iE:=@Nat.le_succ
abbrev gm:=@List.append_assoc
abbrev nG:=@PySem.call_meets
abbrev kL:=@List.length_singleton
abbrev Br:=@Array.getElem?_toList
abbrev Bs:=@List.eraseIdxIfInBounds_toArray
abbrev b_:=@PySem.W.mg_of
abbrev gX:=@Nat.lt_of_le_of_lt
abbrev Bt:=@PySem.F.typeOf_object_class
abbrev vM:=@PySem.wpAny_loadPart_at
abbrev nH:=@PySem.codeAny_builtin
abbrev mf:=@List.all_eq_true
abbrev ym:=@List.forall_mem_cons
abbrev yn:=@PySem.wpAny_comprehension_free
abbrev sL:=@PySem.wpAny_newObj_type
abbrev Bu:=@PySem.codeAny_compLoop_tests
abbrev nI:=@PySem.lookup_relabel_local
abbrev yo:=@PySem.wpAny_tests_nil
abbrev yp:=@PySem.wpAny_tests_one
abbrev yq:=@PySem.codeAny_compStart_list
abbrev dm:=@Int.le_of_lt
abbrev dB:=@List.getD_eq_getElem?_getD
abbrev bY:=@List.mem_singleton
abbrev dt:=@List.length_range
abbrev o_:=@List.getElem?_range
abbrev yr:=@beq_self_eq_true
abbrev cS:=@List.getElem_mem
abbrev vO:=@Nat.pow_le_pow_right
abbrev pb:=@Nat.sub_self
abbrev gp:=@List.take_length
abbrev ph:=@List.not_mem_nil
abbrev kM:=@Nat.lt_succ_of_lt
abbrev yt:=@List.lookup_cons
abbrev Bv:=@List.getElem?_eq_none
abbrev eN:=@List.map_append
abbrev iF:=@List.map_congr_left
abbrev gY:=@List.ext_getElem
abbrev ar:=@PyProof.Rows.wpS_bind
abbrev iY:=@PyProof.Rows.wpS_get
abbrev aq:=@PyProof.Rows.wpS_pure
abbrev fK:=@PyProof.Rows.wpS_forRange
abbrev fW:=@PyProof.Rows.wpS_mono
abbrev vP:=@List.pairwise_append
abbrev pj:=@List.perm_append_comm
abbrev pA:=@List.take_append_drop
abbrev yu:=@List.Perm.append_left
abbrev sM:=@List.take_of_length_le
abbrev sN:=@List.getElem_of_mem
abbrev jl:=@Int.le_refl
abbrev mh:=@List.pairwise_iff_getElem
abbrev jT:=@PyProof.Rows.wpS_modify
abbrev fz:=@of_decide_eq_true
abbrev dq:=@Int.le_trans
abbrev nJ:=@Array.toList_push
abbrev kO:=@Array.toList_append
abbrev kP:=@PySem.wpAny_rule
abbrev Bw:=@List.pairwise_reverse
abbrev sO:=@Array.toList_reverse
abbrev nK:=@List.mem_reverse
abbrev nM:=@List.reverse_perm
abbrev d9:=@Nat.zero_add
abbrev sP:=@Nat.not_lt_zero
abbrev vQ:=@Nat.add_zero
abbrev nN:=@Array.perm_iff_toList_perm
abbrev bx:=@List.getElem?_eq_getElem
abbrev vR:=@decide_eq_decide
abbrev cm:=@List.map_map
abbrev nO:=@PyProof.Rows.get?_update_seq
abbrev vS:=@PySem.Heap.size_update
abbrev nQ:=@PySem.Heap.get?_push_ne
abbrev pB:=@PyProof.Rows.size_push'
abbrev sQ:=@PySem.Heap.get?_update_ne
abbrev sR:=@PyProof.Rows.listUpdate_at
abbrev sS:=@PySem.wpAny_newList
abbrev yv:=@Bool.false_eq_true
abbrev Bx:=@List.length_eq_zero_iff
abbrev jm:=@List.nodup_range
abbrev fX:=@List.getElem_map
abbrev pC:=@List.getElem_range
abbrev pD:=@List.nodup_nil
abbrev cx:=@List.mem_map
abbrev fL:=@Int.eq_ofNat_of_zero_le
abbrev jo:=@List.take_succ
abbrev mj:=@List.pairwise_cons
abbrev kT:=@List.nodup_append
abbrev yw:=@Nat.add_sub_cancel
abbrev pE:=@List.filter_append
abbrev mq:=@List.length_filter_le
abbrev pF:=@List.pairwise_map
abbrev yy:=@List.pairwise_lt_range
abbrev sU:=@List.find?_cons
abbrev yA:=@PySem.tupleKind_room_in1
abbrev yB:=@List.any_eq_true
abbrev eY:=@decide_eq_true_iff
abbrev mr:=@List.idxOf_lt_length_of_mem
abbrev yC:=@List.getElem_idxOf
abbrev yE:=@List.filter_map
abbrev sV:=@List.map_id
abbrev By:=@List.nodup_iff_pairwise_ne
abbrev sW:=@List.perm_ext_iff_of_nodup
abbrev vT:=@List.mem_take_iff_getElem
abbrev yF:=@List.idxOf_cons_self
abbrev eZ:=@List.sum_cons
abbrev nR:=@List.filter_cons
abbrev sX:=@Bool.true_and
abbrev nS:=@List.idxOf_append
abbrev Bz:=@List.pairwise_singleton
abbrev pG:=@PySem.Heap.SameBut.update
abbrev yG:=@PySem.F.entry_min_loop
abbrev pH:=@PySem.Around.under_plainId
abbrev nU:=@PySem.F.plain_min_loop
abbrev vU:=@PySem.wpAny_tryCatch
abbrev sY:=@PySem.plainId_quiet
abbrev kU:=@Int.zero_add
abbrev yH:=@List.map_eq_nil_iff
abbrev yI:=@Classical.byContradiction
abbrev yJ:=@List.filter_eq_nil_iff
abbrev BA:=@List.mem_of_mem_erase
abbrev jU:=@Nat.add_le_add_left
abbrev dJ:=@PySem.PassesOwn.never
abbrev fN:=@PySem.boot_len
abbrev fA:=@PySem.F.plainAttrs_list
abbrev BB:=@PySem.F.slot_list_pop
abbrev BC:=@PySem.F.type_list_pop
abbrev jq:=@PySem.F.slot_list_append
abbrev jr:=@PySem.F.type_list_append
abbrev pI:=@PyProof.Rows.boot_sorted
abbrev mB:=@Int.emod_nonneg
abbrev pJ:=@Int.emod_lt_of_pos
abbrev yK:=@Int.ediv_nonneg
abbrev sZ:=@Nat.mul_le_mul
abbrev gZ:=@PySem.W.mg_none_of
abbrev Xt:=List (List (Int×Int))
abbrev aw:=List (Int×Int)
abbrev XB:=Nat→Nat→Int
abbrev du:=PySem.Str→Option PySem.Value
abbrev aK:=PySem.Value→PySem.Shared→Prop
abbrev aH:=PySem.W.Frag
abbrev aQ:=List (PySem.Addr×PySem.Obj)
namespace L2
open PySem PySem.Spec PyProof.Rows
abbrev Key:=Sum Int Str
def pK:Key→Value→Bool
 | .inl k,v=>Value.isInt k v
 | .inr x,v=>Value.isStrOf x v
def LM(w:World):Key→Int
 | .inl k=>hashInt k
 | .inr x=>hashStr w x
theorem kW:∀{k:Key} {v:Value},pK k v=true→(∃i t,k=Sum.inl i∧v=Value.int i t)∨(∃x t,k=Sum.inr x∧v=Value.str x t)
 | .inl i,v,h=>by obtain ⟨t,e⟩:=Value.isInt_shape (k:=i) (v:=v) h;exact .inl ⟨i,t,rfl,e⟩
 | .inr x,v,h=>by obtain ⟨t,e⟩:=Value.isStrOf_shape (x:=x) (v:=v) h;exact .inr ⟨x,t,rfl,e⟩
theorem LN(i:Int)(t:Tok):pK (.inl i) (.int i t)=true:=by simp [pK,Value.isInt]
theorem LO(x:Str)(t:Tok):pK (.inr x) (.str x t)=true:=by simp [pK,Value.isStrOf]
theorem LP(a b:Int):decide ((Sum.inl a:Key)=Sum.inl b)=(a == b):=by
 by_cases e:a=b;·subst e;simp
 ·have h:¬(Sum.inl a:Key)=Sum.inl b:=fun q=>e (Sum.inl.inj q)
  rw [bW h];exact (sF.mpr e).symm
theorem LQ(a b:Str):decide ((Sum.inr a:Key)=Sum.inr b)=decide (a=b):=by
 by_cases e:a=b;·subst e;simp
 ·have h:¬(Sum.inr a:Key)=Sum.inr b:=fun q=>e (Sum.inr.inj q)
  rw [bW h,bW e]
theorem LR(a:Int)(b:Str):decide ((Sum.inl a:Key)=Sum.inr b)=false:=bW (fun q=>nomatch q)
theorem LS(a:Str)(b:Int):decide ((Sum.inr a:Key)=Sum.inl b)=false:=bW (fun q=>nomatch q)
def gq(prog:Program)(w:World):PySem.KeyKind prog w Key where
 is:=pK
 hash:=LM w
 inj:=fun v a b ha hb=>by
  rcases kW ha with ⟨i,t,rfl,rfl⟩ | ⟨x,t,rfl,rfl⟩
  ·rcases kW hb with ⟨j,u,rfl,e⟩ | ⟨y,u,rfl,e⟩
   ·injection e with e1 _;rw [e1]
   ·exact nomatch e
  ·rcases kW hb with ⟨j,u,rfl,e⟩ | ⟨y,u,rfl,e⟩
   ·exact nomatch e
   ·injection e with e1 _;rw [e1]
 byValue:=fun k v h=>by
  rcases kW h with ⟨i,t,rfl,rfl⟩ | ⟨x,t,rfl,rfl⟩ <;> rfl
 pyHash:=fun hv h=>by
  rcases kW hv with ⟨i,t,rfl,rfl⟩ | ⟨x,t,rfl,rfl⟩
  ·exact wpAny_pyHash_int h
  ·exact wpAny_pyHash_str h
 eqBool:=fun hu hv h=>by
  rcases kW hu with ⟨i,t,rfl,rfl⟩ | ⟨x,t,rfl,rfl⟩
  ·rcases kW hv with ⟨j,u,rfl,rfl⟩ | ⟨y,u,rfl,rfl⟩
   ·rw [LP] at h;exact wpAny_eqBool_int h
   ·rw [LR] at h;exact SeqAt.EqAt.int_str i t y u _ _ _ _ h
  ·rcases kW hv with ⟨j,u,rfl,rfl⟩ | ⟨y,u,rfl,rfl⟩
   ·rw [LS] at h;exact SeqAt.EqAt.str_int x t j u _ _ _ _ h
   ·rw [LQ] at h;exact wpAny_eqBool_str h
 «strs»:=fun k x t v h=>by
  rcases kW h with ⟨i,u,rfl,e⟩ | ⟨y,u,rfl,e⟩
  ·exact nomatch e
  ·injection e with e1 _
   subst e1
   cases v <;> rfl
theorem LU(prog:Program)(w:World)(i:Int)(t:Tok):(gq prog w).is (.inl i) (.int i t)=true:=LN i t
theorem LV(prog:Program)(w:World)(x:Str)(t:Tok):(gq prog w).is (.inr x) (.str x t)=true:=LO x t
inductive V where
 | aN | bl (b:Bool) | int (i:Int) | str (x:Str) | jV (b:Array UInt8) | s_ (b:UInt64) | ref (a:Addr) | ty (n:String)
 deriving DecidableEq
def RelV:V→Value→Prop
 | .aN,u=>u=Value.none
 | .bl b,u=>u=Value.bool b
 | .int i,u=>∃t,u=Value.int i t
 | .str x,u=>∃t,u=Value.str x t
 | .jV b,u=>∃t,u=Value.bytes b t
 | .s_ b,u=>∃t,u=Value.float b t
 | .ref a,u=>u=Value.ref a
 | .ty n,u=>u=Value.type n
abbrev Vals:List V→List Value→Prop:=Paired RelV
variable {xs:List V} {us:List Value}
theorem Vals.length(r:Vals xs us):xs.length=us.length:=Paired.length r
theorem Vals.get:∀{xs:List V} {us:List Value} {i:Nat} {x:V},Vals xs us→xs[i]?=some x→∃u,us[i]?=some u∧RelV x u
 | _,_,_,_,.nil,e=>by simp at e
 | _,_,0,_,.cons r _,e=>by simp at e;subst e;exact ⟨_,rfl,r⟩
 | _,_,i+1,x,.cons _ t,e=>by
  obtain ⟨u,h1,h2⟩:=Vals.get (i:=i) (x:=x) t (by simpa using e)
  exact ⟨u,by simpa using h1,h2⟩
theorem Vals.set{x:V}{u:Value}(r:RelV x u):∀{xs:List V} {us:List Value} (i:Nat),Vals xs us→Vals (xs.set i x) (us.set i u)
 | _,_,_,.nil=>.nil
 | _,_,0,.cons _ t=>.cons r t
 | _,_,i+1,.cons q t=>.cons q (Vals.set r i t)
theorem Vals.append:∀{xs ys:List V} {us ws:List Value},Vals xs us→Vals ys ws→Vals (xs++ys) (us++ws)
 | _,_,_,_,.nil,s=>s
 | _,_,_,_,.cons r t,s=>.cons r (Vals.append t s)
theorem Vals.take:∀{xs:List V} {us:List Value} (n:Nat),Vals xs us→Vals (xs.take n) (us.take n)
 | _,_,0,_=>.nil
 | _,_,_+1,.nil=>.nil
 | _,_,n+1,.cons r t=>.cons r (Vals.take n t)
theorem Vals.drop:∀{xs:List V} {us:List Value} (n:Nat),Vals xs us→Vals (xs.drop n) (us.drop n)
 | _,_,0,r=>r
 | _,_,_+1,.nil=>.nil
 | _,_,n+1,.cons _ t=>Vals.drop n t
theorem Vals.none_of:∀{xs:List V} {us:List Value} {i:Nat},Vals xs us→xs[i]?=none→us[i]?=none:=fun{xs us i} r e=>by have h1:=r.length;have h2:xs.length≤i:=Bm.mp e;exact Bm.mpr (by omega)
def jW:Option V→Option Value→Prop
 | some v,some u=>RelV v u
 | none,none=>True
 | _,_=>False
def KV{κ:Type}:List (κ×V)→List (κ×Value)→Prop:=Paired fun(p:κ×V) (q:κ×Value)=>p.1=q.1∧RelV p.2 q.2
def kV:Key→V
 | .inl i=>.int i
 | .inr x=>.str x
inductive HO where
 | lst (xs:List V)
 | tup (xs:List V)
 | dK (kvs:List (Key×V)) | dT (kvs:List (List Key×V))
 | set (S:Int→Bool) (n:Nat)
 | ins (C dx:Addr) (fs:List (Str×V))
 | own (x:Addr)
 | xd (fs:List (Str×V))
 | met (f x:Addr)
 | dS (lo hi:Int)
 | bH (o:Obj) (u:HO)
 | mC (ps:Array Value)
 | ext (φ:Heap→Prop)
abbrev Hp:=Addr→Option HO
def upd(H:Hp)(a:Addr)(o:HO):Hp:=fun b=>if b=a then some o else H b
variable {H:Hp} {a:Addr} {o:HO}
theorem au:upd H a o a=some o:=by unfold upd;rw [ae rfl]
variable {b:Addr}
theorem aP(h:b≠a):upd H a o b=H b:=by unfold upd;rw [aa h]
theorem LW{u:HO}(h:H a=some o)(h':H b=some u)(d:o≠u):a≠b:=by intro e;subst e;rw [h] at h';exact d (Option.some.inj h')
theorem kX(h:H a=some o)(h':H b=none):a≠b:=by intro e;subst e;rw [h] at h';cases h'
section
variable (P:Program) (w:World)
def cg(H:Hp)(h:Heap)(a:Addr):HO→Prop
 | .lst xs=>xs.length≤sizeLine∧∃(ak:List Value) (n:Nat),Vals xs ak∧h.get? a=some {cls:=.type "list",data:=.seq ak.toArray n}
 | .tup xs=>xs.length≤sizeLine∧∃ak:List Value,Vals xs ak∧IsTup h a ak.toArray
 | .dK kvs=>kvs.length≤sizeLine∧(a == sysModules)=false∧∃vs,KV kvs vs∧h.DictOf (gq P w) a vs
 | .dT kvs=>kvs.length≤sizeLine∧(a == sysModules)=false∧∃xs:List (List Key×Addr×Value),
   Paired (fun(p:List Key×V) (q:List Key×Addr×Value)=>p.1=q.1∧H q.2.1=some (.tup (p.1.map kV))∧RelV p.2 q.2.2) kvs xs ∧
   ∃o es ep,h.get? a=some o∧o.ExactDict∧o.data=.dict es ep∧es.toList=xs.map (entryOfKey (tupleKind (gq P w)))∧(xs.map (·.1)).Nodup
 | .set S n=>h.SetOf (intKind P w) a S n
 | .ins C dx fs=>H dx=some (.own a)∧fs.length≤1000∧dx≠a∧h.get? a=some (PySem.W.instObj C dx) ∧
   ∃mA,h.Ns1 dx mA∧(∀f,jW (fs.lookup f) (mA f))∧PySem.Within mA (fs.map (·.1))
 | .own _=>∃o,h.get? a=some o
 | .xd fs=>∃mA,h.Ns1 a mA∧∀f,jW (fs.lookup f) (mA f)
 | .dS lo hi=>∃t u v,h.get? a=some {cls:=.type "range",data:=.fields #[.int lo t,.int hi u,.int 1 v]}
 | .bH o u=>h.get? a=some o∧cg H h a u
 | .mC ps=>h.get? a=some {cls:=.none,data:=.fields ps}
 | .met f x=>h.get? a=some (PySem.W.methodObj (.ref f) (.ref x))
 | .ext φ=>φ h∧(∃o,h.get? a=some o)∧∀h1 h2:Heap,φ h1→(∀o,h1.get? a=some o→h2.get? a=some o)→φ h2
def cj(H:Hp)(h:Heap):Prop:=∀a o,H a=some o→cg P w H h a o
end
section
variable {P:Program} {w:World} {H H':Hp} {h h':Heap} {a:Addr} {o:HO}
theorem cg.lt(x:cg P w H h a o):a<h.objs.size:=by
 cases o with
 | lst xs=>obtain ⟨_,_,_,_,e⟩:=x;exact aT e
 | tup xs=>obtain ⟨_,_,_,p⟩:=x;exact p.lt
 | dK kvs=>obtain ⟨_,_,_,_,o,_,_,e,_⟩:=x;exact aT e
 | dT kvs=>obtain ⟨_,_,_,_,o,_,_,e,_⟩:=x;exact aT e
 | set S n=>obtain ⟨o,_,_,_,e,_⟩:=x;exact aT e
 | ins C dx fs=>obtain ⟨_,_,_,e,_⟩:=x;exact aT e
 | own y=>obtain ⟨_,e⟩:=x;exact aT e
 | xd fs=>obtain ⟨_,⟨_,_,_,e,_⟩,_⟩:=x;exact aT e
 | dS lo hi=>obtain ⟨_,_,_,e⟩:=x;exact aT e
 | bH ob u=>obtain ⟨e,_⟩:=x;exact aT e
 | mC ps=>exact aT (show h.get? a=some _ from x)
 | met f y=>exact aT (show h.get? a=some _ from x)
 | ext φ=>obtain ⟨_,⟨_,e⟩,_⟩:=x;exact aT e
theorem Paired.BD{α β:Type}{F G:α→β→Prop}:∀{l₁:List α} {l₂:List β},Paired F l₁ l₂→(∀a b,F a b→G a b)→Paired G l₁ l₂
 | _,_,.nil,_=>.nil
 | _,_,.cons r t,f=>.cons (f _ _ r) (Paired.BD t f)
theorem cg.jt(x:cg P w H h a o)(k:∀b u,(b=a∨H b=some (.own a))→h.get? b=some u→h'.get? b=some u)
  (ho:∀b,H b=some (.own a)→H' b=some (.own a)) (ht:∀b xs,H b=some (.tup xs)→H' b=some (.tup xs)):cg P w H' h' a o:=by
 induction o with
 | lst xs=>obtain ⟨z,ak,n,r,e⟩:=x;exact ⟨z,ak,n,r,k _ _ (.inl rfl) e⟩
 | tup xs=>obtain ⟨z,ak,r,ob,e,c⟩:=x;exact ⟨z,ak,r,ob,k _ _ (.inl rfl) e,c⟩
 | dK kvs=>obtain ⟨z,y,vs,r,ob,es,ep,e,c⟩:=x;exact ⟨z,y,vs,r,ob,es,ep,k _ _ (.inl rfl) e,c⟩
 | dT kvs=>obtain ⟨z,y,xs,r,ob,es,ep,e,c⟩:=x;exact ⟨z,y,xs,Paired.BD r fun p q z=>⟨z.1,ht _ _ z.2.1,z.2.2⟩,ob,es,ep,k _ _ (.inl rfl) e,c⟩
 | set S n=>obtain ⟨ob,es,ep,t,e,c⟩:=x;exact ⟨ob,es,ep,t,k _ _ (.inl rfl) e,c⟩
 | ins C dx fs=>obtain ⟨d,z,ne,e,mA,⟨od,es,ep,e2,c⟩,r⟩:=x;exact ⟨ho _ d,z,ne,k _ _ (.inl rfl) e,mA,⟨od,es,ep,k _ _ (.inr d) e2,c⟩,r⟩
 | own y=>obtain ⟨ob,e⟩:=x;exact ⟨ob,k _ _ (.inl rfl) e⟩
 | xd fs=>obtain ⟨mA,⟨od,es,ep,e,c⟩,r⟩:=x;exact ⟨mA,⟨od,es,ep,k _ _ (.inl rfl) e,c⟩,r⟩
 | dS lo hi=>obtain ⟨t,u,v,e⟩:=x;exact ⟨t,u,v,k _ _ (.inl rfl) e⟩
 | bH ob u ih=>obtain ⟨e,q⟩:=x;exact ⟨k _ _ (.inl rfl) e,ih q⟩
 | mC ps=>have e:h.get? a=some {cls:=.none,data:=.fields ps}:=x;show h'.get? a=some {cls:=.none,data:=.fields ps};exact k a _ (.inl rfl) e
 | met f y=>have e:h.get? a=some (PySem.W.methodObj (.ref f) (.ref y)):=x;show h'.get? a=some (PySem.W.methodObj (.ref f) (.ref y));exact k a _ (.inl rfl) e
 | ext φ=>obtain ⟨p,⟨o,e⟩,st⟩:=x;exact ⟨st _ _ p fun o q=>k _ _ (.inl rfl) q,⟨o,k _ _ (.inl rfl) e⟩,st⟩
theorem cj.lt(x:cj P w H h)(e:H a=some o):a<h.objs.size:=(x a o e).lt
theorem cj.fresh(x:cj P w H h)(e:h.objs.size≤a):H a=none:=by
 cases q:H a with
 | none=>rfl
 | some u=>exact absurd (dA (x.lt q) e) (dG _)
theorem cj.kept(x:cj P w H h)(k:∀b u,h.get? b=some u→h'.get? b=some u):cj P w H h':=fun a o e=>(x a o e).jt (fun b u _ q=>k b u q) (fun _ q=>q) fun _ _ q=>q
theorem cj.laid(x:cj P w H h)(k:∀b u,h.get? b=some u→h'.get? b=some u)(hp:h.objs.size≤a)(new:cg P w (upd H a o) h' a o):cj P w (upd H a o) h':=fun b u e=>by
 have hn:=x.fresh hp;by_cases hb:b=a;·subst hb;rw [au] at e;cases e;exact new
 ·rw [aP hb] at e
  exact (x b u e).jt (fun c v _ q=>k c v q) (fun c q=>by rw [aP (kX q hn)];exact q) fun c xs q=>by rw [aP (kX q hn)];exact q
end
def Rd(H:Hp)(a:Addr)(u:HO):Prop:=H a=some u∨∃o,H a=some (.bH o u)
variable {P:Program} {w:World} {h:Heap}
theorem Rd.ok{u:HO}(r:Rd H a u)(x:cj P w H h):cg P w H h a u:=by
 rcases r with r | ⟨o,r⟩;·exact x a u r
 ·obtain ⟨_,q⟩:=x a _ r
  exact q
def vV:Option HO→Prop
 | some (.lst _)=>True
 | some (.dK _)=>True
 | some (.dT _)=>True
 | some (.set _ _)=>True
 | some (.ins _ _ _)=>True
 | some (.ext _)=>True
 | _=>False
section
variable {P:Program} {w:World} {H:Hp} {h h':Heap} {x e:Addr} {o':HO}
theorem cj.write(ok:cj P w H h)(mu:vV (H x))(he:e=x∨H e=some (.own x))(k:∀b u,b≠e→h.get? b=some u→h'.get? b=some u)(tf:∃u,h'.get? e=some u)
  (new:cg P w (upd H x o') h' x o'):cj P w (upd H x o') h':=fun b u q=>by
 have Ff:∀c y,H c=some (.own y)→c≠x:=fun c y r z=>by subst z;rw [r] at mu;exact mu
 have LX:∀c xs,H c=some (.tup xs)→c≠x:=fun c xs r z=>by subst z;rw [r] at mu;exact mu
 by_cases hb:b=x;·subst hb;rw [au] at q;cases q;exact new
 ·rw [aP hb] at q
  by_cases pL:b=e
  ·have q':H b=some (.own x):=by
    rcases he with z | z;·exact absurd (pL.trans z) hb
    ·rw [pL];exact z
   rw [q] at q';cases q';obtain ⟨v,hv⟩:=tf;exact ⟨v,by rw [pL];exact hv⟩
  ·refine (ok b u q).jt (fun c v hc r=>k c v ?_ r) (fun c r=>by rw [aP (Ff c b r)];exact r) fun c xs r=>by rw [aP (LX c xs r)];exact r
   rcases hc with rfl | hc;·exact pL
   ·rintro rfl
    rcases he with z | z;·exact Ff c b hc z
    ·rw [hc] at z;cases z;exact hb rfl
end
structure Un (fs ex:List Addr) (H H':Hp) (h h':Heap):Prop where
 keep:∀b o,h.get? b=some o→H b=none→b∉fs→b∉ex→h'.get? b=some o
 slot:∀b o,h.get? b=some o→H b=none→b∈fs→b∉ex→∃sl,h'.get? b=some {o with slots:=sl}
 free:∀b o,h.get? b=some o→H b=none→b∉ex→H' b=none
 there:∀b o,h.get? b=some o→b∉ex→∃o',h'.get? b=some o'
 gr:∀b xs,H b=some (.tup xs)→H' b=some (.tup xs)
 fY:∀b o u,H b=some (.bH o u)→H' b=some (.bH o u)
 gu:∀b ps,H b=some (.mC ps)→∃more,H' b=some (.mC (ps++more))
section
variable {fs BE ex vW:List Addr} {H H1 H2:Hp} {h h1 h2 h':Heap} {a x e:Addr} {o:HO}
theorem Un.any(u:Un fs ex H H1 h h1){ob:Obj}(q:h.get? b=some ob)(n:H b=none)(hx:b∉ex):∃sl,h1.get? b=some {ob with slots:=sl}:=by
 by_cases hb:b∈fs;·exact u.slot b ob q n hb hx
 ·exact ⟨ob.slots,u.keep b ob q n hb hx⟩
theorem Un.kept(k:∀b u,h.get? b=some u→h'.get? b=some u):Un fs ex H H h h':=
 ⟨fun b ob q _ _ _=>k b ob q,fun b ob q _ _ _=>⟨ob.slots,k b ob q⟩,fun _ _ _ n _=>n,fun b ob q _=>⟨ob,k b ob q⟩,fun _ _ q=>q,fun _ _ _ q=>q,fun _ ps q=>⟨#[],by rw [q];simp⟩⟩
theorem Un.refl:Un fs ex H H h h:=Un.kept fun _ _ q=>q
theorem Un.laid(k:∀b u,h.get? b=some u→h'.get? b=some u)(hp:h.objs.size≤a)(hn:H a=none):Un fs ex H (upd H a o) h h' where
 keep:=fun b u q _ _ _=>k b u q
 slot:=fun b u q _ _ _=>⟨u.slots,k b u q⟩
 free:=fun b u q n _=>by rw [aP (bL (dA (aT q) hp))];exact n
 there:=fun b u q _=>⟨u,k b u q⟩
 gr:=fun b xs q=>by rw [aP (kX q hn)];exact q
 fY:=fun b u xs q=>by rw [aP (kX q hn)];exact q
 gu:=fun b ps q=>⟨#[],by rw [aP (kX q hn),q];simp⟩
theorem Un.write(mu:vV (H x))(he:e=x∨H e=some (.own x))(k:∀b u,b≠e→h.get? b=some u→h'.get? b=some u)(tf:∃u,h'.get? e=some u):Un fs ex H (upd H x o) h h':=by
 have hx:∀b,H b=none→b≠x:=fun b n z=>by subst z;rw [n] at mu;exact mu
 have hb:∀b,H b=none→b≠e:=fun b n z=>by
  subst z;rcases he with r | r;·exact hx b n r
  ·rw [n] at r;cases r
 have hm:∀b u,H b=some u→¬vV (some u)→b≠x:=fun b u q nm z=>by subst z;rw [q] at mu;exact nm mu
 refine ⟨fun b u q n _ _=>k b u (hb b n) q,fun b u q n _ _=>⟨u.slots,k b u (hb b n) q⟩,fun b u q n _=>by rw [aP (hx b n)];exact n,fun b u q _=>?_,
  fun b xs q=>by rw [aP (hm b _ q fun z=>z)];exact q,fun b u xs q=>by rw [aP (hm b _ q fun z=>z)];exact q,fun b ps q=>⟨#[],by rw [aP (hm b _ q fun z=>z),q];simp⟩⟩
 by_cases pL:b=e;·subst pL;exact tf
 ·exact ⟨u,k b u pL q⟩
end
def yL(h:Heap)(H:Hp):List Addr:=(List.range h.objs.size).filter fun a=>(H a).isSome
def mE(h:Heap)(H:Hp):Heap:=PySem.W.hideAll h (yL h H)
theorem LY(h:Heap)(H:Hp):(mE h H).objs.size=h.objs.size:=PySem.W.hideAll_size _ _
theorem LZ{o:Obj}(e:h.get? b=some o)(n:H b=none):(mE h H).get? b=some o:=
 yh _ e fun hm=>by have q:(H b).isSome=true:=(cu.mp hm).2;rw [n] at q;simp at q
theorem L0{o:Obj}(e:(mE h H).get? b=some o):h.get? b=some o∧H b=none:=by
 have e':h.get? b=some o:=PySem.W.of_hideAll (yL h H) e;refine ⟨e',?_⟩;cases q:H b with
 | none=>rfl
 | some x=>
  have hm:b∈yL h H:=cu.mpr ⟨b7.mpr (aT e'),by simp [q]⟩
  have z:(mE h H).get? b=none:=PySem.W.hideAll_none (yL h H) hm;rw [z] at e;cases e
structure Mod (K:aH) (mg:du) (base:Heap):Prop where
 dv:K.In base
 glob:base.Ns mainGlobals mg
 blt:∃mb,base.Ns builtinsNs mb∧∀x:Str,x ≠ "__name__"→mb x=bootBuiltins x
 nolimit:base.NoLimit
structure Cx where
 prog:Program
 w:World
 K:PySem.W.Frag
 mg:Str→Option Value
 base:Heap
 A:Around
 N:List Str
 s₀:Shared
 H₀:Hp
 env:Env
 outer:List Env
 stack:List Env
 ex:List Addr
 fn:Str→Bool
 calm:Bool
 pn:List (Addr×Obj)
 xe:Value→Shared→Prop
def cJ(l:List Env):List Addr:=l.filterMap (·.frame)
abbrev Cx.fs (X:Cx):List Addr:=cJ X.outer
def nV(sc:Scope)(x:Str):Prop:=sc.names.lookup x=some .local∨sc.names.lookup x=some .cell∨sc.names.lookup x=some .free
def Loc(sc:Scope)(x:Str):Prop:=sc.names.lookup x=some .local∨sc.names.lookup x=some .cell
def Look(env:Env)(h:Heap)(m:du)(x:Str)(u:Value):Prop:=
 (env.kindOf x=some .local∧m x=some u)∨((env.kindOf x=some .cell∨env.kindOf x=some .free)∧∃c,env.cells.lookup x=some c∧h.IsCell c (some u))
structure Cx.Ok (X:Cx):Prop where
 mod:Mod X.K X.mg X.base
 kind:X.env.scope.kind=.function
 glob:X.env.globals=mainGlobals
 blt:X.env.builtins=builtinsNs
 above:X.s₀.heap.objs.size≤X.env.locals
 inj:∀x y c,X.env.cells.lookup x=some c→X.env.cells.lookup y=some c→x=y
 has:∀x,(X.env.kindOf x=some .cell∨X.env.kindOf x=some .free)→∃c,X.env.cells.lookup x=some c
 pM:∀x c,X.fn x=true→X.env.cells.lookup x=some c→X.s₀.heap.objs.size≤c
 hd:X.calm=true→X.A.handled=none
 frames:X.A.frames=some X.stack
 iZ:X.stack=X.outer∨(X.stack=X.env::X.outer∧X.env.frame=some X.env.locals)
 Fg:∀b∈X.ex,b≠X.env.locals∧∀x c,X.env.cells.lookup x=some c→c≠b
 bs:∀b o,X.base.get? b=some o→X.s₀.heap.get? b=some o∧X.H₀ b=none
 iG:X.base.objs.size≤X.s₀.heap.objs.size
 nW:∀b o,X.base.get? b=some o→b∉X.ex
 nX:∀b∈X.ex,b∉X.fs
 jX:X.s₀.heap.FunFrames X.base X.outer
 nY:∀b∈X.fs,X.H₀ b=none
structure Inv (X:Cx) (pins:aQ) (σ:List (Option V)) (H:Hp) (s:Shared):Prop where
 ok:X.Ok
 os:s.os=X.s₀.os
 bare:AllBare s.gens
 base:Un X.fs X.ex X.H₀ H X.s₀.heap s.heap
 loc:∃m,s.heap.Ns X.env.locals m∧∀(i:Nat) (x:Str) (v:V),X.N[i]?=some x→σ[i]?=some (some v)→nV X.env.scope x→∃u,RelV v u∧Look X.env s.heap m x u
 cell:∀x c,X.env.cells.lookup x=some c→∃v,s.heap.IsCell c v
 free:H X.env.locals=none
 i3:∀x c,X.env.cells.lookup x=some c→H c=none
 pin:∀p∈X.pn++pins,s.heap.get? p.1=some p.2∧H p.1=none∧p.1≠X.env.locals∧p.1∉X.fs∧∀v,p.2.data≠.cell v
 ay:cj X.prog X.w H s.heap
 len:σ.length=X.N.length
section
variable {X:Cx} {pins:aQ} {σ:List (Option V)} {H H':Hp} {s:Shared} {h':Heap}
theorem Cx.Ok.L3(ok:X.Ok){o:Obj}(e:X.base.get? b=some o):b∉X.fs:=fun hb=>by have:=(ok.jX.mem hb).1;rw [e] at this;cases this
theorem Inv.bs(I:Inv X pins σ H s):∀b o,X.base.get? b=some o→s.heap.get? b=some o∧H b=none:=fun b o e=>⟨I.base.keep b o (I.ok.bs b o e).1 (I.ok.bs b o e).2 (I.ok.L3 e) (I.ok.nW b o e),I.base.free b o (I.ok.bs b o e).1 (I.ok.bs b o e).2 (I.ok.nW b o e)⟩
theorem Inv.bk(I:Inv X pins σ H s):∀b o,X.base.get? b=some o→s.heap.get? b=some o:=fun b o e=>(I.bs b o e).1
theorem Inv.mod(I:Inv X pins σ H s):Mod X.K X.mg X.base:=I.ok.mod
theorem Inv.fB(I:Inv X pins σ H s):X.K.In s.heap:=I.ok.mod.dv.keeps I.bk
theorem Inv.lt(I:Inv X pins σ H s):X.env.locals<s.heap.objs.size:=let ⟨_,hn,_⟩:=I.loc;hn.lt
theorem Inv.sz(I:Inv X pins σ H s):X.s₀.heap.objs.size≤s.heap.objs.size:=a9 I.ok.above (ma I.lt)
theorem Inv.L4(I:Inv X pins σ H s)(h:s.heap.objs.size≤a):a∉X.fs:=fun hb=>by obtain ⟨_,o,ho,_⟩:=I.ok.jX.mem hb;exact absurd (dA (aT ho) (a9 I.sz h)) (dG _)
theorem Inv.pO(I:Inv X pins σ H s):∀x c,X.env.cells.lookup x=some c→c≠X.env.locals:=fun x c e z=>by obtain ⟨v,o,ho,hd⟩:=I.cell x c e;obtain ⟨m,⟨o',es,ep,nZ,L5,_⟩,_⟩:=I.loc;rw [z,nZ] at ho;cases ho;rw [L5] at hd;cases hd
theorem Inv.jX(I:Inv X pins σ H s):s.heap.FunFrames X.base X.outer:=by
 have all:∀(l:List Env),(∀b∈cJ l,b∈X.fs)→X.s₀.heap.FunFrames X.base l→s.heap.FunFrames X.base l:=by
  intro l
  induction l with
  | nil=>intro _ _;trivial
  | cons env r ih=>
   intro hs hl;obtain ⟨hk,⟨L,o,hf,hn,ho,hd⟩,hr⟩:=hl;have hL:L∈X.fs:=hs L (by unfold cJ;rw [yi,hf];exact dy)
   obtain ⟨sl,e⟩:=I.base.slot L o ho (I.ok.nY L hL) hL fun z=>I.ok.nX L z hL;exact ⟨hk,⟨L,_,hf,hn,e,hd⟩,ih (fun b hb=>hs b (by unfold cJ;rw [yi,hf];exact cw _ hb)) hr⟩
 exact all X.outer (fun _ hb=>hb) I.ok.jX
theorem Inv.stack(I:Inv X pins σ H s):s.heap.FunFrames X.base X.stack:=by
 rcases I.ok.iZ with e | ⟨e,hf⟩;·rw [e];exact I.jX
 ·rw [e]
  obtain ⟨m,hn,_⟩:=I.loc;refine .cons (by rw [I.ok.kind];decide) hf hn ?_ I.jX
  exact Heap.get?_none_of_le (a9 I.ok.iG I.ok.above)
theorem Inv.tj(I:Inv X pins σ H s):∀b∈cJ X.stack,b∈X.env.locals::X.fs:=fun b hb=>by
 rcases I.ok.iZ with e | ⟨e,hf⟩;·rw [e] at hb;exact cw _ hb
 ·rw [e] at hb
  unfold cJ at hb;rw [yi,hf] at hb;exact hb
theorem Inv.tm(I:Inv X pins σ H s):∀b∈cJ X.stack,H b=none:=fun b hb=>by
 rcases cf.mp (I.tj b hb) with e | hb;·rw [e];exact I.free
 ·obtain ⟨_,o,ho,_⟩:=I.ok.jX.mem hb
  exact I.base.free b o ho (I.ok.nY b hb) fun z=>I.ok.nX b z hb
variable {g':Array GenState} {t':Nat} {d':Drawn} {ch:List Addr}
theorem Inv.step(I:Inv X pins σ H s)
  (kY:∀b∈ch,(b∈X.ex∨X.s₀.heap.objs.size≤b)∧b≠X.env.locals∧(∀x c,X.env.cells.lookup x=some c→c≠b)∧∀p∈X.pn++pins,p.1≠b)
  (keep:∀b o,b≠X.env.locals→b∉X.fs→b∉ch→s.heap.get? b=some o→H b=none→h'.get? b=some o)
  (slot:∀b o,b≠X.env.locals→b∈X.fs→b∉ch→s.heap.get? b=some o→H b=none→∃sl,h'.get? b=some {o with slots:=sl}) (free:∀b o,b∉ch→s.heap.get? b=some o→H b=none→H' b=none)
  (there:∀b o,b∉ch→s.heap.get? b=some o→∃o',h'.get? b=some o')
  (gr:∀b xs,H b=some (.tup xs)→H' b=some (.tup xs)) (fY:∀b o u,H b=some (.bH o u)→H' b=some (.bH o u)) (gu:∀b ps,H b=some (.mC ps)→∃more,H' b=some (.mC (ps++more)))
  (ns:∀m,s.heap.Ns X.env.locals m→h'.Ns X.env.locals m) (ay:cj X.prog X.w H' h') (hg:AllBare g') :
  Inv X pins σ H' {s with heap:=h',gens:=g',drawn:=d',toks:=t'}:=by
 have Fh:∀b o,X.s₀.heap.get? b=some o→b≠X.env.locals:=fun b o e=>bL (dA (aT e) I.ok.above);have yM:∀b o,X.s₀.heap.get? b=some o→b∉X.ex→b∉ch:=fun b o e hx hb=>by
  rcases (kY b hb).1 with z | z;·exact hx z
  ·exact absurd (dA (aT e) z) (dG _)
 have cellK:∀x c,X.env.cells.lookup x=some c→∀v,s.heap.IsCell c v→h'.IsCell c v:=fun x c e v ⟨o,ho,hd⟩=>by
  have vX:c∉ch:=fun z=>(kY c z).2.2.1 x c e rfl;by_cases hc:c∈X.fs
  ·obtain ⟨sl,q⟩:=slot c o (I.pO x c e) hc vX ho (I.i3 x c e)
   exact ⟨_,q,hd⟩
  ·exact ⟨o,keep c o (I.pO x c e) hc vX ho (I.i3 x c e),hd⟩
 refine ⟨I.ok,I.os,hg,⟨fun b o e n hb hx=>?_,fun b o e n hb hx=>?_,fun b o e n hx=>?_,fun b o e hx=>?_,fun b xs e=>gr b xs (I.base.gr b xs e),fun b o xs e=>fY b o xs (I.base.fY b o xs e),fun b ps e=>?_⟩,?_,fun x c e=>?_,?_,fun x c e=>?_,fun p hp=>?_,ay,I.len⟩;·exact keep b o (Fh b o e) hb (yM b o e hx) (I.base.keep b o e n hb hx) (I.base.free b o e n hx)
 ·obtain ⟨sl,e1⟩:=I.base.slot b o e n hb hx
  obtain ⟨L6,e2⟩:=slot b _ (Fh b o e) hb (yM b o e hx) e1 (I.base.free b o e n hx);exact ⟨L6,e2⟩
 ·obtain ⟨o',e1⟩:=I.base.there b o e hx
  exact free b o' (yM b o e hx) e1 (I.base.free b o e n hx)
 ·obtain ⟨o',e1⟩:=I.base.there b o e hx
  exact there b o' (yM b o e hx) e1
 ·obtain ⟨m1,e1⟩:=I.base.gu b ps e
  obtain ⟨m2,e2⟩:=gu b _ e1;exact ⟨m1++m2,by rw [e2,Array.append_assoc]⟩
 ·obtain ⟨m,hn,hl⟩:=I.loc
  refine ⟨m,ns m hn,fun i x v e1 e2 e3=>?_⟩;obtain ⟨u,r,l⟩:=hl i x v e1 e2 e3;refine ⟨u,r,?_⟩;rcases l with l | ⟨k,c,e,z⟩;·exact .inl l
  ·exact .inr ⟨k,c,e,cellK x c e _ z⟩
 ·obtain ⟨v,z⟩:=I.cell x c e
  exact ⟨v,cellK x c e v z⟩
 ·obtain ⟨m,⟨o,_,_,ho,_⟩,_⟩:=I.loc
  exact free _ o (fun z=>(kY _ z).2.1 rfl) ho I.free
 ·obtain ⟨v,o,ho,hd⟩:=I.cell x c e
  exact free c o (fun z=>(kY c z).2.2.1 x c e rfl) ho (I.i3 x c e)
 ·obtain ⟨e,n,ne,nf,d⟩:=I.pin p hp
  have vX:p.1∉ch:=fun z=>(kY p.1 z).2.2.2 p hp rfl;exact ⟨keep p.1 p.2 ne nf vX e n,free p.1 p.2 vX e n,ne,nf,d⟩
theorem Inv.un(I:Inv X pins σ H s)(u:Un X.fs [] H H' s.heap h')(ay:cj X.prog X.w H' h'):Inv X pins σ H' {s with heap:=h',toks:=t'}:=by
 obtain ⟨m,⟨o,es,ep,ho,r⟩,_⟩:=id I.loc;obtain ⟨sl,hL⟩:=u.any ho I.free (by simp)
 exact I.step (g':=s.gens) (d':=s.drawn) (ch:=[]) (fun _ z=>nomatch z) (fun b o _ hb _ e n=>u.keep b o e n hb (by simp)) (fun b o _ hb _ e n=>u.slot b o e n hb (by simp)) (fun b o _ e n=>u.free b o e n (by simp)) (fun b o _ e=>u.there b o e (by simp)) u.gr u.fY u.gu (fun m' hm=>by obtain ⟨o',yN,BF,nZ,r'⟩:=hm;rw [ho] at nZ;cases nZ;exact ⟨_,yN,BF,hL,r'⟩) ay I.bare
theorem Inv.call(I:Inv X pins σ H s)(u:Un (cJ X.stack) ch H H' s.heap h')(ay:cj X.prog X.w H' h')(hg:AllBare g')
  (kY:∀b∈ch,(b∈X.ex∨X.s₀.heap.objs.size≤b)∧b≠X.env.locals∧(∀x c,X.env.cells.lookup x=some c→c≠b)∧∀p∈X.pn++pins,p.1≠b) :
  Inv X pins σ H' {s with heap:=h',gens:=g',drawn:=d',toks:=t'}:=by
 obtain ⟨m,⟨o,es,ep,ho,r⟩,_⟩:=id I.loc;obtain ⟨sl,hL⟩:=u.any ho I.free fun z=>(kY _ z).2.1 rfl;exact I.step (ch:=ch) kY (fun b o hL hb hc e n=>u.keep b o e n (fun z=>(cf.mp (I.tj b z)).elim hL hb) hc) (fun b o _ _ hc e n=>u.any e n hc) (fun b o hc e n=>u.free b o e n hc) (fun b o hc e=>u.there b o e hc) u.gr u.fY u.gu (fun m' hm=>by obtain ⟨o',yN,BF,nZ,r'⟩:=hm;rw [ho] at nZ;cases nZ;exact ⟨_,yN,BF,hL,r'⟩) ay hg
theorem Inv.turned{it:Addr}(I:Inv X pins σ H s)(k:∀b o,b≠it→s.heap.get? b=some o→h'.get? b=some o)(hn:H it=none)(hL:it≠X.env.locals)
  (h1:it∈X.ex∨X.s₀.heap.objs.size≤it) (h2:∀x c,X.env.cells.lookup x=some c→c≠it) (h3:∀p∈X.pn++pins,p.1≠it):Inv X pins σ H {s with heap:=h',toks:=t'}:=by
 have Fi:∀b u,H b=some u→b≠it:=fun b u e z=>by rw [z,hn] at e;cases e
 refine I.step (g':=s.gens) (d':=s.drawn) (ch:=[it]) (fun b hb=>?_) (fun b o _ _ hc e _=>k b o (fun z=>hc (by simp [z])) e) (fun b o _ _ hc e _=>⟨o.slots,k b o (fun z=>hc (by simp [z])) e⟩) (fun _ _ _ _ n=>n)
  (fun b o hc e=>⟨o,k b o (fun z=>hc (by simp [z])) e⟩) (fun _ _ e=>e) (fun _ _ _ e=>e) (fun b ps e=>⟨#[],by rw [e];simp⟩) (fun m hm=>?_) (fun b u e=>?_) I.bare
 ·have e:b=it:=by simpa using hb
  subst e;exact ⟨h1,hL,h2,h3⟩
 ·obtain ⟨o,es,ep,ho,r⟩:=hm
  exact ⟨o,es,ep,k _ o (Ne.symm hL) ho,r⟩
 ·refine (I.ay b u e).jt (fun c v hc q=>k c v ?_ q) (fun _ q=>q) fun _ _ q=>q
  rcases hc with z | z;·rw [z];exact Fi b u e
  ·exact Fi c _ z
theorem Inv.tok(I:Inv X pins σ H s)(t:Nat):Inv X pins σ H {s with toks:=t}:=I.un (h':=s.heap) (t':=t) Un.refl I.ay
theorem Inv.kept(I:Inv X pins σ H s)(k:∀b u,s.heap.get? b=some u→h'.get? b=some u):Inv X pins σ H {s with heap:=h',toks:=t'}:=I.un (Un.kept k) (I.ay.kept k)
theorem Inv.laid(I:Inv X pins σ H s)(k:∀b u,s.heap.get? b=some u→h'.get? b=some u)(hp:s.heap.objs.size≤a)(new:cg X.prog X.w (upd H a o) h' a o) :
  Inv X pins σ (upd H a o) {s with heap:=h',toks:=t'}:=I.un (Un.laid k hp (I.ay.fresh hp)) (I.ay.laid k hp new)
theorem Inv.write{x e:Addr}(I:Inv X pins σ H s)(mu:vV (H x))(he:e=x∨H e=some (.own x))(k:∀b u,b≠e→s.heap.get? b=some u→h'.get? b=some u)(tf:∃u,h'.get? e=some u)
  (new:cg X.prog X.w (upd H x o) h' x o):Inv X pins σ (upd H x o) {s with heap:=h',toks:=t'}:=I.un (Un.write mu he k tf) (I.ay.write mu he k tf new)
theorem Inv.Fj{Fl:aQ}(I:Inv X pins σ H s)(h:∀p∈Fl,s.heap.get? p.1=some p.2∧H p.1=none∧p.1≠X.env.locals∧p.1∉X.fs∧∀v,p.2.data≠.cell v):Inv X Fl σ H s:=
 ⟨I.ok,I.os,I.bare,I.base,I.loc,I.cell,I.free,I.i3,fun p hp=>(dg.mp hp).elim (fun z=>I.pin p (sG _ z)) (h p),I.ay,I.len⟩
variable {i:Nat} {x:Str}
theorem Fm{N:List Str}(hN:N.Nodup){j:Nat}(a:N[i]?=some x)(b:N[j]?=some x):i=j:=by obtain ⟨h1,e1⟩:=bM.mp a;obtain ⟨h2,e2⟩:=bM.mp b;exact (yj hN).mp (e1.trans e2.symm)
variable {M:Model} {A:Around} {E:aK} {u:Value} {Q:Unit→Shared→Prop}
theorem BG{v:V}(I:Inv X pins σ H s)(hN:X.N.Nodup)(hi:X.N[i]?=some x)(hx:Loc X.env.scope x)(r:RelV v u)
  (h:∀s',Inv X pins (σ.set i (some v)) H s'→(∃a,Heap.SameBut a s.heap s'.heap∧(a=X.env.locals∨X.env.cells.lookup x=some a))→Q () s') (hf:X.fn x=true∨X.env.scope.names.lookup x=some .local:=by first | exact .inl rfl | exact .inr rfl | assumption):wpAny M A (storeName X.env x u) Q E s:=by
 obtain ⟨m,hn,hl⟩:=id I.loc;have L7:(X.env.scope.kind == .class || (X.env.scope.kind == .module && X.env.locals != X.env.globals))=false:=by rw [I.ok.kind];rfl
 have Fn:i<σ.length:=by rw [I.len];exact (bM.mp hi).1
 have pO:=I.pO;have tracked:∀{a:Addr} {h':Heap},(∃o,s.heap.get? a=some o∧H a=none)→Heap.SameBut a s.heap h'→cj X.prog X.w H h':=fun{a h'} ha hs b ob e=>by
  obtain ⟨_,_,Fo⟩:=ha;refine (I.ay b ob e).jt (fun c w' hc q=>(hs.2 c ?_).trans q) (fun _ q=>q) fun _ _ q=>q;rintro rfl;rcases hc with rfl | hc;·rw [Fo] at e;cases e
  ·rw [Fo] at hc;cases hc
 rcases hx with hk | hk
 ·refine wpAny_storeName_local hk hn (fun h' L8 hs=>?_) L7
  obtain ⟨oL,_,_,L9,_⟩:=id hn;refine h _ ⟨I.ok,I.os,I.bare,⟨fun b o e n hb hx=>?_,fun b o e n hb hx=>?_,I.base.free,fun b o e hx=>?_,I.base.gr,I.base.fY,I.base.gu⟩,⟨_,L8,fun j y v' e1 e2 e3=>?_⟩,fun y c e=>?_,I.free,I.i3,fun p hp=>?_,tracked ⟨oL,L9,I.free⟩ hs,by simpa using I.len⟩ ⟨_,hs,.inl rfl⟩
  ·exact (hs.2 b (bL (dA (aT e) I.ok.above))).trans (I.base.keep b o e n hb hx)
  ·obtain ⟨sl,e1⟩:=I.base.slot b o e n hb hx
   exact ⟨sl,(hs.2 b (bL (dA (aT e) I.ok.above))).trans e1⟩
  ·obtain ⟨o',e1⟩:=I.base.there b o e hx
   exact ⟨o',(hs.2 b (bL (dA (aT e) I.ok.above))).trans e1⟩
  ·by_cases hj:j=i
   ·subst hj
    rw [hi] at e1;cases e1;rw [List.getElem?_set_self Fn] at e2;cases e2;exact ⟨u,r,.inl ⟨hk,by simp⟩⟩
   ·rw [List.getElem?_set_ne (Ne.symm hj)] at e2
    obtain ⟨u',r',q⟩:=hl j y v' e1 e2 e3;refine ⟨u',r',?_⟩;rcases q with ⟨k,e⟩ | ⟨k,c,e,z⟩
    ·refine .inl ⟨k,?_⟩
     have:y≠x:=fun e=>hj (Fm hN e1 (e▸hi));simp [this,e]
    ·exact .inr ⟨k,c,e,z.sameBut hs (pO y c e)⟩
  ·obtain ⟨w',z⟩:=I.cell y c e
   exact ⟨w',z.sameBut hs (pO y c e)⟩
  ·obtain ⟨e,n,ne,nf,d⟩:=I.pin p hp
   exact ⟨(hs.2 p.1 ne).trans e,n,ne,nf,d⟩
 ·have BH:X.fn x=true:=by
   rcases hf with z | z;·exact z
   ·rw [z] at hk;cases hk
  obtain ⟨c,hc⟩:=I.ok.has x (.inl hk);obtain ⟨w',z⟩:=I.cell x c hc;refine wpAny_storeName_cell I.ok.kind hk hc z (fun h' e9 hs=>?_);obtain ⟨oc,Fp,L_⟩:=id z;refine h {s with heap:=h'} ⟨I.ok,I.os,I.bare,⟨fun b o e n hb hx=>?_,fun b o e n hb hx=>?_,I.base.free,fun b o e hx=>?_,I.base.gr,I.base.fY,I.base.gu⟩,⟨m,hn.sameBut hs (Ne.symm (pO x c hc)),fun j y v' e1 e2 e3=>?_⟩,fun y c' e=>?_,I.free,I.i3,fun p hp=>?_,tracked ⟨oc,Fp,I.i3 x c hc⟩ hs,by simpa using I.len⟩ ⟨c,hs,.inr hc⟩
  ·exact (hs.2 b (bL (dA (aT e) (I.ok.pM x c BH hc)))).trans (I.base.keep b o e n hb hx)
  ·obtain ⟨sl,e1⟩:=I.base.slot b o e n hb hx
   exact ⟨sl,(hs.2 b (bL (dA (aT e) (I.ok.pM x c BH hc)))).trans e1⟩
  ·obtain ⟨o',e1⟩:=I.base.there b o e hx
   exact ⟨o',(hs.2 b (bL (dA (aT e) (I.ok.pM x c BH hc)))).trans e1⟩
  ·by_cases hj:j=i
   ·subst hj
    rw [hi] at e1;cases e1;rw [List.getElem?_set_self Fn] at e2;cases e2;exact ⟨u,r,.inr ⟨.inl hk,c,hc,e9⟩⟩
   ·rw [List.getElem?_set_ne (Ne.symm hj)] at e2
    obtain ⟨u',r',q⟩:=hl j y v' e1 e2 e3;refine ⟨u',r',?_⟩;rcases q with q | ⟨k,c',e,z'⟩;·exact .inl q
    ·refine .inr ⟨k,c',e,z'.sameBut hs ?_⟩
     rintro rfl;exact hj (Fm hN e1 (I.ok.inj _ _ _ e hc▸hi))
  ·by_cases Fq:c'=c
   ·subst Fq;exact ⟨_,e9⟩
   ·obtain ⟨w2,z2⟩:=I.cell y c' e
    exact ⟨w2,z2.sameBut hs Fq⟩
  ·obtain ⟨e,n,ne,nf,d⟩:=I.pin p hp
   refine ⟨(hs.2 p.1 ?_).trans e,n,ne,nf,d⟩;intro q;rw [q,Fp] at e;have q':oc=p.2:=Option.some.inj e;exact d w' (by rw [←q'];exact L_)
theorem Fs{v:V}(I:Inv X pins σ H s)(hN:X.N.Nodup)(hi:X.N[i]?=some x)(hx:Loc X.env.scope x)(r:RelV v u)
  (h:∀s',Inv X pins (σ.set i (some v)) H s'→Q () s') (hf:X.fn x=true∨X.env.scope.names.lookup x=some .local:=by first | exact .inl rfl | exact .inr rfl | assumption):wpAny M A (storeName X.env x u) Q E s:=
 BG I hN hi hx r (fun s' I' _=>h s' I') hf
theorem Inv.n4{s':Shared}(I:Inv X pins σ H s)(ho:s'.os=s.os)(u:Un (cJ X.stack) ch H H' s.heap s'.heap)(ay:cj X.prog X.w H' s'.heap)(hg:AllBare s'.gens)
  (kY:∀b∈ch,(b∈X.ex∨X.s₀.heap.objs.size≤b)∧b≠X.env.locals∧(∀x c,X.env.cells.lookup x=some c→c≠b)∧∀p∈X.pn++pins,p.1≠b):Inv X pins σ H' s':=by
 obtain ⟨h',g',d',t',o'⟩:=s';have e:o'=s.os:=ho;subst e;exact I.call (g':=g') (t':=t') (d':=d') u ay hg kY
end
abbrev XK:=Value→Option Addr→Hp→Prop
abbrev St:=List (Option V)
abbrev VK:=V→Hp→Prop
abbrev TE:=St→Hp→VK→Prop
abbrev TT:=St→Hp→(Bool→Hp→Prop)→Prop
abbrev TA:=St→Hp→(List V→Hp→Prop)→Prop
structure Ends where
 nx:St→Hp→Prop
 rt:VK
 bk:St→Hp→Prop:=fun _ _=>False
 ct:St→Hp→Prop:=fun _ _=>False
abbrev TS:=Ends→St→Hp→Prop
def EP(X:Cx)(pins:aQ)(σ:St)(Q:VK)(u:Value)(s':Shared):Prop:=∃v H',Inv X pins σ H' s'∧RelV v u∧Q v H'
def TP(X:Cx)(pins:aQ)(σ:St)(Q:Bool→Hp→Prop)(b:Bool)(s':Shared):Prop:=∃H',Inv X pins σ H' s'∧Q b H'
def AP(X:Cx)(pins:aQ)(σ:St)(Q:List V→Hp→Prop)(us:List Value)(s':Shared):Prop:=∃vs H',Inv X pins σ H' s'∧Vals vs us∧Q vs H'
def SP(X:Cx)(pins:aQ)(D:Ends)(f:Flow)(s':Shared):Prop:=
 match f with
 | .next=>∃σ' H',Inv X pins σ' H' s'∧D.nx σ' H'
 | .brk=>∃σ' H',Inv X pins σ' H' s'∧D.bk σ' H'
 | .cont=>∃σ' H',Inv X pins σ' H' s'∧D.ct σ' H'
 | .ret u=>∃v σ' H',Inv X pins σ' H' s'∧RelV v u∧D.rt v H'
def PE(X:Cx)(e:Expr)(t:TE):Prop:=
 ∀(pins:aQ) (s:Shared) (σ:St) (H:Hp) (Q:VK),Inv X pins σ H s→t σ H Q→wpAny (model X.prog X.w) X.A (eval e X.env) (EP X pins σ Q) X.xe s
def PT(X:Cx)(e:Expr)(t:TT):Prop:=
 ∀(pins:aQ) (s:Shared) (σ:St) (H:Hp) (Q:Bool→Hp→Prop),Inv X pins σ H s→t σ H Q→wpAny (model X.prog X.w) X.A (isTrue e X.env (eval e X.env)) (TP X pins σ Q) X.xe s
def PW(X:Cx)(e:Expr)(t:TT):Prop:=
 ∀(whole:Sem Value) (pins:aQ) (s:Shared) (σ:St) (H:Hp) (Q:Bool→Hp→Prop),Inv X pins σ H s→t σ H Q→wpAny (model X.prog X.w) X.A (isTrue e X.env whole) (TP X pins σ Q) X.xe s
variable {X:Cx}
theorem PW.pt{e:Expr}{t:TT}(h:PW X e t):PT X e t:=h _
def PA(X:Cx)(es:List Expr)(t:TA):Prop:=
 ∀(pos:Pos) (pins:aQ) (s:Shared) (σ:St) (H:Hp) (Q:List V→Hp→Prop),Inv X pins σ H s→t σ H Q→wpAny (model X.prog X.w) X.A (spliced (backTo pos (starEach es X.env))) (AP X pins σ Q) X.xe s
def PS(X:Cx)(st:Stmt)(t:TS):Prop:=
 ∀(pins:aQ) (s:Shared) (σ:St) (H:Hp) (D:Ends),Inv X pins σ H s→t D σ H→wpAny (model X.prog X.w) X.A (exec st X.env) (SP X pins D) X.xe s
def fO(X:Cx)(st:List Stmt)(t:TS):Prop:=
 ∀(pins:aQ) (s:Shared) (σ:St) (H:Hp) (D:Ends),Inv X pins σ H s→t D σ H→wpAny (model X.prog X.w) X.A (execs st X.env) (SP X pins D) X.xe s
variable {M:Model} {A:Around} {E:aK} {s:Shared}
theorem aM{α:Type}{t:Sem α}{Q Q':α→Shared→Prop}(h:wpAny M A t Q E s)(hQ:∀a s,Q a s→Q' a s):wpAny M A t Q' E s:=bC h hQ fun _ _ x=>x
section
variable {X:Cx}
variable {pins:aQ} {σ:St}
theorem bin{a b:Expr}{ta tb:TE}(ha:PE X a ta)(hb:PE X b tb){R:V→V→Hp→Prop}(I:Inv X pins σ H s)(h:ta σ H fun x H1=>tb σ H1 fun y H2=>R x y H2)
  {α:Type} {Q:α→Shared→Prop} {f:Value→Value→Sem α}
  (hf:∀v u s2 x y H2,Inv X pins σ H2 s2→RelV x v→RelV y u→R x y H2→wpAny (model X.prog X.w) X.A (f v u) Q X.xe s2) :
  wpAny (model X.prog X.w) X.A (eval a X.env) (fun v s₁=>wpAny (model X.prog X.w) X.A (eval b X.env) (fun u s₂=>wpAny (model X.prog X.w) X.A (f v u) Q X.xe s₂) X.xe s₁) X.xe s:=by
 refine aM (ha pins s σ H _ I h) fun v s1 ⟨x,H1,I1,r1,q1⟩=>?_;refine aM (hb pins s1 σ H1 _ I1 q1) fun u s2 ⟨y,H2,I2,r2,q2⟩=>?_;exact hf v u s2 x y H2 I2 r1 r2 q2
def Ft(i:Nat):TE:=fun σ H Q=>∃v,σ[i]?=some (some v)∧Q v H
def tC(v:V):TE:=fun _ H Q=>Q v H
variable {x:Str} {pos:Pos}
theorem Ma{i:Nat}(hN:X.N[i]?=some x)(hv:nV X.env.scope x)(hd:(x == ("__debug__":Str))=false:=by decide)(iH:(x == ("__classdict__":Str))=false:=by decide):PE X (.Name x pos) (Ft i):=by
 intro pins s σ H Q I h;obtain ⟨v,e,h⟩:=h;obtain ⟨m,hn,hl⟩:=I.loc;obtain ⟨u,r,l⟩:=hl i x v hN e hv;have fin:EP X pins σ Q u s:=⟨v,H,I,r,h⟩;rcases l with ⟨hk,hm⟩ | ⟨hk,c,hc,Fu⟩;·exact wpAny_Name (wpAny_loadName_local I.ok.kind hk hn hm fin) hd
 ·rcases hk with hk | hk
  ·exact wpAny_Name (wpAny_loadName_cell I.ok.kind hk hc Fu fin) hd
  ·exact wpAny_Name (wpAny_loadName_free I.ok.kind hk hc Fu fin iH) hd
theorem aE{i j pos}:PE X (.Constant (.int i) j pos) (tC (.int i)):=fun _ _ _ H _ I h=>wpAny_Constant_int ⟨.int i,H,I.tok _,⟨_,rfl⟩,h⟩
theorem fD{b j pos}:PE X (.Constant (.bool b) j pos) (tC (.bl b)):=fun _ _ _ H _ I h=>Constant_bool ⟨.bl b,H,I,rfl,h⟩
theorem Fv{j pos}:PE X (.Constant .none j pos) (tC .aN):=fun _ _ _ H _ I h=>Constant_none ⟨.aN,H,I,rfl,h⟩
theorem Fw{x j pos}:PE X (.Constant (.str x) j pos) (tC (.str x)):=fun _ _ _ H _ I h=>Calls.Constant_str ⟨.str x,H,I.tok _,⟨_,rfl⟩,h⟩
def Gl(X:Cx)(x:Str):Prop:=X.env.kindOf x=some .globalImplicit
variable {u:Value} {Q:aK}
theorem BI(I:Inv X pins σ H s)(hg:Gl X x)(hm:X.mg x=some u)(h:Q u s)
  (hd:(x == ("__debug__":Str))=false:=by decide):wpAny (model X.prog X.w) X.A (eval (.Name x pos) X.env) Q E s:=
 Calls.Name_function_global I.ok.kind hg (Calls.loadGlobal_global (by rw [I.ok.glob];exact I.mod.glob.keeps I.bk) hm h) hd
theorem mF(I:Inv X pins σ H s)(hg:Gl X x)(hm:X.mg x=none)(hv:bootBuiltins x=some u)(h:Q u s)
  (hn:x ≠ "__name__":=by decide) (hd:(x == ("__debug__":Str))=false:=by decide):wpAny (model X.prog X.w) X.A (eval (.Name x pos) X.env) Q E s:=by
 obtain ⟨mb,h1,h2⟩:=I.mod.blt;exact Calls.Name_function_global I.ok.kind hg (Calls.loadGlobal_builtin (by rw [I.ok.glob];exact I.mod.glob.keeps I.bk) hm (by rw [I.ok.blt];exact h1.keeps I.bk) ((h2 x hn).trans hv) h) hd
theorem Mb{v:V}(hg:Gl X x)(hm:X.mg x=some u)(r:RelV v u)(hd:(x == ("__debug__":Str))=false:=by decide):PE X (.Name x pos) (tC v):=
 fun _ _ _ H _ I h=>BI I hg hm ⟨v,H,I,r,h⟩ hd
theorem pP{v:V}(hg:Gl X x)(hm:X.mg x=none)(hv:bootBuiltins x=some u)(r:RelV v u)(hn:x ≠ "__name__":=by decide)(hd:(x == ("__debug__":Str))=false:=by decide):PE X (.Name x pos) (tC v):=
 fun _ _ _ H _ I h=>mF I hg hm hv ⟨v,H,I,r,h⟩ hn hd
variable {a b:Expr} {ta tb:TE} {pos:Pos}
def PC(X:Cx)(op:CmpOp)(a b:Expr)(t:TE):Prop:=
 ∀(pins:aQ) (s:Shared) (σ:St) (H:Hp) (Q:VK),Inv X pins σ H s→t σ H Q→
  wpAny (model X.prog X.w) X.A (eval a X.env) (fun v s₁=>wpAny (model X.prog X.w) X.A (eval b X.env) (fun u s₂=>wpAny (model X.prog X.w) X.A (compareOp op v u) (EP X pins σ Q) X.xe s₂) X.xe s₁) X.xe s
def tB(t:TE):TT:=fun σ H Q=>t σ H fun x H1=>∃c,x=.bl c∧Q c H1
variable {op:CmpOp}
theorem Mc{t:TE}(h:PC X op a b t)(h1:behindInMarks op b=false:=by first | exact Md _ (by decide) (by decide) | rfl):PE X (.Compare a [op] [b] pos) t:=fun pins s σ H Q I hw=>wpAny_Compare1 (h pins s σ H Q I hw) h1
theorem BJ{t:TE}(h:PC X op a b t)(h1:behindInMarks op b=false:=by first | exact Md _ (by decide) (by decide) | rfl):PT X (.Compare a [op] [b] pos) (tB t):=by intro pins s σ H Q I hw;refine wpAny_isTrue_Compare1 (aM (h pins s σ H _ I hw) fun v s1 h1=>aM h1 fun u s2 h2=>aM h2 fun c s3 ⟨x,H1,I1,r1,q1⟩=>?_) h1;obtain ⟨d,rfl,q⟩:=q1;cases r1;exact md ⟨H1,I1,q⟩
theorem kZ{e:Expr}{t:TE}(h:PE X e t)(he:∀whole,isTrue e X.env whole=(do let v ←whole;standAt e.pos;holding [v] (truthy v)):=by intro _;rfl):PT X e (tB t):=by
 intro pins s σ H Q I hw
 refine isTrue_plain (aM (h pins s σ H _ I hw) fun v s1 ⟨x,H1,I1,r1,q1⟩=>?_) (he _)
 obtain ⟨d,rfl,q⟩:=q1
 cases r1
 exact md ⟨H1,I1,q⟩
variable {tA vY:TT} {rest:List Expr}
def Me(t u:TT):TT:=fun σ H Q=>t σ H fun c H1=>if c=true then u σ H1 Q else Q false H1
def Mf(t u:TT):TT:=fun σ H Q=>t σ H fun c H1=>if c=true then Q true H1 else u σ H1 Q
def Fx(t:TT):TT:=fun σ H Q=>t σ H fun c H1=>Q (!c) H1
theorem pw_and1(ha:PT X a tA):PW X (.BoolOp .And [a] pos) tA:=by
 intro wh pins s σ H Q I h;refine isTrue_and (aM (ha pins s σ H Q I h) fun c s1 e=>?_);cases c with
 | true=>exact isTrue_and_nil e
 | false=>exact e
theorem pw_or1(ha:PT X a tA):PW X (.BoolOp .Or [a] pos) tA:=by
 intro wh pins s σ H Q I h;refine isTrue_or (aM (ha pins s σ H Q I h) fun c s1 e=>?_);cases c with
 | false=>exact isTrue_or_nil e
 | true=>exact e
theorem pw_and(ha:PT X a tA)(hb:PW X (.BoolOp .And (b::rest) pos) vY):PW X (.BoolOp .And (a::b::rest) pos) (Me tA vY):=by
 intro wh pins s σ H Q I h;refine isTrue_and (aM (ha pins s σ H _ I h) fun c s1 ⟨H1,I1,q1⟩=>?_);cases c with
 | true=>exact hb wh pins s1 σ H1 Q I1 q1
 | false=>exact ⟨H1,I1,q1⟩
theorem pw_or(ha:PT X a tA)(hb:PW X (.BoolOp .Or (b::rest) pos) vY):PW X (.BoolOp .Or (a::b::rest) pos) (Mf tA vY):=by
 intro wh pins s σ H Q I h;refine isTrue_or (aM (ha pins s σ H _ I h) fun c s1 ⟨H1,I1,q1⟩=>?_);cases c with
 | true=>exact ⟨H1,I1,q1⟩
 | false=>exact hb wh pins s1 σ H1 Q I1 q1
theorem pQ(ha:PT X a tA):PT X (.UnaryOp .Not a pos) (Fx tA):=by intro pins s σ H Q I h;exact isTrue_not (ha pins s σ H (fun c H1=>Q (!c) H1) I h)
def Mg(ta tb:TE):TE:=fun σ H Q=>ta σ H fun x H1=>∃c,x=.bl c∧if c=true then tb σ H1 Q else Q (.bl false) H1
def Mh(ta tb:TE):TE:=fun σ H Q=>ta σ H fun x H1=>∃c,x=.bl c∧if c=true then Q (.bl true) H1 else tb σ H1 Q
def Mi(ta:TE):TE:=fun σ H Q=>ta σ H fun x H1=>∃c,x=.bl c∧Q (.bl (!c)) H1
theorem Fy{op}{t:TE}(h:PE X a t):PE X (.BoolOp op [a] pos) t:=fun pins s σ H Q I hw=>BoolOp_one (h pins s σ H Q I hw)
theorem Mj(ha:PE X a ta)(hb:PE X (.BoolOp .And (b::rest) pos) tb):PE X (.BoolOp .And (a::b::rest) pos) (Mg ta tb):=by
 intro pins s σ H Q I h;refine BoolOp_and (aM (ha pins s σ H _ I h) fun v s1 ⟨x,H1,I1,r1,q1⟩=>?_);obtain ⟨c,rfl,q1⟩:=q1;cases r1;refine md ?_;cases c with
 | true=>exact hb pins s1 σ H1 Q I1 q1
 | false=>exact ⟨.bl false,H1,I1,rfl,q1⟩
theorem Mk(ha:PE X a ta)(hb:PE X (.BoolOp .Or (b::rest) pos) tb):PE X (.BoolOp .Or (a::b::rest) pos) (Mh ta tb):=by
 intro pins s σ H Q I h;refine BoolOp_or (aM (ha pins s σ H _ I h) fun v s1 ⟨x,H1,I1,r1,q1⟩=>?_);obtain ⟨c,rfl,q1⟩:=q1;cases r1;refine md ?_;cases c with
 | false=>exact hb pins s1 σ H1 Q I1 q1
 | true=>exact ⟨.bl true,H1,I1,rfl,q1⟩
theorem Ml(ha:PE X a ta):PE X (.UnaryOp .Not a pos) (Mi ta):=by intro pins s σ H Q I h;refine UnaryOp_ (aM (ha pins s σ H _ I h) fun v s1 ⟨x,H1,I1,r1,q1⟩=>?_);obtain ⟨c,rfl,q1⟩:=q1;cases r1;exact not_of (md ⟨.bl (!c),H1,I1,rfl,q1⟩)
end
def bt(K:aH)(H:Hp)(a:Addr)(xs:List V):Prop:=
 Rd H a (.lst xs) ∨
  ∃(o:Obj) (ak:Array Value) (n:Nat),K.lookup a=some o∧o.cls=.type "list"∧o.dict=none∧o.data=.seq ak n∧ak.size≤sizeLine∧Vals xs ak.toList
def dU(K:aH)(H:Hp)(a:Addr)(xs:List V):Prop:=
 Rd H a (.tup xs) ∨
  ∃(o:Obj) (ak:Array Value) (n:Nat),K.lookup a=some o∧o.cls=.type "tuple"∧o.data=.seq ak n∧ak.size≤sizeLine∧Vals xs ak.toList
def Mm:Value→Option V
 | .none=>some .aN
 | .bool b=>some (.bl b)
 | .int i _=>some (.int i)
 | .str x _=>some (.str x)
 | .bytes b _=>some (.jV b)
 | .float b _=>some (.s_ b)
 | .ref a=>some (.ref a)
 | .type n=>some (.ty n)
 | _=>none
variable {x:V} {u:Value}
theorem RelV.abs(r:RelV x u):Mm u=some x:=by
 cases x with
 | aN=>cases r;rfl
 | bl _=>cases r;rfl
 | int _=>obtain ⟨t,rfl⟩:=r;rfl
 | str _=>obtain ⟨t,rfl⟩:=r;rfl
 | jV _=>obtain ⟨t,rfl⟩:=r;rfl
 | s_ _=>obtain ⟨t,rfl⟩:=r;rfl
 | ref _=>cases r;rfl
 | ty _=>cases r;rfl
theorem RelV.inj{y:V}(r:RelV x u)(q:RelV y u):x=y:=Option.some.inj (r.abs.symm.trans q.abs)
theorem Vals.inj:∀{xs ys:List V} {us:List Value},Vals xs us→Vals ys us→xs=ys
 | _,_,_,.nil,.nil=>rfl
 | _,_,_,.cons r t,.cons r' t'=>by rw [r.inj r',Vals.inj t t']
section
variable {X:Cx} {pins:aQ} {σ:St} {H:Hp} {s:Shared} {a:Addr} {xs ys:List V}
variable {K:aH}
theorem bt.of(h:H a=some (.lst xs)):bt K H a xs:=.inl (.inl h)
theorem dU.of(h:H a=some (.tup xs)):dU K H a xs:=.inl (.inl h)
theorem Inv.list(I:Inv X pins σ H s)(h:bt X.K H a xs):∃ak:List Value,Vals xs ak∧PlainL s.heap a ak.toArray∧xs.length≤sizeLine:=by
 rcases h with h | ⟨o,ak,n,hk,hc,hd,hs,hz,r⟩
 ·obtain ⟨z,ak,n,r,e⟩:=h.ok I.ay
  exact ⟨ak,r,⟨_,n,e,rfl,rfl,rfl⟩,z⟩
 ·refine ⟨ak.toList,r,⟨o,n,I.fB a o hk,hc,hd,by simpa using hs⟩,?_⟩
  have e:=r.length;simp only [eA] at e;omega
theorem Inv.tuple(I:Inv X pins σ H s)(h:dU X.K H a xs):∃ak:List Value,Vals xs ak∧IsTup s.heap a ak.toArray∧xs.length≤sizeLine:=by
 rcases h with h | ⟨o,ak,n,hk,hc,hs,hz,r⟩
 ·obtain ⟨z,ak,r,p⟩:=h.ok I.ay
  exact ⟨ak,r,p,z⟩
 ·refine ⟨ak.toList,r,⟨o,I.fB a o hk,hc,n,by simpa using hs⟩,?_⟩
  have e:=r.length;simp only [eA] at e;omega
theorem Inv.Fz(I:Inv X pins σ H s)(h:bt X.K H a xs)(h':bt X.K H a ys):xs=ys:=by
 obtain ⟨ak,r,⟨o,n,e,_,_,d⟩,_⟩:=I.list h;obtain ⟨its',r',⟨o',n',e',_,_,d'⟩,_⟩:=I.list h';rw [e] at e';cases e';rw [d] at d';injection d' with d1 _;have:ak=its':=by simpa using d8 Array.toList d1
 subst this;exact r.inj r'
theorem Inv.Mn(I:Inv X pins σ H s)(h:dU X.K H a xs)(h':dU X.K H a ys):xs=ys:=by
 obtain ⟨ak,r,⟨o,e,_,n,d⟩,_⟩:=I.tuple h;obtain ⟨its',r',⟨o',e',_,n',d'⟩,_⟩:=I.tuple h';rw [e] at e';cases e';rw [d] at d';injection d' with d1 _;have:ak=its':=by simpa using d8 Array.toList d1
 subst this;exact r.inj r'
end
abbrev Cx.k4 (X:Cx) (E:aK):Cx:={X with xe:=E}
abbrev Cx.pR (X:Cx):Cx:=X.k4 fun _ _=>False
theorem Cx.Ok.k4(ok:X.Ok)(E:aK):(X.k4 E).Ok:=
 ⟨ok.mod,ok.kind,ok.glob,ok.blt,ok.above,ok.inj,ok.has,ok.pM,ok.hd,ok.frames,ok.iZ,ok.Fg,ok.bs,ok.iG,ok.nW,ok.nX,ok.jX,ok.nY⟩
theorem Cx.Ok.n6(ok:(X.k4 E).Ok):X.Ok:=
 ⟨ok.mod,ok.kind,ok.glob,ok.blt,ok.above,ok.inj,ok.has,ok.pM,ok.hd,ok.frames,ok.iZ,ok.Fg,ok.bs,ok.iG,ok.nW,ok.nX,ok.jX,ok.nY⟩
section
variable {X:Cx} {pins:aQ} {σ:St} {H:Hp} {s:Shared} {E:aK}
theorem Inv.k4(I:Inv X pins σ H s)(E:aK):Inv (X.k4 E) pins σ H s:=⟨I.ok.k4 E,I.os,I.bare,I.base,I.loc,I.cell,I.free,I.i3,I.pin,I.ay,I.len⟩
theorem Inv.n6(I:Inv (X.k4 E) pins σ H s):Inv X pins σ H s:=⟨I.ok.n6,I.os,I.bare,I.base,I.loc,I.cell,I.free,I.i3,I.pin,I.ay,I.len⟩
theorem SP.n6{D:Ends}{f:Flow}{s':Shared}(h:SP (X.k4 E) pins D f s'):SP X pins D f s':=by
 cases f with
 | next=>obtain ⟨σ',H',I,q⟩:=h;exact ⟨σ',H',I.n6,q⟩
 | brk=>obtain ⟨σ',H',I,q⟩:=h;exact ⟨σ',H',I.n6,q⟩
 | cont=>obtain ⟨σ',H',I,q⟩:=h;exact ⟨σ',H',I.n6,q⟩
 | ret u=>obtain ⟨v,σ',H',I,r,q⟩:=h;exact ⟨v,σ',H',I.n6,r,q⟩
theorem fO.pR{st:List Stmt}{t:TS}(h:fO X.pR st t):fO X st t:=fun pins s σ H D I hw=>bC (h pins s σ H D (I.k4 _) hw) (fun _ _ q=>q.n6) fun _ _ z=>False.elim z
end
section
variable {X:Cx} {st:Stmt} {rest:List Stmt} {t u:TS} {e:Expr} {te:TE} {pos:Pos}
def g6:TS:=fun D σ H=>D.nx σ H
def BK(t u:TS):TS:=fun D σ H=>t {D with nx:=u D} σ H
theorem cT:fO X [] g6:=fun _ _ σ H _ I h=>yk ⟨σ,H,I,h⟩
theorem aB(h1:PS X st t)(h2:fO X rest u):fO X (st::rest) (BK t u):=by
 intro pins s σ H D I h;refine wpAny_execs_cons (aM (h1 pins s σ H {D with nx:=u D} I h) fun f s1 q=>?_);cases f with
 | next=>obtain ⟨σ',H',I',q⟩:=q;exact h2 pins s1 σ' H' D I' q
 | ret v=>exact q
 | brk=>exact q
 | cont=>exact q
theorem aG(h1:PS X st t):fO X [st] t:=by
 intro pins s σ H D I h;refine wpAny_execs_cons (aM (h1 pins s σ H D I h) fun f s1 q=>?_);cases f with
 | next=>exact yk q
 | ret v=>exact q
 | brk=>exact q
 | cont=>exact q
theorem Inv.quiet{pins:aQ}{σ:St}(I:Inv X pins σ H s):interactive X.env=false:=by simp [interactive,I.ok.kind]
def Mo(te:TE):TS:=fun D σ H=>te σ H fun _ H1=>D.nx σ H1
theorem eO(he:PE X e te)(hs:swapsWith e none pos.line X.env=pure false:=by rfl):PS X (.Expr e pos) (Mo te):=by intro pins s σ H D I h;exact wpAny_Expr_any (aM (he pins s σ H _ I h) fun v s1 ⟨x,H1,I1,r1,q1⟩=>⟨σ,H1,I1,q1⟩) I.quiet hs
def FA(te:TE):TS:=fun D σ H=>te σ H D.rt
theorem bI(he:PE X e te):PS X (.Return (some e) pos) (FA te):=by intro pins s σ H D I h;exact wpAny_Return_some (aM (he pins s σ H _ I h) fun v s1 ⟨x,H1,I1,r1,q1⟩=>⟨x,σ,H1,I1,r1,q1⟩)
def yO(c:TT)(t u:TS):TS:=fun D σ H=>c σ H fun b H1=>if b=true then t D σ H1 else u D σ H1
theorem cU{c:Expr}{a b:List Stmt}{tc:TT}(hc:PT X c tc)(ha:fO X a t)(hb:fO X b u):PS X (.If c a b pos) (yO tc t u):=by
 intro pins s σ H D I h;refine wpAny_If (aM (hc pins s σ H _ I h) fun d s1 ⟨H1,I1,q1⟩=>?_);cases d with
 | true=>exact ha pins s1 σ H1 D I1 q1
 | false=>exact hb pins s1 σ H1 D I1 q1
end
abbrev TG:=V→St→Hp→(St→Hp→Prop)→Prop
abbrev pU:=List V→St→Hp→(St→Hp→Prop)→Prop
def PG(X:Cx)(target:Expr)(t:TG):Prop:=
 ∀(pins:aQ) (s:Shared) (σ:St) (H:Hp) (v:V) (u:Value) (Q:St→Hp→Prop),Inv X pins σ H s→RelV v u→t v σ H Q→
  wpAny (model X.prog X.w) X.A (assign target X.env u) (fun _ s'=>∃σ' H',Inv X pins σ' H' s'∧Q σ' H') X.xe s
def yP(X:Cx)(ts:List Expr)(t:pU):Prop:=
 ∀(pins:aQ) (s:Shared) (σ:St) (H:Hp) (vs:List V) (us:List Value) (Q:St→Hp→Prop),Inv X pins σ H s→Vals vs us→t vs σ H Q→
  wpAny (model X.prog X.w) X.A (assignInOrder ((assignEach ts X.env).map (·.2)) us) (fun _ s'=>∃σ' H',Inv X pins σ' H' s'∧Q σ' H') X.xe s
abbrev BL:=V→V→V→Hp→(Hp→Prop)→Prop
def FC(X:Cx)(t:BL):Prop:=
 ∀(pins:aQ) (s:Shared) (σ:St) (H:Hp) (o i v:V) (ov iv u:Value) (Q:Hp→Prop),Inv X pins σ H s→RelV o ov→RelV i iv→RelV v u→t o i v H Q→
  wpAny (model X.prog X.w) X.A (setItem ov iv u) (fun _ s'=>∃H',Inv X pins σ H' s'∧Q H') X.xe s
section
variable {X:Cx} {pos:Pos}
def aO(i:Nat):TG:=fun v σ H Q=>Q (σ.set i (some v)) H
variable {i:Nat}
theorem cy{x:Str}(hN:X.N.Nodup)(hi:X.N[i]?=some x)(hx:Loc X.env.scope x)(hf:X.fn x=true∨X.env.scope.names.lookup x=some .local:=by first | exact .inl rfl | exact .inr rfl | assumption):PG X (.Name x pos) (aO i):=by intro pins s σ H v u Q I r h;exact wpAny_assign_Name (Fs I hN hi hx r (fun s' I'=>⟨_,H,I',h⟩) hf)
def FD:pU:=fun vs σ H Q=>vs=[]∧Q σ H
def BM(t:TG)(u:pU):pU:=fun vs σ H Q=>∃v r,vs=v::r∧t v σ H fun σ' H'=>u r σ' H' Q
theorem pV:yP X [] FD:=by intro pins s σ H vs us Q I r h;obtain ⟨e,h⟩:=h;subst e;cases r;exact assignInOrder_nil ⟨σ,H,I,h⟩
variable {e:Expr} {es:List Expr}
theorem iI{t:TG}{u:pU}(h1:PG X e t)(h2:yP X es u)
  (hs:(assignEach (e::es) X.env).map (·.2)=assign e X.env::(assignEach es X.env).map (·.2):=by rfl):yP X (e::es) (BM t u):=by
 intro pins s σ H vs us Q I r h;obtain ⟨v,vr,e1,h⟩:=h;subst e1;cases r with
 | cons r rr=>rw [hs];refine assignInOrder_cons (aM (h1 pins s σ H _ _ _ I r h) fun _ s1 ⟨σ1,H1,I1,q1⟩=>?_);exact h2 pins s1 σ1 H1 _ _ Q I1 rr q1
def FE(K:aH)(n:Nat)(t:pU):TG:=fun v σ H Q=>∃a xs,v=.ref a∧dU K H a xs∧xs.length=n∧t xs σ H Q
theorem pW{k:Nat}{t:pU}{n:Nat}(hc:X.calm=true)(h:yP X es t)
  (hn:(assignEach es X.env).length=n:=by rfl) (Mp:(assignEach es X.env).findIdx? (·.1)=none:=by rfl):PG X (.Tuple es k pos) (FE X.K n t):=by
 intro pins s σ H v u Q I r hw;obtain ⟨a,xs,e1,hq,hl,hw⟩:=hw;subst e1;cases r;obtain ⟨ak,rv,ht,hz⟩:=I.tuple hq;refine assign_Tuple_tuple (I.ok.hd hc) ht (by simp [hn,←hl,rv.length]) Mp fun h' hx=>?_
 have I1:Inv X pins σ H {s with heap:=h'}:=I.kept (t':=s.toks) fun b o e=>hx b o (bL (aT e)) e;exact h pins _ σ H xs _ Q I1 (by simpa using rv) hw
def Mq(to ti:TE)(t:BL):TG:=fun v σ H Q=>to σ H fun o H1=>ti σ H1 fun i H2=>t o i v H2 fun H3=>Q σ H3
theorem vZ{o i:Expr}{to ti:TE}{t:BL}(ho:PE X o to)(hi:PE X i ti)(hs:FC X t)
  (ha:∀v,assign (.Subscript o i pos) X.env v=(do
   let ov ←holding [v] (eval o X.env)
   let iv ←holding [v,ov] (eval i X.env)
   standAt pos
   holding [v,ov,iv] (setItem ov iv v)
   release [v,ov,iv] []):=by intro _;rfl):PG X (.Subscript o i pos) (Mq to ti t):=by
 intro pins s σ H v u Q I r h
 rw [ha]
 refine aC (kJ (aM (ho pins s σ H _ I h) fun ov s1 ⟨x,H1,I1,r1,q1⟩=>?_))
 refine aC (kJ (aM (hi pins s1 σ H1 _ I1 q1) fun iv s2 ⟨y,H2,I2,r2,q2⟩=>?_))
 refine aC (o6 (aC (kJ (aM (hs pins s2 σ H2 x y v ov iv u _ I2 r1 r2 r q2) fun _ s3 ⟨H3,I3,q3⟩=>?_))))
 exact wpAny_release ⟨σ,H3,I3,q3⟩
def n8(te:TE)(g:TG):TS:=fun D σ H=>te σ H fun x H1=>g x σ H1 D.nx
theorem tw{tg e:Expr}{te:TE}{g:TG}(he:PE X e te)(hg:PG X tg g)(hs:swapsWithSole [tg] e pos.line X.env=pure false:=by rfl)(hw:swappedStores [tg] e X.env=pure none:=by rfl)
  (h1:(assignEach [tg] X.env).map (·.2)=[assign tg X.env]:=by rfl):PS X (.Assign [tg] e pos) (n8 te g):=by
 intro pins s σ H D I h;refine wpAny_Assign_stores (aM (he pins s σ H _ I h) fun v s1 ⟨x,H1,I1,r1,q1⟩=>?_) hs hw;rw [h1];exact aM (hg pins s1 σ H1 x v _ I1 r1 q1) fun _ s2 q=>q
theorem Mr{x:Str}{te:TE}{pos':Pos}(hN:X.N.Nodup)(hi:X.N[i]?=some x)(hx:Loc X.env.scope x)(he:PE X e te)(hs:swapsWith e (some (.Name x pos')) pos.line X.env=pure false:=by rfl)(hf:X.fn x=true∨X.env.scope.names.lookup x=some .local:=by first | exact .inl rfl | exact .inr rfl | assumption) :
  PS X (.Assign [.Name x pos'] e pos) (n8 te (aO i)):=by
 intro pins s σ H D I h;refine wpAny_Assign_Name (aM (he pins s σ H _ I h) fun v s1 ⟨y,H1,I1,r1,q1⟩=>?_) hs;exact Fs I1 hN hi hx r1 (fun s2 I2=>⟨_,H1,I2,q1⟩) hf
end
section
variable {X:Cx} {pos:Pos}
def Ms(c:TT)(tb:TS):TS:=fun D σ H=>∃W:Nat→St→Hp→Prop,(∃m,W m σ H)∧∀m σ H,W m σ H→
 c σ H fun b H1=>if b=true then ∃N:St→Hp→Prop,(∀σ' H',N σ' H'→∃m',m'<m∧W m' σ' H')∧tb {D with nx:=N,ct:=N,bk:=D.nx} σ H1 else D.nx σ H1
theorem v_{c:Expr}{body:List Stmt}{tc:TT}{tb:TS}(hp:PassesOwn (model X.prog X.w) X.A X.env X.xe)(hc:PT X c tc)(hb:fO X body tb):PS X (.While c body [] pos) (Ms tc tb):=by
 intro pins s σ H D I h;obtain ⟨W,⟨m0,w0⟩,turn⟩:=h;refine wpAny_While (codeAny_whileLoop (fun n s'=>∃σ' H',Inv X pins σ' H' s'∧W n σ' H') ?_ m0 ⟨σ,H,I,w0⟩);rintro n s1 ⟨σ1,H1,I1,w1⟩;refine o7 hp (aM (hc pins s1 σ1 H1 _ I1 (turn n σ1 H1 w1)) fun b s2 ⟨H2,I2,q2⟩=>?_);cases b with
 | true=>
  obtain ⟨N,hN,q2⟩:=q2;rw [ae rfl];refine o7 hp (aM (hb pins s2 σ1 H2 _ I2 q2) fun f s3 q3=>?_);cases f with
  | next=>obtain ⟨σ3,H3,I3,n3⟩:=q3;obtain ⟨m',hm,w3⟩:=hN σ3 H3 n3;exact ⟨m',hm,σ3,H3,I3,w3⟩
  | cont=>obtain ⟨σ3,H3,I3,n3⟩:=q3;obtain ⟨m',hm,w3⟩:=hN σ3 H3 n3;exact ⟨m',hm,σ3,H3,I3,w3⟩
  | brk=>exact q3
  | ret v=>exact q3
 | false=>rw [aa dz];exact yk ⟨σ1,H2,I2,q2⟩
end
structure It where
 go:Nat→Hp→Prop
 dW:Nat→Hp→V→Hp→Prop
 stop:Nat→Hp→Prop
def k6(X:Cx)(pins:aQ)(H:Hp)(b:Addr):Prop:=
 H b=none∧b≠X.env.locals∧b∉X.fs∧(b∈X.ex∨X.s₀.heap.objs.size≤b)∧(∀x c,X.env.cells.lookup x=some c→c≠b)∧∀p∈X.pn++pins,p.1≠b
variable {σ:St}
theorem Inv.wa{pins:aQ}{H':Hp}(I:Inv X pins σ H s)(hb:s.heap.objs.size≤b)(hn:H' b=none):k6 X pins H' b:=by
 refine ⟨hn,Nat.ne_of_gt (dA I.lt hb),I.L4 hb,.inr (a9 I.sz hb),fun x c e z=>?_,fun p hp z=>?_⟩
 ·obtain ⟨v,q⟩:=I.cell x c e
  exact absurd (dA q.lt (by rw [z];exact hb)) (dG _)
 ·exact absurd (dA (aT (I.pin p hp).1) (by rw [z];exact hb)) (dG _)
structure Turn (P:Program) (w:World) (K:aH) (tg:Expr) (J:It) (fp:List Addr) (it:Addr) (tn:Nat→Heap→Prop):Prop where
 mem:it∈fp
 obj:∀i h,tn i h→∀b∈fp,∃o,h.get? b=some o∧∀v,o.data≠.cell v
 keep:∀i h h',tn i h→(∀b∈fp,∀o,h.get? b=some o→h'.get? b=some o)→tn i h'
 item:∀(X:Cx),X.prog=P→X.w=w→X.K=K→X.calm=true→∀(i:Nat) (pins:aQ) (s:Shared) (σ:St) (H:Hp) (E:aK),Inv X pins σ H s→(∀b∈fp,k6 X pins H b)→tn i s.heap→J.go i H→
  wpAny (model P w) X.A (pyNext (.ref it)) (fun r s1=>∃u,r=some u ∧
   wpAny (model P w) X.A (letOwnedTupleGo tg (.ref it) u) (fun _ s2=>∃x H',Inv X pins σ H' s2∧RelV x u∧J.dW i H x H'∧tn (i+1) s2.heap∧∀b∈fp,H' b=none) E s1) E s
 done:∀(X:Cx),X.prog=P→X.w=w→X.K=K→X.calm=true→∀(i:Nat) (pins:aQ) (s:Shared) (σ:St) (H:Hp) (E:aK),Inv X pins σ H s→(∀b∈fp,k6 X pins H b)→tn i s.heap→J.stop i H→
  wpAny (model P w) X.A (pyNext (.ref it)) (fun r s1=>r=none∧Inv X pins σ H s1) E s
 self:∀(A:Around) (i:Nat) (s:Shared) (Q:aK) (E:aK),tn i s.heap→Q (.ref it) s→wpAny (model P w) A (pyIter (.ref it)) Q E s
abbrev TI:=St→Hp→(It→Hp→Prop)→Prop
def BN(X:Cx)(pins:aQ)(σ:St)(tg:Expr)(R:It→Hp→Prop)(tD:Value)(s2:Shared):Prop:=
 ∃(it:Addr) (fp:List Addr) (tn:Nat→Heap→Prop) (J:It) (H':Hp),tD=.ref it∧Inv X pins σ H' s2∧Turn X.prog X.w X.K tg J fp it tn∧tn 0 s2.heap∧(∀b∈fp,k6 X pins H' b)∧R J H'
def PI(X:Cx)(tg iter:Expr)(wi:TI):Prop:=
 ∀(pins:aQ) (s:Shared) (σ:St) (H:Hp) (R:It→Hp→Prop),Inv X pins σ H s→wi σ H R→
  wpAny (model X.prog X.w) X.A (eval iter X.env) (fun v s1=>wpAny (model X.prog X.w) X.A (pyIter v) (BN X pins σ tg R) X.xe s1) X.xe s
variable {tg:Expr}
theorem yQ{it:Addr}{o:Obj}{n:String}{vs:Array Value}{Q:Unit→Shared→Prop}(ho:s.heap.get? it=some o)(hc:o.cls=.type n)(hd:o.data=.fields vs)
    (hn:["enumerate","zip","dict_itemiterator","dict_reverseitemiterator","odict_iterator","itertools.zip_longest","itertools.pairwise"].contains n=false) (hQ:Q () s):wpAny M A (letOwnedTupleGo tg (.ref it) u) Q E s:=by
  unfold letOwnedTupleGo
  cases tg <;> first
    | exact bE hQ
    | (cases u <;> first
        | exact bE hQ
        | (refine aC (wpAny_load ho ?_)
           rw [hc,hd];show wpAny M A (if (["enumerate","zip","dict_itemiterator","dict_reverseitemiterator","odict_iterator","itertools.zip_longest","itertools.pairwise"].contains n && vs[0]? == some (rawInt _))=true then _ else _) Q E s
           rw [aa (by intro h;rw [hn,vG] at h;cases h)]
           exact bE hQ))
def mG(K:aH)(a:Addr):It:=
 ⟨fun i H=>∃xs x,bt K H a xs∧xs[i]?=some x,fun i H x H'=>H'=H∧∀xs,bt K H a xs→xs[i]?=some x,fun i H=>∃xs,bt K H a xs∧xs.length≤i⟩
def wb(K:aH)(a:Addr):It:=
 ⟨fun i H=>∃xs x,dU K H a xs∧xs[i]?=some x,fun i H x H'=>H'=H∧∀xs,dU K H a xs→xs[i]?=some x,fun i H=>∃xs,dU K H a xs∧xs.length≤i⟩
def mH(lo:Int)(n:Nat):It:=⟨fun i _=>i<n,fun i H x H'=>H'=H∧x=.int (lo+i),fun i _=>n≤i⟩
variable {K:aH}
theorem Mt(a it:Addr):Turn P w K tg (mG K a) [it] it (fun i h=>h.IsListIter it a i) where
 mem:=by simp
 obj:=fun i h st b hb=>by
  have e:b=it:=by simpa using hb
  subst e;obtain ⟨o,e,c,d⟩:=st;exact ⟨o,e,fun v z=>by rw [d] at z;cases z⟩
 keep:=fun i h h' st k=>st.at fun o e=>k it (by simp) o e
 item:=by
  intro X hP hw hK hc i pins s σ H E I hf st hg;subst hP hw hK;obtain ⟨xs,x,hq,hx⟩:=hg;obtain ⟨ak,rv,p,hz⟩:=I.list hq;obtain ⟨u,hu,ru⟩:=rv.get hx;obtain ⟨f0,f1,f2,f3,f4,f5⟩:=hf it (by simp)
  refine wpAny_pyNext_list_item st p.isList (x:=u) (by simpa using hu) fun h' av sb=>?_
  have I1:Inv X pins σ H {s with heap:=h'}:=I.turned (t':=s.toks) (fun b o hb e=>(sb.2 b hb).trans e) f0 f1 f3 f4 f5;obtain ⟨o,e,c,d⟩:=id av;exact ⟨u,rfl,yQ (s:={s with heap:=h'}) e c d (by decide) ⟨x,H,I1,ru,⟨rfl,fun ys hy=>by rw [I.Fz hy hq];exact hx⟩,av,fun b hb=>(hf b hb).1⟩⟩
 done:=by
  intro X hP hw hK hc i pins s σ H E I hf st hg;subst hP hw hK;obtain ⟨xs,hq,hx⟩:=hg;obtain ⟨ak,rv,p,hz⟩:=I.list hq;obtain ⟨f0,f1,f2,f3,f4,f5⟩:=hf it (by simp)
  have hl:=rv.length;exact wpAny_pyNext_list_end (I.ok.hd hc) st p.isList (by simp;omega) fun h' eb=>⟨rfl,I.turned (t':=s.toks) (fun b o hb e=>eb b o hb e) f0 f1 f3 f4 f5⟩
 self:=fun _ _ _ _ _ st h=>wpAny_pyIter_listiter st h
theorem Mu(a it:Addr):Turn P w K tg (wb K a) [it] it (fun i h=>h.IsTupleIter it a i) where
 mem:=by simp
 obj:=fun i h st b hb=>by
  have e:b=it:=by simpa using hb
  subst e;obtain ⟨o,e,c,d⟩:=st;exact ⟨o,e,fun v z=>by rw [d] at z;cases z⟩
 keep:=fun i h h' st k=>st.at fun o e=>k it (by simp) o e
 item:=by
  intro X hP hw hK hc i pins s σ H E I hf st hg;subst hP hw hK;obtain ⟨xs,x,hq,hx⟩:=hg;obtain ⟨ak,rv,p,hz⟩:=I.tuple hq;obtain ⟨u,hu,ru⟩:=rv.get hx;obtain ⟨f0,f1,f2,f3,f4,f5⟩:=hf it (by simp)
  refine wpAny_pyNext_tuple_item st (show s.heap.IsTuple a ak.toArray from p) (x:=u) (by simpa using hu) fun h' av sb=>?_
  have I1:Inv X pins σ H {s with heap:=h'}:=I.turned (t':=s.toks) (fun b o hb e=>(sb.2 b hb).trans e) f0 f1 f3 f4 f5;obtain ⟨o,e,c,d⟩:=id av;exact ⟨u,rfl,yQ (s:={s with heap:=h'}) e c d (by decide) ⟨x,H,I1,ru,⟨rfl,fun ys hy=>by rw [I.Mn hy hq];exact hx⟩,av,fun b hb=>(hf b hb).1⟩⟩
 done:=by
  intro X hP hw hK hc i pins s σ H E I hf st hg;subst hP hw hK;obtain ⟨xs,hq,hx⟩:=hg;obtain ⟨ak,rv,p,hz⟩:=I.tuple hq;obtain ⟨f0,f1,f2,f3,f4,f5⟩:=hf it (by simp)
  have hl:=rv.length;exact wpAny_pyNext_tuple_end (I.ok.hd hc) st (show s.heap.IsTuple a ak.toArray from p) (by simp;omega) fun h' eb=>⟨rfl,I.turned (t':=s.toks) (fun b o hb e=>eb b o hb e) f0 f1 f3 f4 f5⟩
 self:=fun _ _ _ _ _ st h=>wpAny_pyIter_tupleiter st h
theorem Mv(it:Addr)(lo:Int)(n:Nat):Turn P w K tg (mH lo n) [it] it (fun i h=>IsRangeIter h it (lo+(i:Nat)*1) ((n:Int)-(i:Nat)) 1) where
 mem:=by simp
 obj:=fun i h st b hb=>by
  have e:b=it:=by simpa using hb
  subst e;exact ⟨_,st,fun v z=>by have z':Data.fields _=Data.cell v:=z;cases z'⟩
 keep:=fun i h h' st k=>k it (by simp) _ st
 item:=by
  intro X hP hw hK hc i pins s σ H E I hf st hg;subst hP hw hK;obtain ⟨f0,f1,f2,f3,f4,f5⟩:=hf it (by simp)
  have W:=Walks.range (prog:=X.prog) (w:=X.w) (I.ok.hd hc) it lo 1 n;refine W.item i s _ _ hg st fun v h' tk hv av kk=>?_;obtain ⟨t,rfl⟩:=hv;have I1:Inv X pins σ H {s with heap:=h',toks:=tk}:=I.turned (fun b o hb e=>kk b o (by simpa using hb) e) f0 f1 f3 f4 f5
  refine ⟨_,rfl,yQ (s:={s with heap:=h',toks:=tk}) (n:="range_iterator") av rfl rfl (by decide) ⟨.int (lo+i),H,I1,⟨t,?_⟩,⟨rfl,rfl⟩,av,fun b hb=>(hf b hb).1⟩⟩
  rw [Int.mul_one]
 done:=by
  intro X hP hw hK hc i pins s σ H E I hf st hg;subst hP hw hK;obtain ⟨f0,f1,f2,f3,f4,f5⟩:=hf it (by simp)
  exact wpAny_pyNext_range_end (I.ok.hd hc) st (by have:n≤i:=hg;omega) fun h' eb=>⟨rfl,I.turned (t':=s.toks) (fun b o hb e=>eb b o hb e) f0 f1 f3 f4 f5⟩
 self:=fun _ _ _ _ _ st h=>wpAny_pyIter_rangeiter st h
section
variable {X:Cx} {tg:Expr}
def FF(K:aH)(tl:TE):TI:=fun σ H R=>tl σ H fun x H1=>∃a,x=.ref a∧(∃xs,bt K H1 a xs)∧R (mG K a) H1
def Mw(K:aH)(tl:TE):TI:=fun σ H R=>tl σ H fun x H1=>∃a,x=.ref a∧(∃xs,dU K H1 a xs)∧R (wb K a) H1
variable {l:Expr} {tl:TE}
theorem dM(hl:PE X l tl):PI X tg l (FF X.K tl):=by
 intro pins s σ H R I h;refine aM (hl pins s σ H _ I h) fun v s1 ⟨x,H1,I1,r1,q1⟩=>?_;obtain ⟨a,e,⟨xs,hq⟩,q⟩:=q1;subst e;cases r1;obtain ⟨ak,rv,p,hz⟩:=I1.list hq;refine vH p.isList ?_;refine ⟨s1.heap.objs.size,[s1.heap.objs.size],_,_,H1,rfl,I1.kept (t':=s1.toks) fun b o e=>bX _ e,Mt a _,⟨_,dH _ rfl,rfl,rfl⟩,fun b hb=>?_,q⟩;have e:b=s1.heap.objs.size:=by simpa using hb
 subst e;exact I1.wa (ax _) (I1.ay.fresh (ax _))
theorem BO(hl:PE X l tl):PI X tg l (Mw X.K tl):=by
 intro pins s σ H R I h;refine aM (hl pins s σ H _ I h) fun v s1 ⟨x,H1,I1,r1,q1⟩=>?_;obtain ⟨a,e,⟨xs,hq⟩,q⟩:=q1;subst e;cases r1;obtain ⟨ak,rv,p,hz⟩:=I1.tuple hq;refine wpAny_pyIter_tuple (show s1.heap.IsTuple a ak.toArray from p) ?_;refine ⟨s1.heap.objs.size,[s1.heap.objs.size],_,_,H1,rfl,I1.kept (t':=s1.toks) fun b o e=>bX _ e,Mu a _,⟨_,dH _ rfl,rfl,rfl⟩,fun b hb=>?_,q⟩;have e:b=s1.heap.objs.size:=by simpa using hb
 subst e;exact I1.wa (ax _) (I1.ay.fresh (ax _))
variable {pins:aQ}
theorem FG{R:It→Hp→Prop}{lo hi:Int}{t u v:Tok}{tk:Nat}(I:Inv X pins σ H s)(h1:-(2 ^ 62)≤lo)(h2:lo<2 ^ 62)(h3:-(2 ^ 62)≤hi)(h4:hi<2 ^ 62)
  (q:R (mH lo (hi-lo).toNat) H):wpAny (model X.prog X.w) X.A (pyIter (.ref s.heap.objs.size)) (BN X pins σ tg R) E {s with heap:=s.heap.push {cls:=.type "range",data:=.fields #[.int lo t,.int hi u,.int 1 v]},toks:=tk}:=by
 refine wpAny_pyIter_range (IsRange.new ..) (small_one h1 h2 h3 h4) ?_;have I1:Inv X pins σ H {s with heap:=s.heap.push {cls:=.type "range",data:=.fields #[.int lo t,.int hi u,.int 1 v]},toks:=tk}:=I.kept fun b o e=>bX _ e
 refine ⟨(s.heap.push {cls:=.type "range",data:=.fields #[.int lo t,.int hi u,.int 1 v]}).objs.size,[(s.heap.push {cls:=.type "range",data:=.fields #[.int lo t,.int hi u,.int 1 v]}).objs.size],_,_,H,rfl,
  I1.kept (t':=tk) fun b o e=>bX _ e,Mv _ lo (hi-lo).toNat,?_,fun b hb=>?_,q⟩
 ·have e1:lo+((0:Nat):Int)*1=lo:=by simp
  have e2:(((hi-lo).toNat:Nat):Int)-((0:Nat):Int)=Builtin.Range.rangeSize lo hi 1:=by rw [rangeSize_one];split <;> omega
  show IsRangeIter _ _ (lo+((0:Nat):Int)*1) ((((hi-lo).toNat:Nat):Int)-((0:Nat):Int)) 1;rw [e1,e2];exact dH _ rfl
 ·have e:b=(s.heap.push {cls:=.type "range",data:=.fields #[.int lo t,.int hi u,.int 1 v]}).objs.size:=by simpa using hb
  subst e;exact I1.wa (ax _) (I1.ay.fresh (ax _))
def Mx(ta:TA):TI:=fun σ H R=>ta σ H fun vs H1=>∃j:Int,vs=[.int j]∧-(2 ^ 62)≤j∧j<2 ^ 62∧R (mH 0 j.toNat) H1
def Mz(ta:TA):TI:=fun σ H R=>ta σ H fun vs H1=>∃i j:Int,vs=[.int i,.int j]∧(-(2 ^ 62)≤i∧i<2 ^ 62∧-(2 ^ 62)≤j∧j<2 ^ 62)∧R (mH i (j-i).toNat) H1
variable {ta:TA} {p pos:Pos}
theorem ju{a:Expr}(hg:Gl X "range")(hm:X.mg "range"=none)(ha:PA X [a] ta)(hs:starEach [a] X.env=[(false,eval a X.env)]:=by rfl):PI X tg (.Call (.Name "range" p) [a] [] pos) (Mx ta):=by
 intro pins s σ H R I h;refine Call_ (mF I hg hm boot_range (yl (aM (ha pos pins s σ H _ I h) fun us s1 ⟨vs,H1,I1,r1,q1⟩=>?_) hs rfl));obtain ⟨j,e,q1,q2,q⟩:=q1;subst e;cases r1 with
 | cons r rr=>cases rr;obtain ⟨t,rfl⟩:=r;exact call_range_1 (FG I1 (by omega) (by omega) q1 q2 (by simpa using q))
theorem MA{a b:Expr}(hg:Gl X "range")(hm:X.mg "range"=none)(ha:PA X [a,b] ta)(hs:starEach [a,b] X.env=[(false,eval a X.env),(false,eval b X.env)]:=by rfl)(yR:starEach [b] X.env=[(false,eval b X.env)]:=by rfl) :
  PI X tg (.Call (.Name "range" p) [a,b] [] pos) (Mz ta):=by
 intro pins s σ H R I h;refine Call_ (mF I hg hm boot_range (yl (aM (ha pos pins s σ H _ I h) fun us s1 ⟨vs,H1,I1,r1,q1⟩=>?_) (by rw [hs,yR]) (by rw [yR];rfl)))
 obtain ⟨i,j,e,⟨q1,q2,q3,q4⟩,q⟩:=q1;subst e;cases r1 with
 | cons r rr=>
  cases rr with
  | cons r' rr=>cases rr;obtain ⟨t,rfl⟩:=r;obtain ⟨t',rfl⟩:=r';exact call_range_2 (FG I1 q1 q2 q3 q4 q)
def MB(wi:TI)(g:TG)(tb:TS):TS:=fun D σ H=>wi σ H fun J H1=>∃W:Nat→Nat→St→Hp→Prop,(∃m,W 0 m σ H1)∧∀i m σ H,W i m σ H→
 (J.stop i H∧D.nx σ H)∨(J.go i H∧∃N:St→Hp→Prop,(∀σ' H',N σ' H'→∃m',m'<m∧W (i+1) m' σ' H')∧∀x H',J.dW i H x H'→g x σ H' fun σ2 H2=>tb {D with nx:=N,ct:=N,bk:=D.nx} σ2 H2)
def jv(fp:List Addr)(h:Heap):List (Addr×Obj):=fp.filterMap fun b=>(h.get? b).map fun o=>(b,o)
variable {fp:List Addr}
theorem k8{o:Obj}(hb:b∈fp)(e:h.get? b=some o):(b,o)∈jv fp h:=List.mem_filterMap.mpr ⟨b,hb,by rw [e];rfl⟩
theorem MC{p:Addr×Obj}(hp:p∈jv fp h):p.1∈fp∧h.get? p.1=some p.2:=by
 obtain ⟨b,hb,e⟩:=List.mem_filterMap.mp hp;cases q:h.get? b with
 | none=>rw [q] at e;cases e
 | some o=>rw [q] at e;have e':(b,o)=p:=Option.some.inj e;subst e';exact ⟨hb,q⟩
theorem Inv.pinned(I:Inv X pins σ H s)(hf:∀b∈fp,k6 X pins H b)(ho:∀b∈fp,∃o,s.heap.get? b=some o∧∀v,o.data≠.cell v):Inv X (pins++jv fp s.heap) σ H s:=
 I.Fj fun p hp=>(dg.mp hp).elim (fun z=>I.pin p (dI _ z)) fun z=>by obtain ⟨hb,e⟩:=MC z;obtain ⟨f0,f1,f2,_⟩:=hf p.1 hb;obtain ⟨o,e',d⟩:=ho p.1 hb;rw [e] at e';cases e';exact ⟨e,f0,f1,f2,d⟩
theorem Inv.pX{pl:aQ}(I:Inv X (pins++pl) σ H s):Inv X pins σ H s:=I.Fj fun p hp=>I.pin p (dI _ (sG _ hp))
theorem d_{iter:Expr}{body:List Stmt}{wi:TI}{g:TG}{tb:TS}(hp:PassesOwn (model X.prog X.w) X.A X.env X.xe)(hc:X.calm=true)(hi:PI X tg iter wi)(hg:PG X tg g)(hb:fO X body tb)
  (hs:∀x,foldedSetIterable iter X.env x=pure x:=by intro _;rfl):PS X (.For tg iter body [] pos) (MB wi g tb):=by
 intro pins s σ H D I h;refine wpAny_For (aM (hi pins s σ H _ I h) fun v s1 h1=>aM h1 fun tD s2 h2=>?_) hs;obtain ⟨it,fp,tn,J,H2,e,I2,T,fZ,f2,W,⟨m0,w0⟩,turn⟩:=h2;subst e;have fE:∀{H':Hp},(∀b∈fp,H' b=none)→∀b∈fp,k6 X pins H' b:=fun hn b hb=>⟨hn b hb,(f2 b hb).2⟩;refine codeAny_forLoop_any (fun n s'=>∃i σ' H',Inv X pins σ' H' s'∧tn i s'.heap∧(∀b∈fp,H' b=none)∧W i n σ' H') ?_ m0 ⟨0,σ,H2,I2,fZ,fun b hb=>(f2 b hb).1,w0⟩;rintro n s3 ⟨i,σ3,H3,I3,FH,FI,w3⟩;rcases turn i n σ3 H3 w3 with ⟨stop,qn⟩ | ⟨go,N,hN,step⟩
 ·refine o7 hp (aM (T.done X rfl rfl rfl hc i pins s3 σ3 H3 X.xe I3 (fE FI) FH stop) fun r s4 ⟨hr,I4⟩=>?_)
  subst hr;exact yk ⟨σ3,H3,I4,qn⟩
 ·refine o7 hp (aM (T.item X rfl rfl rfl hc i pins s3 σ3 H3 X.xe I3 (fE FI) FH go) fun r s4 ⟨u,hr,h4⟩=>?_)
  subst hr;refine o7 hp (aM h4 fun _ s5 ⟨x,H5,I5,r5,y5,fF,mI⟩=>?_);have mJ:=I5.pinned (fE mI) (T.obj _ _ fF);refine o7 hp (aM (hg _ s5 σ3 H5 x u _ mJ r5 (step x H5 y5)) fun _ s6 ⟨σ6,H6,I6,q6⟩=>?_);refine o7 hp (aM (hb _ s6 σ6 H6 _ I6 q6) fun f s7 q7=>?_);have again:∀{σ7:St} {H7:Hp},Inv X (pins++jv fp s5.heap) σ7 H7 s7→N σ7 H7→∃m,m<n∧∃i σ' H',Inv X pins σ' H' s7∧tn i s7.heap∧(∀b∈fp,H' b=none)∧W i m σ' H':=fun{σ7 H7} I7 n7=>by obtain ⟨m',hm,w7⟩:=hN σ7 H7 n7;refine ⟨m',hm,i+1,σ7,H7,I7.pX,T.keep _ _ _ fF fun b hb o e=>(I7.pin (b,o) (dI _ (dI _ (k8 hb e)))).1,fun b hb=>?_,w7⟩;obtain ⟨o,e,d⟩:=T.obj _ _ fF b hb;exact (I7.pin (b,o) (dI _ (dI _ (k8 hb e)))).2.1
  cases f with
  | next=>obtain ⟨σ7,H7,I7,n7⟩:=q7;exact again I7 n7
  | cont=>obtain ⟨σ7,H7,I7,n7⟩:=q7;exact again I7 n7
  | brk=>obtain ⟨σ7,H7,I7,q7⟩:=q7;exact ⟨σ7,H7,I7.pX,q7⟩
  | ret v=>obtain ⟨x7,σ7,H7,I7,r7,q7⟩:=q7;exact ⟨x7,σ7,H7,I7.pX,r7,q7⟩
end
variable {g:TG} {tb:TS} {D:Ends}
theorem k_(Pv:Nat→St→Hp→Prop)(h0:Pv 0 σ H)(hl:∀i σ H,i≤xs.length→Pv i σ H→bt K H a xs)
  (hs:∀i x σ H,xs[i]?=some x→Pv i σ H→g x σ H fun σ2 H2=>tb {D with nx:=Pv (i+1),ct:=Pv (i+1),bk:=D.nx} σ2 H2) (hd:∀σ H,Pv xs.length σ H→D.nx σ H) :
  ∃W:Nat→Nat→St→Hp→Prop,(∃m,W 0 m σ H)∧∀i m σ H,W i m σ H→
   ((mG K a).stop i H∧D.nx σ H)∨((mG K a).go i H∧∃N:St→Hp→Prop,(∀σ' H',N σ' H'→∃m',m'<m∧W (i+1) m' σ' H')∧∀x H',(mG K a).dW i H x H'→g x σ H' fun σ2 H2=>tb {D with nx:=N,ct:=N,bk:=D.nx} σ2 H2):=by
 refine ⟨fun i m σ H=>m=xs.length-i∧i≤xs.length∧Pv i σ H,⟨xs.length,by simp,ba _,h0⟩,?_⟩
 rintro i m σ H ⟨rfl,hi,p⟩;have q:=hl i σ H hi p;by_cases aU:i<xs.length
 ·refine .inr ⟨⟨xs,xs[i],q,by simp [aU]⟩,Pv (i+1),fun σ' H' p'=>⟨xs.length-(i+1),by omega,rfl,aU,p'⟩,fun x H' y=>?_⟩
  obtain ⟨e,y⟩:=y;subst e;exact hs i x σ _ (y xs q) p
 ·have e:i=xs.length:=by omega
  subst e;exact .inl ⟨⟨xs,q,ax _⟩,hd σ H p⟩
theorem BP(Pv:Nat→St→Hp→Prop)(h0:Pv 0 σ H)(hl:∀i σ H,i≤xs.length→Pv i σ H→dU K H a xs)
  (hs:∀i x σ H,xs[i]?=some x→Pv i σ H→g x σ H fun σ2 H2=>tb {D with nx:=Pv (i+1),ct:=Pv (i+1),bk:=D.nx} σ2 H2) (hd:∀σ H,Pv xs.length σ H→D.nx σ H) :
  ∃W:Nat→Nat→St→Hp→Prop,(∃m,W 0 m σ H)∧∀i m σ H,W i m σ H→
   ((wb K a).stop i H∧D.nx σ H)∨((wb K a).go i H∧∃N:St→Hp→Prop,(∀σ' H',N σ' H'→∃m',m'<m∧W (i+1) m' σ' H')∧∀x H',(wb K a).dW i H x H'→g x σ H' fun σ2 H2=>tb {D with nx:=N,ct:=N,bk:=D.nx} σ2 H2):=by
 refine ⟨fun i m σ H=>m=xs.length-i∧i≤xs.length∧Pv i σ H,⟨xs.length,by simp,ba _,h0⟩,?_⟩
 rintro i m σ H ⟨rfl,hi,p⟩;have q:=hl i σ H hi p;by_cases aU:i<xs.length
 ·refine .inr ⟨⟨xs,xs[i],q,by simp [aU]⟩,Pv (i+1),fun σ' H' p'=>⟨xs.length-(i+1),by omega,rfl,aU,p'⟩,fun x H' y=>?_⟩
  obtain ⟨e,y⟩:=y;subst e;exact hs i x σ _ (y xs q) p
 ·have e:i=xs.length:=by omega
  subst e;exact .inl ⟨⟨xs,q,ax _⟩,hd σ H p⟩
variable {n:Nat}
theorem n_{lo:Int}(Pv:Nat→St→Hp→Prop)(h0:Pv 0 σ H)
  (hs:∀i σ H,i<n→Pv i σ H→g (.int (lo+i)) σ H fun σ2 H2=>tb {D with nx:=Pv (i+1),ct:=Pv (i+1),bk:=D.nx} σ2 H2) (hd:∀σ H,Pv n σ H→D.nx σ H) :
  ∃W:Nat→Nat→St→Hp→Prop,(∃m,W 0 m σ H)∧∀i m σ H,W i m σ H→
   ((mH lo n).stop i H∧D.nx σ H)∨((mH lo n).go i H∧∃N:St→Hp→Prop,(∀σ' H',N σ' H'→∃m',m'<m∧W (i+1) m' σ' H')∧∀x H',(mH lo n).dW i H x H'→g x σ H' fun σ2 H2=>tb {D with nx:=N,ct:=N,bk:=D.nx} σ2 H2):=by
 refine ⟨fun i m σ H=>m=n-i∧i≤n∧Pv i σ H,⟨n,by simp,ba _,h0⟩,?_⟩
 rintro i m σ H ⟨rfl,hi,p⟩;by_cases aU:i<n
 ·refine .inr ⟨aU,Pv (i+1),fun σ' H' p'=>⟨n-(i+1),by omega,rfl,aU,p'⟩,fun x H' y=>?_⟩
  obtain ⟨e,y⟩:=y;subst e y;exact hs i σ _ aU p
 ·have e:i=n:=by omega
  subst e;exact .inl ⟨ax _,hd σ H p⟩
abbrev R2:=V→V→Hp→VK→Prop
def cK(X:Cx)(f:Value→Value→Sem Value)(r:R2):Prop:=
 ∀(pins:aQ) (s:Shared) (σ:St) (H:Hp) (x y:V) (v u:Value) (Q:VK),Inv X pins σ H s→RelV x v→RelV y u→r x y H Q→
  wpAny (model X.prog X.w) X.A (f v u) (EP X pins σ Q) X.xe s
def BQ(X:Cx)(f:Value→Sem Value)(r:V→Hp→VK→Prop):Prop:=
 ∀(pins:aQ) (s:Shared) (σ:St) (H:Hp) (x:V) (v:Value) (Q:VK),Inv X pins σ H s→RelV x v→r x H Q→
  wpAny (model X.prog X.w) X.A (f v) (EP X pins σ Q) X.xe s
def e_(X:Cx)(f:Value)(r:List V→Hp→VK→Prop):Prop:=
 ∀(pins:aQ) (s:Shared) (σ:St) (H:Hp) (xs:List V) (us:List Value) (Q:VK),Inv X pins σ H s→Vals xs us→r xs H Q→
  wpAny (model X.prog X.w) X.A (call f us) (EP X pins σ Q) X.xe s
def og(r:R2)(ta tb:TE):TE:=fun σ H Q=>ta σ H fun x H1=>tb σ H1 fun y H2=>r x y H2 Q
def MD(r:V→Hp→VK→Prop)(ta:TE):TE:=fun σ H Q=>ta σ H fun x H1=>r x H1 Q
def rI(C:Int→Int→Prop)(g:Int→Int→V):R2:=fun x y H Q=>∃i j,x=.int i∧y=.int j∧C i j∧Q (g i j) H
def oi(g:Int→Int→V):R2:=fun x y H Q=>∃i j,x=.int i∧y=.int j∧Q (g i j) H
def rU(g:Int→V):V→Hp→VK→Prop:=fun x H Q=>∃i,x=.int i∧Q (g i) H
section
variable {X:Cx} {a b c:Expr} {ta tb tc:TE} {pos:Pos}
variable {f:Value→Value→Sem Value}
theorem BR(ha:PE X a ta)(hb:PE X b tb){pins:aQ}{R:V→V→Hp→Prop}(I:Inv X pins σ H s)
  (h:ta σ H fun x H1=>tb σ H1 fun y H2=>R x y H2) {Q:aK}
  (hf:∀v u s2 x y H2,Inv X pins σ H2 s2→RelV x v→RelV y u→R x y H2→wpAny (model X.prog X.w) X.A (f v u) Q X.xe s2) :
  wpAny (model X.prog X.w) X.A (eval a X.env) (fun v s₁=>wpAny (model X.prog X.w) X.A (eval b X.env) (fun u s₂=>wpAny (model X.prog X.w) X.A (f v u) Q X.xe s₂) X.xe s₁) X.xe s:=by
 refine aM (ha pins s σ H _ I h) fun v s1 ⟨x,H1,I1,r1,q1⟩=>?_;refine aM (hb pins s1 σ H1 _ I1 q1) fun u s2 ⟨y,H2,I2,r2,q2⟩=>?_;exact hf v u s2 x y H2 I2 r1 r2 q2
theorem bb{op:Operator}{r:R2}(ho:cK X (binaryOp op) r)(ha:PE X a ta)(hb:PE X b tb):PE X (.BinOp a op b pos) (og r ta tb):=by intro pins s σ H Q I h;exact wpAny_BinOp (BR ha hb I h fun v u s2 x y H2 I2 rx ry q=>ho pins s2 σ H2 x y v u Q I2 rx ry q)
theorem ME{op:UnaryOp}{r:V→Hp→VK→Prop}(ho:BQ X (unaryOp op) r)(ha:PE X a ta):PE X (.UnaryOp op a pos) (MD r ta):=by intro pins s σ H Q I h;exact UnaryOp_ (aM (ha pins s σ H _ I h) fun v s1 ⟨x,H1,I1,r1,q1⟩=>ho pins s1 σ H1 x v Q I1 r1 q1)
theorem yS{C:Int→Int→Prop}{g:Int→Int→Int}
  (rule:∀(i j:Int) (t u:Tok) (s:Shared) (Q:aK) (E:aK),C i j→Q (.int (g i j) s.toks) {s with toks:=s.toks+1}→wpAny (model X.prog X.w) X.A (f (.int i t) (.int j u)) Q E s) :
  cK X f (rI C fun i j=>.int (g i j)):=by
 intro pins s σ H x y v u Q I rx ry h;obtain ⟨i,j,rfl,rfl,hc,q⟩:=h;obtain ⟨t,rfl⟩:=rx;obtain ⟨t',rfl⟩:=ry;exact rule i j t t' s _ _ hc ⟨.int (g i j),H,I.tok _,⟨_,rfl⟩,q⟩
theorem FJ{g:Int→Int→Int}
  (rule:∀(i j:Int) (t u:Tok) (s:Shared) (Q:aK) (E:aK),Q (.int (g i j) s.toks) {s with toks:=s.toks+1}→wpAny (model X.prog X.w) X.A (f (.int i t) (.int j u)) Q E s) :
  cK X f (oi fun i j=>.int (g i j)):=by
 intro pins s σ H x y v u Q I rx ry h;obtain ⟨i,j,rfl,rfl,q⟩:=h;obtain ⟨t,rfl⟩:=rx;obtain ⟨t',rfl⟩:=ry;exact rule i j t t' s _ _ ⟨.int (g i j),H,I.tok _,⟨_,rfl⟩,q⟩
theorem yT{g:Int→Int→Bool}
  (rule:∀(i j:Int) (t u:Tok) (s:Shared) (Q:aK) (E:aK),Q (.bool (g i j)) s→wpAny (model X.prog X.w) X.A (f (.int i t) (.int j u)) Q E s) :
  cK X f (oi fun i j=>.bl (g i j)):=by
 intro pins s σ H x y v u Q I rx ry h;obtain ⟨i,j,rfl,rfl,q⟩:=h;obtain ⟨t,rfl⟩:=rx;obtain ⟨t',rfl⟩:=ry;exact rule i j t t' s _ _ ⟨.bl (g i j),H,I,rfl,q⟩
def MF(i j:Int):Prop:=0≤j∧j≤1000000∧i.natAbs<2 ^ 64
def BS(i j:Int):Prop:=(-(2 ^ 64)<i∧i<2 ^ 64)∨(-(2 ^ 64)<j∧j<2 ^ 64)
theorem BS.ok{i j:Int}(h:BS i j):IntMulOk i j:=by
 rcases h with ⟨h1,h2⟩ | ⟨h1,h2⟩;·exact .of_left (intBits_le_64 h1 h2)
 ·exact .of_right (intBits_le_64 h1 h2)
theorem fb:cK X (binaryOp .Add) (oi fun i j=>.int (i+j)):=FJ fun _ _ _ _ _ _ _ q=>add_int q
theorem yU:cK X (binaryOp .Sub) (oi fun i j=>.int (i-j)):=FJ fun _ _ _ _ _ _ _ q=>sub_int q
theorem g7:cK X (binaryOp .Mult) (rI BS fun i j=>.int (i*j)):=yS fun _ _ _ _ _ _ _ hc q=>mul_int q hc.ok
theorem pY:cK X (binaryOp .Mod) (rI (fun _ j=>0<j) fun i j=>.int (i % j)):=yS fun i j _ _ _ _ _ hc q=>by have h1:(0:Int)<j:=hc;exact mod_int' (by omega) (by rw [Int.fmod_eq_emod_of_nonneg i (by omega)];exact q)
theorem MG:cK X (binaryOp .Pow) (rI MF fun i j=>.int (i ^ j.toNat)):=yS fun _ _ _ _ _ _ _ hc q=>pow_int_small hc.1 hc.2.1 hc.2.2 q
theorem MJ{f:Value→Sem Value}{g:Int→Int}
  (rule:∀(i:Int) (t:Tok) (s:Shared) (Q:aK) (E:aK),Q (.int (g i) s.toks) {s with toks:=s.toks+1}→wpAny (model X.prog X.w) X.A (f (.int i t)) Q E s) :
  BQ X f (rU fun i=>.int (g i)):=by
 intro pins s σ H x v Q I rx h;obtain ⟨i,rfl,q⟩:=h;obtain ⟨t,rfl⟩:=rx;exact rule i t s _ _ ⟨.int (g i),H,I.tok _,⟨_,rfl⟩,q⟩
theorem MK:BQ X (unaryOp .USub) (rU fun i=>.int (-i)):=MJ fun _ _ _ _ _ q=>neg_int q
end
def FK:V→V→Bool
 | .aN,.aN=>true | .aN,.int _=>true | .int _,.aN=>true | .aN,.bl _=>true | .bl _,.aN=>true | .aN,.str _=>true | .str _,.aN=>true
 | .int _,.int _=>true | .bl _,.bl _=>true | .str _,.str _=>true | .jV _,.jV _=>true
 | .int _,.str _=>true | .str _,.int _=>true | .bl _,.str _=>true | .str _,.bl _=>true
 | _,_=>false
def ML:R2:=fun x y H Q=>FK x y=true∧Q (.bl (decide (x=y))) H
def MM:R2:=fun x y H Q=>FK x y=true∧Q (.bl (!decide (x=y))) H
theorem FL{i j:Int}:decide (V.int i=V.int j)=(i == j):=by rw [nF];simp
theorem FN{i j:Bool}:decide (V.bl i=V.bl j)=(i == j):=by rw [nF];simp
theorem FO{i j:Str}:decide (V.str i=V.str j)=(i == j):=by rw [nF];simp
theorem FP{i j:Array UInt8}:decide (V.jV i=V.jV j)=(i.toList == j.toList):=by rw [nF];cases i;cases j;simp
section
variable {X:Cx} {a b c:Expr} {ta tb tc:TE} {pos:Pos}
theorem c_{pins:aQ}{Q:VK}{k k':Bool}(I:Inv X pins σ H s)(q:Q (.bl k) H)(e:k=k'):EP X pins σ Q (.bool k') s:=by subst e;exact ⟨.bl k,H,I,rfl,q⟩
theorem lh:cK X (compareOp .Eq) ML:=by
 intro pins s σ H x y v u Q I rx ry h;obtain ⟨hs,q⟩:=h;cases x with
 | aN=>
  cases rx;cases y with
  | aN=>cases ry;exact PySem.EqNone.eq_none_none (c_ I q (by simp))
  | bl j=>cases ry;exact PySem.EqNone.eq_none_bool (c_ I q (by simp))
  | int j=>obtain ⟨t',rfl⟩:=ry;exact PySem.EqNone.eq_none_int (c_ I q (by simp))
  | str j=>obtain ⟨t',rfl⟩:=ry;exact PySem.EqNone.eq_none_str (c_ I q (by simp))
  | _=>exact absurd (show false=true from hs) dz
 | bl i=>
  cases rx;cases y with
  | aN=>cases ry;exact PySem.EqNone.eq_bool_none (c_ I q (by simp))
  | bl j=>cases ry;exact eq_bool (c_ I q FN)
  | str j=>obtain ⟨t',rfl⟩:=ry;exact PySem.EqMixed.eq_bool_str (c_ I q (by simp))
  | _=>exact absurd (show false=true from hs) dz
 | int i=>
  obtain ⟨t,rfl⟩:=rx;cases y with
  | aN=>cases ry;exact PySem.EqNone.eq_int_none (c_ I q (by simp))
  | int j=>obtain ⟨t',rfl⟩:=ry;exact eq_int (c_ I q FL)
  | str j=>obtain ⟨t',rfl⟩:=ry;exact PySem.EqMixed.eq_int_str (c_ I q (by simp))
  | _=>exact absurd (show false=true from hs) dz
 | str i=>
  obtain ⟨t,rfl⟩:=rx;cases y with
  | aN=>cases ry;exact PySem.EqNone.eq_str_none (c_ I q (by simp))
  | bl j=>cases ry;exact PySem.EqMixed.eq_str_bool (c_ I q (by simp))
  | int j=>obtain ⟨t',rfl⟩:=ry;exact PySem.EqMixed.eq_str_int (c_ I q (by simp))
  | str j=>obtain ⟨t',rfl⟩:=ry;exact eq_str (c_ I q FO)
  | _=>exact absurd (show false=true from hs) dz
 | jV i=>
  obtain ⟨t,rfl⟩:=rx;cases y with
  | jV j=>obtain ⟨t',rfl⟩:=ry;exact PySem.W.eq_bytes (c_ I q FP)
  | _=>exact absurd (show false=true from hs) dz
 | _=>cases y <;> exact absurd (show false=true from hs) dz
theorem mK:cK X (compareOp .NotEq) MM:=by
 intro pins s σ H x y v u Q I rx ry h;obtain ⟨hs,q⟩:=h;cases x with
 | aN=>
  cases rx;cases y with
  | aN=>cases ry;exact PySem.EqNone.ne_none_none (c_ I q (by simp))
  | bl j=>cases ry;exact PySem.EqNone.ne_none_bool (c_ I q (by simp))
  | int j=>obtain ⟨t',rfl⟩:=ry;exact PySem.EqNone.ne_none_int (c_ I q (by simp))
  | str j=>obtain ⟨t',rfl⟩:=ry;exact PySem.EqNone.ne_none_str (c_ I q (by simp))
  | _=>exact absurd (show false=true from hs) dz
 | bl i=>
  cases rx;cases y with
  | aN=>cases ry;exact PySem.EqNone.ne_bool_none (c_ I q (by simp))
  | bl j=>cases ry;exact ne_bool (c_ I q (d8 not FN))
  | str j=>obtain ⟨t',rfl⟩:=ry;exact PySem.EqMixed.ne_bool_str (c_ I q (by simp))
  | _=>exact absurd (show false=true from hs) dz
 | int i=>
  obtain ⟨t,rfl⟩:=rx;cases y with
  | aN=>cases ry;exact PySem.EqNone.ne_int_none (c_ I q (by simp))
  | int j=>obtain ⟨t',rfl⟩:=ry;exact ne_int (c_ I q (d8 not FL))
  | str j=>obtain ⟨t',rfl⟩:=ry;exact PySem.EqMixed.ne_int_str (c_ I q (by simp))
  | _=>exact absurd (show false=true from hs) dz
 | str i=>
  obtain ⟨t,rfl⟩:=rx;cases y with
  | aN=>cases ry;exact PySem.EqNone.ne_str_none (c_ I q (by simp))
  | bl j=>cases ry;exact PySem.EqMixed.ne_str_bool (c_ I q (by simp))
  | int j=>obtain ⟨t',rfl⟩:=ry;exact PySem.EqMixed.ne_str_int (c_ I q (by simp))
  | str j=>obtain ⟨t',rfl⟩:=ry;exact ne_str (c_ I q (d8 not FO))
  | _=>exact absurd (show false=true from hs) dz
 | jV i=>
  obtain ⟨t,rfl⟩:=rx;cases y with
  | jV j=>obtain ⟨t',rfl⟩:=ry;exact PySem.W.ne_bytes (c_ I q (d8 not FP))
  | _=>exact absurd (show false=true from hs) dz
 | _=>cases y <;> exact absurd (show false=true from hs) dz
theorem wc:cK X (compareOp .Lt) (oi fun i j=>.bl (decide (i<j))):=yT fun _ _ _ _ _ _ _ q=>lt_int q
theorem FQ:cK X (compareOp .LtE) (oi fun i j=>.bl (decide (i≤j))):=yT fun _ _ _ _ _ _ _ q=>le_int q
theorem oj:cK X (compareOp .Gt) (oi fun i j=>.bl (decide (j<i))):=yT fun _ _ _ _ _ _ _ q=>gt_int q
theorem MN:cK X (compareOp .GtE) (oi fun i j=>.bl (decide (j≤i))):=yT fun _ _ _ _ _ _ _ q=>ge_int q
theorem MO:cK X (compareOp .IsNot) (fun x y H Q=>y=.aN∧Q (.bl (!decide (x=.aN))) H):=by
 intro pins s σ H x y v u Q I rx ry h;obtain ⟨rfl,q⟩:=h;cases ry;refine isnot_none_gen (c_ I q ?_)
 cases x <;> first
  | (cases rx;rfl)
  | (obtain ⟨t,rfl⟩:=rx;rfl)
variable {op:CmpOp}
theorem FR(b:Expr)(h:op≠.In:=by decide)(h2:op≠.NotIn:=by decide):behindInMarks op b=false:=by
 have e1:(op == CmpOp.In)=false:=by cases op <;> first | rfl | exact absurd rfl h
 have e2:(op == CmpOp.NotIn)=false:=by cases op <;> first | rfl | exact absurd rfl h2
 cases b <;> simp [behindInMarks,e1,e2]
variable {r:R2}
theorem MP(ho:cK X (compareOp op) r)(ha:PE X a ta)(hb:PE X b tb)(hm:behindInMarks op b=false):PE X (.Compare a [op] [b] pos) (og r ta tb):=by intro pins s σ H Q I h;exact wpAny_Compare1 (BR ha hb I h fun v u s2 x y H2 I2 rx ry q=>ho pins s2 σ H2 x y v u Q I2 rx ry q) hm
theorem mL(ho:cK X (compareOp op) r)(ha:PE X a ta)(hb:PE X b tb)(hm:behindInMarks op b=false:=by exact FR _):PE X (.Compare a [op] [b] pos) (og r ta tb):=MP ho ha hb hm
def BU(t:TE):TT:=fun σ H Q=>t σ H fun x H'=>∃k,x=.bl k∧Q k H'
theorem om(ho:cK X (compareOp op) r)(ha:PE X a ta)(hb:PE X b tb)(hm:behindInMarks op b=false):PT X (.Compare a [op] [b] pos) (BU (og r ta tb)):=by intro pins s σ H Q I h;refine wpAny_isTrue_Compare1 (aM (ha pins s σ H _ I h) fun v s1 ⟨x,H1,I1,r1,q1⟩=>aM (hb pins s1 σ H1 _ I1 q1) fun u s2 ⟨y,H2,I2,r2,q2⟩=>aM (ho pins s2 σ H2 x y v u _ I2 r1 r2 q2) fun c s3 ⟨z,H3,I3,r3,k,e,q3⟩=>?_) hm;subst e;cases r3;exact md ⟨H3,I3,q3⟩
theorem cz(ho:cK X (compareOp op) r)(ha:PE X a ta)(hb:PE X b tb)(hm:behindInMarks op b=false:=by exact FR _):PT X (.Compare a [op] [b] pos) (BU (og r ta tb)):=om ho ha hb hm
theorem yV:(sizeLine:Nat)<2 ^ 63:=by rw [iD];decide
theorem vals1(r:Vals [x] us):∃u,us=[u]∧RelV x u:=by
 cases r with
 | cons r1 r2=>cases r2;exact ⟨_,rfl,r1⟩
theorem vals2{y:V}(r:Vals [x,y] us):∃u w',us=[u,w']∧RelV x u∧RelV y w':=by
 cases r with
 | cons r1 r2=>
  cases r2 with
  | cons r3 r4=>cases r4;exact ⟨_,_,rfl,r1,r3⟩
theorem FT(hc:X.calm=true):e_ X (.builtin "max") (fun xs H Q=>∃i j,xs=[.int i,.int j]∧Q (.int (if j>i then j else i)) H):=by
 intro pins s σ H xs us Q I r h;obtain ⟨i,j,rfl,q⟩:=h;obtain ⟨u,w',rfl,⟨t,rfl⟩,⟨t',rfl⟩⟩:=vals2 r;refine max_two_ints (I.ok.hd hc) fun h' tk k=>⟨_,H,I.kept k,?_,q⟩;by_cases hj:j>i;·rw [ae hj,ae hj];exact ⟨_,rfl⟩
 ·rw [aa hj,aa hj];exact ⟨_,rfl⟩
theorem FU(hc:X.calm=true):e_ X (.builtin "min") (fun xs H Q=>∃i j,xs=[.int i,.int j]∧Q (.int (if j<i then j else i)) H):=by
 intro pins s σ H xs us Q I r h;obtain ⟨i,j,rfl,q⟩:=h;obtain ⟨u,w',rfl,⟨t,rfl⟩,⟨t',rfl⟩⟩:=vals2 r;refine min_two_ints (I.ok.hd hc) fun h' tk k=>⟨_,H,I.kept k,?_,q⟩;by_cases hj:j<i;·rw [ae hj,ae hj];exact ⟨_,rfl⟩
 ·rw [aa hj,aa hj];exact ⟨_,rfl⟩
end
structure BV (h:Heap) (x dx C:Addr) (mA:du):Prop where
 obj:h.get? x=some (PySem.W.instObj C dx)
 ns:h.Ns1 dx mA
 ne:dx≠x
variable {dx:Addr} {mA:du}
theorem MQ(n:h.Ns1 dx mA):∃od,h.get? dx=some od∧∀name,PySem.W.lookIn name od=some (mA name):=by
 obtain ⟨o,es,ep,ho,hd,hk,_,hm⟩:=n;refine ⟨o,ho,fun name=>?_⟩;have e:=hm name;unfold nsFind findBy at e;rw [←Array.find?_toList] at e;unfold PySem.W.lookIn;rw [hd];dsimp only
 split
 ·rename_i y q
  rw [q] at e;exact d8 some e
 ·rename_i q
  rw [q] at e;have a:es.toList.any (·.refKey)=false:=by rw [List.any_eq_false];intro y hy;obtain ⟨z,t,MR⟩:=hk y (Array.mem_toList_iff.mp hy);simp [DictEntry.refKey,MR]
  have a':¬es.toList.any (·.refKey)=true:=by rw [a];exact dz
  rw [aa a'];exact d8 some e
theorem BV.look{x C:Addr}(I:BV h x dx C mA):∃od,PySem.W.InstAt h x (PySem.W.instObj C dx) C (some od)∧∀name,PySem.W.lookIn name od=some (mA name):=
 let ⟨od,ho,hl⟩:=MQ I.ns
 ⟨od,⟨I.obj,rfl,rfl,ho⟩,hl⟩
section
variable {prog:Program} {w:World} {A:Around} {E:aK} {s:Shared} {K:aH} {x dx C f:Addr} {mA:du} {name:Str} {v:Value}
end
theorem jW.some_of{v:V}{o:Option Value}(r:jW (some v) o):∃u,o=some u∧RelV v u:=by
 cases o with
 | none=>exact (show False from r).elim
 | some u=>exact ⟨u,rfl,r⟩
section
variable {P:Program} {w:World} {H H':Hp} {h h':Heap} {a C dx:Addr} {fs BE:List (Str×V)}
theorem MS(ay:cj P w H h)(e:H a=some (.ins C dx fs)):∃mA,BV h a dx C mA∧(∀f,jW (fs.lookup f) (mA f))∧PySem.Within mA (fs.map (·.1))∧fs.length≤1000∧H dx=some (.own a):=by obtain ⟨d,z,ne,ob,mA,n,r,q⟩:=(show cg P w H h a (.ins C dx fs) from ay a _ e);exact ⟨mA,⟨ob,n,ne⟩,r,q,z,d⟩
end
structure BW (K:aH) (C:Addr):Prop where
 pg:PySem.W.plainGet K C Str.empty=true
 hd:PySem.W.hasDictIn K C=true
 po:PySem.W.plainOver K C=true
 sa:PySem.W.findIn K (.ref C) "__setattr__"=some (some (.builtin "object.__setattr__"))
theorem BW.get{K:aH}{C:Addr}(c:BW K C)(f:Str):PySem.W.plainGet K C f=true:=c.pg
section
variable {X:Cx} {pins:aQ} {σ:St} {H:Hp} {s:Shared} {a C dx:Addr} {fs:List (Str×V)} {f:Str} {v:V} {A:Around} {E:aK}
end
section
variable {X:Cx} {o e value:Expr} {f:Str} {pos pos' yW:Pos} {ta tv:TE}
end
section
variable {X:Cx} {pins:aQ} {σ:St} {H:Hp} {s:Shared} {A:Around} {E:aK} {Q:aK} {c:Value} {b:Bool}
inductive i4 (K:aH) (H:Hp):V→Value→Prop where
 | aN:i4 K H .aN (.type "NoneType")
 | bl (x:Bool):i4 K H (.bl x) (.type "bool")
 | int (i:Int):i4 K H (.int i) (.type "int")
 | str (x:Str):i4 K H (.str x) (.type "str")
 | s_ (x:UInt64):i4 K H (.s_ x) (.type "float")
 | lst {a:Addr} {xs:List V} (e:H a=some (.lst xs)):i4 K H (.ref a) (.type "list")
 | bH {a:Addr} {o:Obj} {xs:List V} (e:H a=some (.bH o (.lst xs))):i4 K H (.ref a) (.type "list")
 | tup {a:Addr} {xs:List V} (e:H a=some (.tup xs)):i4 K H (.ref a) (.type "tuple")
 | dK {a:Addr} {kvs:List (Key×V)} (e:H a=some (.dK kvs)):i4 K H (.ref a) (.type "dict")
 | dT {a:Addr} {kvs:List (List Key×V)} (e:H a=some (.dT kvs)):i4 K H (.ref a) (.type "dict")
 | ins {a C dx:Addr} {fs:List (Str×V)} (e:H a=some (.ins C dx fs)) (cl:BW K C) (ha:PySem.W.findIn K (.ref C) "__class__"=some (some (.builtin "object.__class__")))
   (hn:PySem.W.specialIn K (.builtin "object.__class__") "__get__"=some (some (.builtin "getset_descriptor.__get__"))) (FV:PySem.W.takesIn K (.builtin "object.__class__")=some true)
   (hm:PySem.W.mroIn K C (.type "object")=some true):i4 K H (.ref a) (.ref C)
theorem MT{t:Value}(I:Inv X pins σ H s)(rx:RelV x u)(ty:i4 X.K H x t)(e:PySem.W.kitOne X.K t c=some b)(h:∀tk,Q (.bool b) {s with toks:=tk}) :
  wpAny (model X.prog X.w) A (call (.builtin "isinstance") [u,c]) Q E s:=by
 cases ty with
 | aN=>cases (show u=Value.none from rx);exact iW PySem.W.kitx_none I.fB True.intro e (fun z=>nomatch z) h
 | bl y=>cases (show u=Value.bool y from rx);exact iW PySem.W.kitx_bool I.fB True.intro e (fun z=>nomatch z) h
 | int i=>obtain ⟨t,q⟩:=(show ∃t,u=Value.int i t from rx);cases q;exact iW PySem.W.kitx_int I.fB True.intro e (fun z=>nomatch z) h
 | str y=>obtain ⟨t,q⟩:=(show ∃t,u=Value.str y t from rx);cases q;exact iW PySem.W.kitx_str I.fB True.intro e (fun z=>nomatch z) h
 | s_ y=>obtain ⟨t,q⟩:=(show ∃t,u=Value.float y t from rx);cases q;exact iW PySem.W.kitx_float I.fB True.intro e (fun z=>nomatch z) h
 | @lst a xs ea=>cases (show u=Value.ref a from rx);obtain ⟨_,_,n,_,h1⟩:=(show cg X.prog X.w H s.heap a (.lst xs) from I.ay a _ ea);exact iW PySem.W.kitx_list I.fB ⟨_,h1,rfl⟩ e (fun z=>nomatch z) h
 | @bH a ob xs ea=>cases (show u=Value.ref a from rx);obtain ⟨_,_,_,n,_,h1⟩:=(show cg X.prog X.w H s.heap a (.bH ob (.lst xs)) from I.ay a _ ea);exact iW PySem.W.kitx_list I.fB ⟨_,h1,rfl⟩ e (fun z=>nomatch z) h
 | @tup a xs ea=>cases (show u=Value.ref a from rx);obtain ⟨_,_,_,p⟩:=(show cg X.prog X.w H s.heap a (.tup xs) from I.ay a _ ea);obtain ⟨o,h1,h2,_⟩:=p;exact iW PySem.W.kitx_tuple I.fB ⟨o,h1,h2⟩ e (fun z=>nomatch z) h
 | @dK a kvs ea=>cases (show u=Value.ref a from rx);obtain ⟨_,_,vs,_,p⟩:=(show cg X.prog X.w H s.heap a (.dK kvs) from I.ay a _ ea);obtain ⟨o,es,ep,h1,h2,_⟩:=p;exact iW PySem.W.kitx_dict I.fB ⟨o,h1,h2.1⟩ e (fun z=>nomatch z) h
 | @dT a kvs ea=>cases (show u=Value.ref a from rx);obtain ⟨_,_,xs,_,o,es,ep,h1,h2,_⟩:=(show cg X.prog X.w H s.heap a (.dT kvs) from I.ay a _ ea);exact iW PySem.W.kitx_dict I.fB ⟨o,h1,h2.1⟩ e (fun z=>nomatch z) h
 | @ins a C dx fs ea cl ha hn FV hm=>cases (show u=Value.ref a from rx);obtain ⟨mA,O,_⟩:=MS I.ay ea;obtain ⟨od,J,_⟩:=O.look;exact iW (PySem.W.kitx_own (cl.get _) cl.hd ha hn FV hm) I.fB J e (fun z=>nomatch z) h
end
structure ei (k:Nat) (A:Around):Prop where
 hd:A.handled=none
 dp:A.depth+3*k+5<recursionLimit
 un:A.units+16*k+200<cLine
variable {k:Nat}
theorem ei.mono{j:Nat}(r:ei k A)(h:j≤k):ei j A:=⟨r.hd,by have:=r.dp;omega,by have:=r.un;omega⟩
theorem ei.deeper(r:ei (k+1) A)(env:Env):ei k (A.deeper env):=
 ⟨r.hd,by have:=r.dp;show A.depth+1+3*k+5<_;omega,by have:=r.un;show A.units+3+16*k+200<_;omega⟩
theorem ei.depth(r:ei k A):A.depth<recursionLimit:=by have:=r.dp;omega
theorem ei.units(r:ei k A):A.units+64<cLine:=by have:=r.un;omega
theorem ei.MU(r:ei k A):A.units<cLine:=by have:=r.un;omega
def wd:TA:=fun _ H Q=>Q [] H
def tE(ta:TE)(tr:TA):TA:=fun σ H Q=>ta σ H fun x H1=>tr σ H1 fun xs H2=>Q (x::xs) H2
section
variable {X:Cx} {e:Expr} {es:List Expr} {te:TE} {t:TA} {pos:Pos}
theorem ao:PA X [] wd:=fun _ _ _ _ H Q I h=>Calls.spliced_nil ⟨[],H,I,.nil,h⟩
theorem MV(ha:PE X e te)(hr:PA X es t)(hs:starEach (e::es) X.env=(false,eval e X.env)::starEach es X.env:=by rfl):PA X (e::es) (tE te t):=by intro pos pins s σ H Q I h;rw [hs];show wpAny _ _ (spliced ((false,eval e X.env)::backTo pos (starEach es X.env))) _ _ s;refine Calls.spliced_cons (aM (ha pins s σ H _ I h) fun u s1 ⟨x,H1,I1,r1,q1⟩=>?_);exact aM (hr pos pins s1 σ H1 _ I1 q1) fun us s2 ⟨xs,H2,I2,r2,q2⟩=>⟨x::xs,H2,I2,.cons r1 r2,q2⟩
def MW(t:TA):TE:=fun σ H Q=>t σ H fun xs H1=>xs.length≤sizeLine∧∀p,H1 p=none→Q (.ref p) (upd H1 p (.tup xs))
def MX(t:TA):TE:=fun σ H Q=>t σ H fun xs H1=>xs.length≤sizeLine∧∀p,H1 p=none→Q (.ref p) (upd H1 p (.lst xs))
theorem gv{x1}(h:PA X es t):PE X (.Tuple es x1 pos) (MW t):=by
 intro pins s σ H Q I hq;refine wpAny_Tuple_spliced (aM (h pos pins s σ H _ I hq) fun us s1 ⟨xs,H1,I1,r,z,q⟩=>⟨by rw [←r.length];exact z,?_⟩)
 have hf:H1 s1.heap.objs.size=none:=I1.ay.fresh (ax _);refine ⟨.ref s1.heap.objs.size,upd H1 s1.heap.objs.size (.tup xs),I1.laid (t':=s1.toks) (fun b u e=>bX _ e) (ax _) ?_,rfl,q _ hf⟩;exact ⟨z,us,r,⟨_,dH _ rfl,rfl,_,rfl⟩⟩
theorem da(h:PA X es t):PE X (.List es pos) (MX t):=by
 intro pins s σ H Q I hq;refine wpAny_List_spliced (aM (h pos pins s σ H _ I hq) fun us s1 ⟨xs,H1,I1,r,z,q⟩=>⟨by rw [←r.length];exact z,?_⟩)
 have hf:H1 s1.heap.objs.size=none:=I1.ay.fresh (ax _);refine ⟨.ref s1.heap.objs.size,upd H1 s1.heap.objs.size (.lst xs),I1.laid (t':=s1.toks) (fun b u e=>bX _ e) (ax _) ?_,rfl,q _ hf⟩;exact ⟨z,us,0,r,dH _ rfl⟩
end
abbrev Sp:=List V→Hp→VK→XK→Prop
abbrev g8:=List Env→Hp→Shared→XK→Value→Shared→Prop
structure yX (P:Program) (w:World) (K:aH) (mg:du) (base:Heap) (A:Around) (outer:List Env) (s:Shared) (H:Hp):Prop where
 frames:A.frames=some outer
 mod:Mod K mg base
 bs:∀b o,base.get? b=some o→s.heap.get? b=some o∧H b=none
 iG:base.objs.size≤s.heap.objs.size
 jX:s.heap.FunFrames base outer
 nY:∀b∈cJ outer,H b=none
 ay:cj P w H s.heap
 bare:AllBare s.gens
def CE(outer:List Env)(P:Program)(w:World)(H:Hp)(s:Shared)(Q:VK)(u:Value)(s':Shared):Prop:=
 ∃v H',s'.os=s.os∧AllBare s'.gens∧Un (cJ outer) [] H H' s.heap s'.heap∧cj P w H' s'.heap∧RelV v u∧Q v H'
def CR(CX:g8)(outer:List Env)(P:Program)(w:World)(H:Hp)(s:Shared)(Q:VK)(E:XK)(r:Result)(s':Shared):Prop:=
 match r with
 | .ok (.ret u)=>CE outer P w H s Q u s'
 | .ok _=>False
 | .error e=>CX outer H s E e s'
structure bJ (P:Program) (w:World) (K:aH) (mg:du) (base:Heap) (CX:g8) (k:Nat) (f:Addr) (fd:FuncData) (ps:List Str) (sp:Sp):Prop where
 len:∀vs H Q E,sp vs H Q E→vs.length=ps.length
 run:∀(A:Around) (outer:List Env) (s:Shared) (H:Hp) (args:Args) (us:List Value) (vs:List V) (Q:VK) (E:XK),ei k A→yX P w K mg base A outer s H→BindsTo s fd args (ps.zip us)→Vals vs us→sp vs H Q E→
  codeAny (model P w) A (.call (.ref f) args) (CR CX outer P w H s Q E) s
section
variable {X:Cx} {pins:aQ} {σ:St} {H:Hp} {s s':Shared}
theorem Inv.MY(I:Inv X pins σ H s):yX X.prog X.w X.K X.mg X.base X.A X.stack s H:=
 ⟨I.ok.frames,I.ok.mod,I.bs,a9 I.ok.iG I.sz,I.stack,I.tm,I.ay,I.bare⟩
theorem Inv.after{Q:VK}(I:Inv X pins σ H s)(h:CE X.stack X.prog X.w H s Q u s'):EP X pins σ Q u s':=by obtain ⟨v,H',os,bare,un,ay,r,q⟩:=h;obtain ⟨hh,g,d,t,MZ⟩:=s';obtain rfl:MZ=s.os:=os;exact ⟨v,H',I.call (h':=hh) (g':=g) (d':=d) (t':=t) (ch:=[]) un ay bare (fun b z=>absurd z (by simp)),r,q⟩
end
def FW(sp:Sp)(lp:List V)(E:XK)(t:TA):TE:=fun σ H Q=>t σ H fun vs H1=>sp (vs++lp) H1 Q E
def Binds(K:aH)(fd:FuncData)(ps:List Str)(ds:List Value):Prop:=
 ∀(s:Shared) (us:List Value),K.In s.heap→(us++ds).length=ps.length→BindsTo s fd ⟨us,[]⟩ (ps.zip (us++ds))
variable {ps:List Str}
theorem Binds.all{fd:FuncData}(h:∀us:List Value,us.length=ps.length→bindArgs fd ⟨us,[]⟩=pure (ps.zip us)):Binds K fd ps []:=fun s us _ hl=>by rw [o8] at hl ⊢;exact .of_eq (h us hl)
def Passes(CX:g8)(X:Cx)(E:XK):Prop:=∀(pins:aQ) (σ:St) (H:Hp) (s:Shared) (e:Value) (s':Shared),Inv X pins σ H s→CX X.stack H s E e s'→X.xe e s'
section
variable {X:Cx} {CX:g8} {k:Nat} {f C:Addr} {fd:FuncData} {ps:List Str} {sp:Sp} {lp:List V} {ds:List Value} {E:XK} {x m:Str} {p pos apos:Pos} {e o:Expr} {es:List Expr} {ta:TE} {t:TA}
theorem M0{pins:aQ}{Q:VK}{vs:List V}(F:bJ X.prog X.w X.K X.mg X.base CX k f fd ps sp)(hr:ei k X.A)(hb:Binds X.K fd ps ds)(hd:Vals lp ds)(hx:Passes CX X E)
  (I:Inv X pins σ H s) (r:Vals vs us) (h:sp (vs++lp) H Q E):wpAny (model X.prog X.w) X.A (call (.ref f) us) (EP X pins σ Q) X.xe s:=by
 have r2:Vals (vs++lp) (us++ds):=r.append hd;have hl:(us++ds).length=ps.length:=by rw [←r2.length];exact F.len _ _ _ _ h
 refine wpAny_call (codeAny_mono (F.run X.A X.stack s H ⟨us,[]⟩ (us++ds) (vs++lp) Q E hr I.MY (hb s us I.fB hl) r2 h) fun r s' hq=>?_);cases r with
 | error e=>exact hx pins σ H s e s' I hq
 | ok fl=>
  cases fl with
  | ret u=>exact I.after hq
  | next=>exact False.elim hq
  | brk=>exact False.elim hq
  | cont=>exact False.elim hq
theorem M1(F:bJ X.prog X.w X.K X.mg X.base CX k f fd ps sp)(hr:ei k X.A)(hg:Gl X x)(hm:X.mg x=some (.ref f))(hk:PySem.W.keepIn X.K (.ref f)=true)(hb:Binds X.K fd ps ds)(hd:Vals lp ds)(hx:Passes CX X E)
  (ha:PA X (e::es) t) (pZ:(x == ("__debug__":Str))=false:=by decide) (he:starEach (e::es) X.env=(false,eval e X.env)::starEach es X.env:=by rfl) (jw:(backTo pos (starEach es X.env)).any (·.1)=false:=by rfl) :
  PE X (.Call (.Name x p) (e::es) [] pos) (FW sp lp E t):=by
 intro pins s σ H Q I h;refine vI (BI I hg hm ?_ pZ);refine PySem.W.callWith_K (h₀:=X.base) I.ok.mod.dv hk (aM (ha pos pins s σ H _ I h) fun us s1 ⟨vs,H1,I1,r,q⟩=>⟨I1.fB,?_⟩) he jw;exact M0 F hr hb hd hx I1 r q
theorem a7{j:Nat}(F:bJ X.prog X.w X.K X.mg X.base CX k f fd ps sp)(hr:ei j X.A)(hm:X.mg x=some (.ref f))(hk:PySem.W.keepIn X.K (.ref f)=true)(hb:Binds X.K fd ps [])(hx:Passes CX X E)
  (ha:PA X (e::es) t) (hj:k≤j:=by decide) (hg:Gl X x:=by exact rfl) (pZ:(x == ("__debug__":Str))=false:=by decide) (he:starEach (e::es) X.env=(false,eval e X.env)::starEach es X.env:=by rfl) (jw:(backTo pos (starEach es X.env)).any (·.1)=false:=by rfl) :
  PE X (.Call (.Name x p) (e::es) [] pos) (FW sp [] E t):=M1 F (hr.mono hj) hg hm hk hb .nil hx ha pZ he jw
end
section
variable {X:Cx} {CX:g8} {k:Nat} {f C:Addr} {fd:FuncData} {ps ks:List Str} {sp:Sp} {E:XK} {x m:Str} {p pos apos FX:Pos} {e o:Expr} {es:List Expr} {M3:List Keyword} {te ta:TE} {t tk:TA} {nm:Option Str}
variable {g:List Value→List Value→List Value} {gV:List V→List V→List V}
end
structure bZ (N P:List Str) (sc:Scope):Prop where
 kind:sc.kind=.function
 co:sc.isCoroutine=false
 gen:sc.isGenerator=false
 nd:N.Nodup
 pre:N.take P.length=P
 par:∀x∈P,sc.names.lookup x=some .local∨sc.names.lookup x=some .cell
 M4:∀y∈sc.names,y.2≠.free
variable {N:List Str} {sc:Scope}
theorem cC{P:List Str}(h1:sc.kind=.function:=by rfl)(h2:sc.isCoroutine=false:=by rfl)(h3:sc.isGenerator=false:=by rfl)(h4:N.Nodup:=by decide +kernel)(h5:N.take P.length=P:=by rfl)(h6:∀x∈P,sc.names.lookup x=some .local∨sc.names.lookup x=some .cell:=by decide +kernel)(h7:∀y∈sc.names,y.2≠.free:=by decide +kernel):bZ N P sc:=⟨h1,h2,h3,h4,h5,h6,h7⟩
theorem FY{kindOf:Str→Option NameKind}{x:Str}:∀{binds:List (Str×Value)} {m:du},(∀v,(x,v)∉binds)→bindL kindOf binds m x=m x
 | [],_,_=>rfl
 | (n,v)::r,m,h=>by
  unfold bindL;rw [FY fun w hw=>h w (cw _ hw)]
  split
  ·have:x≠n:=by rintro rfl;exact h v dy
   simp [this]
  ·rfl
theorem FZ{kindOf:Str→Option NameKind}{x:Str}:∀{binds:List (Str×Value)} {m:du},(∀v,(x,v)∉binds)→bindC kindOf binds m x=m x
 | [],_,_=>rfl
 | (n,v)::r,m,h=>by
  unfold bindC;rw [FZ fun w hw=>h w (cw _ hw)]
  split
  ·rfl
  ·have:x≠n:=by rintro rfl;exact h v dy
   simp [this]
theorem F0{kindOf:Str→Option NameKind}{x:Str}{v:Value}:∀{P:List Str} {vs:List Value} {i:Nat} {m:du},P.Nodup→P[i]?=some x→vs[i]?=some v→kindOf x=some .local→
  bindL kindOf (P.zip vs) m x=some v
 | [],_,_,_,_,h,_,_=>by simp at h
 | _::_,[],_,_,_,_,h,_=>by simp at h
 | p::P,w::vs,0,m,nd,h1,h2,hk=>by simp at h1 h2;subst h1;subst h2;show bindL kindOf ((p,w)::P.zip vs) m p=_;unfold bindL;rw [FY fun v hv=>(jj.mp nd).1 (List.of_mem_zip hv).1,ae hk];simp
 | p::P,w::vs,i+1,m,nd,h1,h2,hk=>by show bindL kindOf ((p,w)::P.zip vs) m x=_;unfold bindL;exact F0 (i:=i) (jj.mp nd).2 (by simpa using h1) (by simpa using h2) hk
theorem F1{kindOf:Str→Option NameKind}{x:Str}{v:Value}:∀{P:List Str} {vs:List Value} {i:Nat} {m:du},P.Nodup→P[i]?=some x→vs[i]?=some v→kindOf x≠some .local→
  bindC kindOf (P.zip vs) m x=some v
 | [],_,_,_,_,h,_,_=>by simp at h
 | _::_,[],_,_,_,_,h,_=>by simp at h
 | p::P,w::vs,0,m,nd,h1,h2,hk=>by simp at h1 h2;subst h1;subst h2;show bindC kindOf ((p,w)::P.zip vs) m p=_;unfold bindC;rw [FZ fun v hv=>(jj.mp nd).1 (List.of_mem_zip hv).1,aa hk];simp
 | p::P,w::vs,i+1,m,nd,h1,h2,hk=>by show bindC kindOf ((p,w)::P.zip vs) m x=_;unfold bindC;exact F1 (i:=i) (jj.mp nd).2 (by simpa using h1) (by simpa using h2) hk
def start(N:List Str)(vs:List V):St:=vs.map some++List.replicate (N.length-vs.length) none
def jY(CX:g8)(P:Program)(w:World)(K:aH)(mg:du)(base:Heap)(N:List Str)(qual:Str)(scope:Scope)(f:Addr)(cd:Value)(A:Around)(outer:List Env)(s:Shared)(H:Hp)(E:XK):Cx where
 prog:=P
 w:=w
 K:=K
 mg:=mg
 base:=base
 A:=A.deeper (envOfC qual scope s.heap.objs.size f cd)
 N:=N
 s₀:=s
 H₀:=H
 env:=envOfC qual scope s.heap.objs.size f cd
 outer:=outer
 stack:=envOfC qual scope s.heap.objs.size f cd::outer
 ex:=[]
 calm:=true
 fn:=fun _=>true
 pn:=[]
 xe:=fun e s'=>wpAny (model P w) (A.deeper (envOfC qual scope s.heap.objs.size f cd)) (leaving (envOfC qual scope s.heap.objs.size f cd) e) (fun _ eQ=>CX outer H s E e eQ) (fun e' eQ=>CX outer H s E e' eQ) s'
theorem F2{x:Str}(h:sc.names.lookup x=some .cell):∃c,(cellsFrom n sc.names []).lookup x=some c:=by have q:=PySem.W.cellsFrom_some sc.names n [] (.inl h);exact Bn.mp q
variable {CX:g8} {mg:du} {base:Heap} {qual:Str} {scope:Scope} {f:Addr}
theorem M5{cd:Value}{outer:List Env}{s1:Shared}{E:XK}{vs:List V}
  (S:bZ N ps scope) (hd:A.handled=none) (e0:yX P w K mg base A outer s H) (hl:vs.length=ps.length) (r:Vals vs us)
  (x:InCallC s s.heap.objs.size (bindL (envOfC qual scope s.heap.objs.size f cd).kindOf (ps.zip us) fun _=>none) (cellsFrom (s.heap.objs.size+1) scope.names []) (bindC (envOfC qual scope s.heap.objs.size f cd).kindOf (ps.zip us) fun _=>none) s1) :
  Inv (jY CX P w K mg base N qual scope f cd A outer s H E) [] (start N vs) H s1:=by
 have jw:ps.length≤N.length:=by have:=d8 List.length S.pre;rw [me] at this;omega
 obtain ⟨h1,tk,rfl,hk⟩:=x.done;have we:∀b:Addr,b∉(jY CX P w K mg base N qual scope f cd A outer s H E).ex:=fun b z=>absurd (show b∈([]:List Addr) from z) (by simp)
 refine ⟨⟨e0.mod,S.kind,rfl,rfl,ax _,fun y z c h1 h2=>?_,fun y hy=>?_,fun y c _ h=>?_,fun _=>hd,Around.frames_deeper e0.frames,.inr ⟨rfl,rfl⟩,fun b z=>absurd z (we b),e0.bs,e0.iG,fun b _ _=>we b,fun b z=>absurd z (we b),e0.jX,e0.nY⟩,
  rfl,e0.bare,Un.kept hk,⟨_,x.toInCall.ns,fun i y v h1 h2 h3=>?_⟩,fun y c h=>⟨_,x.cell y c h⟩,e0.ay.fresh (ax _),fun y c h=>?_,fun p hp=>absurd (show p∈([]:aQ) from hp) (by simp),e0.ay.kept hk,?_⟩
 ·exact name_of_addr x.apart (jR h1) (jR h2)
 ·have hy:scope.names.lookup y=some .cell∨scope.names.lookup y=some .free:=hy
  rcases hy with hy | hy;·exact F2 hy
  ·exact absurd rfl (S.M4 _ (jR hy))
 ·exact ma (x.above y c (jR h))
 ·have hi:i<vs.length:=by
   unfold start at h2;by_cases hi:i<vs.length;·exact hi
   ·rw [gU (by simpa using hi)] at h2
    rw [List.getElem?_replicate] at h2
    split at h2 <;> cases h2
  have ha:vs[i]?=some v:=by
   unfold start at h2;rw [gW (by simpa using hi),bP] at h2
   cases e:vs[i]? with
   | none=>rw [e] at h2;cases h2
   | some a=>rw [e] at h2;cases h2;rfl
  obtain ⟨u,hu,rv⟩:=r.get ha;have hp:ps[i]?=some y:=by rw [←S.pre,List.getElem?_take_of_lt (by omega)];exact h1
  have F3:ps.Nodup:=by rw [←S.pre];exact S.nd.sublist (List.take_sublist _ _)
  refine ⟨u,rv,?_⟩;rcases S.par y (iX hp) with k | k;·exact .inl ⟨k,F0 F3 hp hu k⟩
  ·obtain ⟨c,e⟩:=F2 (n:=s.heap.objs.size+1) k
   refine .inr ⟨.inl k,c,e,?_⟩;have q:=x.cell y c e;rw [F1 F3 hp hu (by show scope.names.lookup y≠_;rw [k];decide)] at q
   exact q
 ·exact e0.ay.fresh (ma (x.above y c (jR h)))
 ·unfold start
  show _=N.length;rw [dh,aD,List.length_replicate];omega
theorem F4{name:Str}{params:Arguments}{body:List Stmt}{dV kV doc pm b6 ct oc:Value}{an od:Option Addr}
  {lA:Array (Option Value)} {sp:Sp} (lk:K.lookup f=some ⟨oc,od,.func (PySem.W.fnOf name qual params body scope dV kV doc pm an b6 ct),lA⟩) (iH:PySem.W.codeIn K b6 qual=true) (S:bZ N ps scope)
  (len:∀vs H Q E,sp vs H Q E→vs.length=ps.length)
  (mM:∀(A:Around) (outer:List Env) (s:Shared) (H:Hp) (vs:List V) (Q:VK) (E:XK),ei k (A.deeper (envOfC qual scope s.heap.objs.size f b6))→sp vs H Q E→
   ∃t,fO (jY CX P w K mg base N qual scope f b6 A outer s H E) body t∧t {nx:=fun _ H'=>Q .aN H',rt:=Q} (start N vs) H) :
  bJ P w K mg base CX (k+1) f (PySem.W.fnOf name qual params body scope dV kV doc pm an b6 ct) ps sp:=by
 refine ⟨len,fun A outer s H args us vs Q E hr e0 hb r lB=>?_⟩;have hl:=len _ _ _ _ lB;have KX:K.In s.heap:=e0.mod.dv.keeps fun b o e=>(e0.bs b o e).1;have lim:s.heap.NoLimit:=e0.mod.nolimit.keeps fun b o e=>(e0.bs b o e).1;have M6:∀y∈ps.zip us,scope.names.lookup y.1=some .local∨(scope.names.lookup y.1=some .cell∧((cellsFrom (s.heap.objs.size+1) scope.names []).lookup y.1).isSome=true):=fun⟨n,v⟩ hy=>by
  rcases S.par n (List.of_mem_zip hy).1 with q | q;·exact .inl q
  ·exact .inr ⟨q,PySem.W.cellsFrom_some _ _ _ (.inl q)⟩
 refine codeAny_call_function hr.depth (KX _ _ lk) rfl S.co S.gen rfl (PySem.W.codeRec_of KX iH) (hb _ _ _ _ ?_);refine wpAny_newFunctionEnv_cells S.kind M6 fun env he s1 x=>?_;subst he;refine ⟨lim.keeps x.toInCall.keep,codeAny_func ?_⟩;obtain ⟨t,ht,hq⟩:=mM A outer s H vs Q E (hr.deeper _) lB;have I:Inv (jY CX P w K mg base N qual scope f b6 A outer s H E) [] (start N vs) H s1:=M5 S hr.hd e0 hl r x;refine bC (ht [] s1 (start N vs) H _ I hq) (fun fl s' hs=>?_) fun e s' hs=>hs;have fin:∀{σ':St} {H':Hp} {v:V} {u:Value},Inv (jY CX P w K mg base N qual scope f b6 A outer s H E) [] σ' H' s'→RelV v u→Q v H'→CE outer P w H s Q u s':=
  fun{σ' H' v u} J rv q=>⟨v,H',J.os,J.bare,J.base,J.ay,rv,q⟩
 cases fl with
 | ret u=>obtain ⟨v,σ',H',J,rv,q⟩:=hs;exact fin J rv q
 | next=>obtain ⟨σ',H',J,q⟩:=hs;exact fin (v:=V.aN) (u:=Value.none) J rfl q
 | brk=>obtain ⟨_,_,_,q⟩:=hs;exact False.elim q
 | cont=>obtain ⟨_,_,_,q⟩:=hs;exact False.elim q
section
variable {X:Cx} {x:Str} {p pos:Pos} {e:Expr} {es:List Expr} {t:TA} {id T:String} {r:List V→Hp→VK→Prop}
def wg(r:List V→Hp→VK→Prop)(t:TA):TE:=fun σ H Q=>t σ H fun vs H1=>r vs H1 Q
theorem b3(hc:e_ X (.builtin id) r)(hg:Gl X x)(hm:X.mg x=none)(hv:bootBuiltins x=some (.builtin id))(ha:PA X (e::es) t)(hn:x ≠ "__name__":=by decide)(pZ:(x == ("__debug__":Str))=false:=by decide)
  (he:starEach (e::es) X.env=(false,eval e X.env)::starEach es X.env:=by rfl) (jw:(backTo pos (starEach es X.env)).any (·.1)=false:=by rfl):PE X (.Call (.Name x p) (e::es) [] pos) (wg r t):=by
 intro pins s σ H Q I h;refine vI (mF I hg hm hv ?_ hn pZ);exact PyProof.Rows.callWith_builtin1 (aM (ha pos pins s σ H _ I h) fun us s1 ⟨vs,H1,I1,r1,q1⟩=>hc pins s1 σ H1 vs us Q I1 r1 q1) he jw
theorem gx(hc:e_ X (.type T) r)(hg:Gl X x)(hm:X.mg x=none)(hv:bootBuiltins x=some (.type T))(ha:PA X (e::es) t)(hn:x ≠ "__name__":=by decide)(pZ:(x == ("__debug__":Str))=false:=by decide)
  (he:starEach (e::es) X.env=(false,eval e X.env)::starEach es X.env:=by rfl) (jw:(backTo pos (starEach es X.env)).any (·.1)=false:=by rfl):PE X (.Call (.Name x p) (e::es) [] pos) (wg r t):=by
 intro pins s σ H Q I h;refine vI (mF I hg hm hv ?_ hn pZ);exact yl (aM (ha pos pins s σ H _ I h) fun us s1 ⟨vs,H1,I1,r1,q1⟩=>hc pins s1 σ H1 vs us Q I1 r1 q1) he jw
end
end L2
namespace HT
open PySem PyProof.Rows
def lexLt:List Int→List Int→Bool
 | [],[]=>false
 | [],_::_=>true
 | _::_,[]=>false
 | x::xs,y::ys=>if x=y then lexLt xs ys else decide (x<y)
theorem BX(x y:Int)(xs ys:List Int):lexLt (x::xs) (y::ys)=if x=y then lexLt xs ys else decide (x<y):=rfl
theorem M7:lexLt [] []=false:=rfl
theorem M8(y:Int)(ys:List Int):lexLt [] (y::ys)=true:=rfl
theorem M9(x:Int)(xs:List Int):lexLt (x::xs) []=false:=rfl
theorem M_(A:Around)(s:Shared)(a:Int)(t:Tok)(c:Int)(u:Tok):∃e,SeqAt.EqAt A s (.int a t) (.int c u) e∧(e=true↔a=c):=
 ⟨(a == c),SeqAt.EqAt.int_int a t c u,by simp⟩
theorem F5(A:Around)(s:Shared)(a:Int)(t:Tok)(c:Int)(u:Tok)(prog:Program)(w:World)(E:aK)(Q:aK)(h:Q (.bool (decide (a<c))) s) :
  wpAny (model prog w) A (richCompare .Lt (.int a t) (.int c u)) Q E s:=
 (PyProof.Rows.lt_int h:wpAny (model prog w) A (compareOp .Lt (.int a t) (.int c u)) Q E s)
section
open PySem.SeqAt
open PySem.AutoSeq1 (wpAny_loadPart')
open PySem.MeetsSeq PySem.MeetsSeq2 PySem.MeetsSeq3
theorem Na(l b:Addr)(items items2:Array Value)(n n2:Nat)(dd oo:Option Addr)(sl f9:Array (Option Value))(ns ms:List Int)(hi:IntsAre items.toList ns)(hj:IntsAre items2.toList ms) :
  Meets (Builtin.«tuple.__lt__» ⟨[.ref l,.ref b],[]⟩)
   (fun _ R s=>s.heap.get? l=some {cls:=.type "tuple",dict:=dd,data:=.seq items n,slots:=sl}∧s.heap.get? b=some {cls:=.type "tuple",dict:=oo,data:=.seq items2 n2,slots:=f9} ∧
    R (.ok (.ret (.bool (lexLt ns ms)))) s):=
 .of_wp fun prog w A R s h=>by
  obtain ⟨hp,g,d,tk,os⟩:=s;obtain ⟨hl,hb,h⟩:=h;have f2:=AutoSeq1.sub_tuple_tuple;have z1:items.size=ns.length:=by rw [←hi.length];simp
  have z2:items2.size=ms.length:=by rw [←hj.length];simp
  wp_walk using wpAny_loadPart' hl,wpAny_loadPart' hb,wpAny_forIn_list _ (fun rest b s'=>b.1=none∧s'=⟨hp,g,d,tk,os⟩∧∃(vs ws:List Value) (jx tF:List Int),rest=vs.zip ws ∧
   IntsAre vs jx∧IntsAre ws tF∧jx.length+items2.size=tF.length+items.size∧R (.ok (.ret (.bool (lexLt jx tF)))) ⟨hp,g,d,tk,os⟩) _
  case turn=>
   rintro ⟨y,x⟩ rest b s' ⟨fP,rfl,vs,ws,jx,tF,hz,BY,d6,hlen,hR⟩;cases BY with
   | nil=>rw [List.zip_nil_left] at hz;cases hz
   | cons a t Nb=>
    cases d6 with
    | nil=>rw [List.zip_nil_right] at hz;cases hz
    | cons c u Nc=>
     rw [List.zip_cons_cons] at hz;injection hz with Nd Nf;injection Nd with hy hx;subst hy hx;rw [BX] at hR;simp only [eB] at hlen;obtain ⟨e,he,F6⟩:=M_ A.in1 ⟨hp,g,d,tk,os⟩ a t c u;refine aC (he prog w _ _ ?_);cases e with
     | true=>
      rw [ae (F6.mp rfl)] at hR
      wp_walk
      exact ⟨rfl,rfl,_,_,_,_,Nf,Nb,Nc,by omega,hR⟩
     | false=>
      rw [aa (fun q=>absurd (F6.mpr q) dz)] at hR;have Ng:=F5 A.in1 ⟨hp,g,d,tk,os⟩ a t c u prog w
      wp_walk using Ng
      exact ⟨_,rfl,by simpa using hR⟩
  case fin=>
   rintro ⟨b1,b2⟩ s' ⟨fP,rfl,vs,ws,jx,tF,hz,BY,d6,hlen,hR⟩;simp only at fP;subst fP;have hv:lexLt jx tF=decide (items.size<items2.size):=by
    cases BY with
    | nil=>
     cases d6 with
     | nil=>simp only [vJ] at hlen;rw [M7];exact (bW (by omega)).symm
     | cons c u hw=>simp only [vJ,eB] at hlen;rw [M8];exact (bQ (by omega)).symm
    | cons a t hv=>
     cases d6 with
     | nil=>simp only [vJ,eB] at hlen;rw [M9];exact (bW (by omega)).symm
     | cons c u hw=>rw [List.zip_cons_cons] at hz;cases hz
   rw [hv] at hR
   wp_walk
   exact ⟨_,rfl,by simpa [Builtin.Tuple.tupleCompareSizes] using hR⟩
  case h=>exact ⟨rfl,rfl,items.toList,items2.toList,ns,ms,rfl,hi,hj,by omega,h⟩
end
section
variable {prog:Program} {w:World} {A:Around} {E:aK} {s:Shared}
variable {b:Addr} {Q:aK}
theorem Nh{l:Addr}{items items2:Array Value}{ns ms:List Int}(hl:IsTup s.heap l items)(hb:IsTup s.heap b items2)(hi:IntsAre items.toList ns)(hj:IntsAre items2.toList ms)
  (hu:A.units<cLine) (h:Q (.bool (lexLt ns ms)) s):wpAny (model prog w) A (compareOp .Lt (.ref l) (.ref b)) Q E s:=by
 obtain ⟨⟨cls,dd,data,sl⟩,ho,hc,n,hd⟩:=id hl;obtain ⟨⟨F7,oo,data2,f9⟩,lC,gy,n2,hd2⟩:=id hb;simp only at hc hd gy hd2;subst hc hd gy hd2
 exact richCompare_meets_room (op:=.Lt) ⟨_,ho,rfl⟩ ⟨_,lC,rfl⟩ PySem.F.slot_tuple_lt PySem.F.entry_tuple_lt (PySem.F.args_tuple_lt_2 _ _) (Na l b items items2 n n2 dd oo sl f9 ns ms hi hj)
  ⟨ho,lC,show Value.bool (lexLt ns ms)≠Value.notImplemented∧Q (.bool (lexLt ns ms)) s from ⟨(fun x=>nomatch x),h⟩⟩ hu
theorem Ni{t:Addr}{vs ws:List Value}(ht:IsTup s.heap t vs.toArray)(hb:IsTup s.heap b ws.toArray)(hv:vs≠[])
  (h1:ws=[]→Q (.ref t) s) (h2:ws≠[]→Q (.ref s.heap.objs.size) {s with heap:=s.heap.push {cls:=.type "tuple",data:=.seq (vs++ws).toArray}})
  (hsz:vs.length+ws.length≤sizeLine):wpAny (model prog w) A (binaryOp .Add (.ref t) (.ref b)) Q E s:=by
 obtain ⟨⟨cls,dd,data,sl⟩,ho,hc,n,hd⟩:=id ht;obtain ⟨⟨F7,oo,data2,f9⟩,lC,gy,n2,hd2⟩:=id hb;simp only at hc hd gy hd2;subst hc hd gy hd2;have e:vs.toArray++ws.toArray=(vs++ws).toArray:=by simp
 by_cases hw:ws=[]
 ·exact concat_meets ⟨_,ho,rfl⟩ ⟨_,lC,rfl⟩ noFill_tuple_add seq_tuple_add Bo Bp (Bq _ _)
   (tuple_addW1 t b vs.toArray ws.toArray n n2 dd oo sl f9 (by simpa using hv) (by simp [hw])) ⟨ho,lC,h1 hw⟩
 ·refine concat_meets ⟨_,ho,rfl⟩ ⟨_,lC,rfl⟩ noFill_tuple_add seq_tuple_add Bo Bp (Bq _ _)
   (tuple_addW2 t b vs.toArray ws.toArray n n2 dd oo sl f9 (by simpa using hv) (by simpa using hw) (by rw [bR,bR];exact hsz)) ⟨ho,lC,?_⟩
  rw [e];exact h2 hw
def fG(n d:Nat):Option Int→Nat
 | none=>d
 | some v=>if v<0 then (v+(n:Int)).toNat else min v.toNat n
theorem F8(n d:Nat):fG n d none=d:=rfl
theorem F9(n d k:Nat):fG n d (some (k:Int))=min k n:=by
 show (if (k:Int)<0 then ((k:Int)+(n:Int)).toNat else min (k:Int).toNat n)=min k n
 rw [aa (by omega),cZ]
end
end HT
namespace L2
open PySem PySem.Spec PyProof.Rows
abbrev TO:=St→Hp→(Option Int→Hp→Prop)→Prop
def PO(X:Cx)(e:Option Expr)(t:TO):Prop:=
 ∀(pins:aQ) (s:Shared) (σ:St) (H:Hp) (Q:Option Int→Hp→Prop),Inv X pins σ H s→t σ H Q→
  wpAny (model X.prog X.w) X.A (evalPart e X.env) (fun u s'=>∃o H',Inv X pins σ H' s'∧IsPart u o∧Q o H') X.xe s
def Nj:TO:=fun _ H Q=>Q none H
def Nk(t:TE):TO:=fun σ H Q=>t σ H fun x H1=>∃i,x=.int i∧Q (some i) H1
theorem intsAre_of{ns:List Int}:∀{us:List Value},Vals (ns.map V.int) us→IntsAre us ns:=by
 induction ns with
 | nil=>intro us r;rw [sI] at r;cases r;exact .nil
 | cons n ns ih=>
  intro us r;rw [di] at r;cases r with
  | cons r1 r2=>obtain ⟨t,e⟩:=r1;subst e;exact .cons n t (ih r2)
section
variable {X:Cx} {e:Expr} {te:TE} {lo hi:Option Expr} {tl th:TO} {pos p2:Pos}
theorem yY:PO X none Nj:=by intro pins s σ H Q I h;rw [evalPart_none];exact bE ⟨none,H,I,.none,h⟩
theorem yZ(h:PE X e te):PO X (some e) (Nk te):=by intro pins s σ H Q I hw;rw [evalPart_some];refine aM (h pins s σ H _ I hw) fun u s1 ⟨x,H1,I1,r1,q1⟩=>?_;obtain ⟨i,rfl,q⟩:=q1;obtain ⟨t,rfl⟩:=r1;exact ⟨some i,H1,I1,.int i t,q⟩
def BZ(X:Cx)(r:V→Option Int→Option Int→Hp→VK→Prop):Prop:=
 ∀(pins:aQ) (s:Shared) (σ:St) (H:Hp) (x:V) (v vl vu:Value) (lo hi:Option Int) (sl:Addr) (Q:VK),Inv X pins σ H s→RelV x v→s.heap.IsSliceOf sl vl vu .none→IsPart vl lo→IsPart vu hi→r x lo hi H Q→
  ∃T id,typeLookup (.type T) "__getitem__"=pure (some (.builtin id))∧s.TypeIs v T∧wpAny (model X.prog X.w) X.A (getItem v (.ref sl)) (EP X pins σ Q) X.xe s
def Nl(r:V→Option Int→Option Int→Hp→VK→Prop)(te:TE)(tl th:TO):TE:=fun σ H Q=>te σ H fun x H1=>tl σ H1 fun l H2=>th σ H2 fun u H3=>r x l u H3 Q
theorem y4{r:V→Option Int→Option Int→Hp→VK→Prop}(hr:BZ X r)(he:PE X e te)(hl:PO X lo tl)(hu:PO X hi th):PE X (.Subscript e (.Slice lo hi none p2) pos) (Nl r te tl th):=by intro pins s σ H Q I h;refine Subscript_ (aM (he pins s σ H _ I h) fun v s1 ⟨x,H1,I1,r1,q1⟩=>?_);refine wpAny_Slice (aM (hl pins s1 σ H1 _ I1 q1) fun vl s2 ⟨l,H2,I2,pl,q2⟩=>aM (hu pins s2 σ H2 _ I2 q2) fun vu s3 ⟨u,H3,I3,pu,q3⟩=>?_);rw [evalPart_none];refine bE ?_;have I4:Inv X pins σ H3 {s3 with heap:=s3.heap.push {cls:=.type "slice",data:=.fields #[vl,vu,.none]}}:=I3.kept (t':=s3.toks) fun b ob q=>bX _ q;obtain ⟨T,id,hT,ht,hg⟩:=hr pins {s3 with heap:=s3.heap.push {cls:=.type "slice",data:=.fields #[vl,vu,.none]}} σ H3 x v vl vu l u s3.heap.objs.size Q I4 r1 (Heap.IsSliceOf.new ..) pl pu q3;show wpAny (model X.prog X.w) X.A (subscriptTail e (.Slice lo hi none p2) v (.ref s3.heap.objs.size)) (EP X pins σ Q) X.xe {s3 with heap:=s3.heap.push {cls:=.type "slice",data:=.fields #[vl,vu,.none]}};exact tail_any (ops:=[.ref s3.heap.objs.size,v]) ht hT hg (by with_unfolding_all rfl)
def iJ(xs:List V)(lo hi:Option Int):List V:=(xs.drop (HT.fG xs.length 0 lo)).take (HT.fG xs.length xs.length hi-HT.fG xs.length 0 lo)
theorem Nm(xs:List V)(lo hi:Option Int):(iJ xs lo hi).length≤xs.length:=by unfold iJ;rw [me,vK];omega
def Nn(K:aH):R2:=fun x y H Q=>∃a b xs ys,x=.ref a∧y=.ref b∧dU K H a xs∧dU K H b ys∧xs≠[]∧xs.length+ys.length≤sizeLine ∧
 (ys=[]→Q (.ref a) H)∧(ys≠[]→∀p,H p=none→Q (.ref p) (upd H p (.tup (xs++ys))))
theorem Vals.y6{xs:List V}{us:List Value}(r:Vals xs us):us=[]↔xs=[]:=by
 cases r with
 | nil=>simp
 | cons _ _=>simp
theorem Np:cK X (binaryOp .Add) (Nn X.K):=by
 intro pins s σ H x y v u Q I rx ry h;obtain ⟨a,b,xs,ys,rfl,rfl,ha,hb,hx,hz,q1,q2⟩:=h;cases rx;cases ry;obtain ⟨ak,r1,p1,_⟩:=I.tuple ha;obtain ⟨iK,r2,p2,_⟩:=I.tuple hb;refine HT.Ni p1 p2 (fun z=>hx (r1.y6.mp z)) (fun z=>⟨.ref a,H,I,rfl,q1 (r2.y6.mp z)⟩) (fun z=>?_) (by rw [←r1.length,←r2.length];exact hz)
 refine ⟨.ref s.heap.objs.size,_,I.laid (t':=s.toks) (o:=.tup (xs++ys)) (fun b ob q=>bX _ q) (ax _) ?_,rfl,q2 (fun w=>z (r2.y6.mpr w)) _ (I.ay.fresh (ax _))⟩;exact ⟨by rw [dh];exact hz,_,r1.append r2,IsTup.new _ _⟩
end
def jZ(n:Nat)(i:Int):Option Nat:=if 0≤i then (if i<n then some i.toNat else none) else if -(n:Int)≤i then some (i+n).toNat else none
def gz{α:Type}(xs:List α)(i:Int):Option α:=(jZ xs.length i).bind fun j=>xs[j]?
variable {i:Int} {j:Nat}
theorem F_{n:Nat}(h:jZ n i=some j):seqIndex? i n=some j∧j<n∧-(n:Int)≤i∧i<n:=by
 unfold jZ at h;by_cases h0:0≤i
 ·rw [ae h0] at h
  by_cases h1:i<n
  ·rw [ae h1] at h
   have e:i.toNat=j:=Option.some.inj h;exact ⟨by rw [seqIndex_of h0 h1,e],by omega,by omega,h1⟩
  ·rw [aa h1] at h;cases h
 ·rw [aa h0] at h
  by_cases h1:-(n:Int)≤i
  ·rw [ae h1] at h
   have e:(i+n).toNat=j:=Option.some.inj h;exact ⟨by rw [seqIndex_neg (by omega) h1,e],by omega,h1,by omega⟩
  ·rw [aa h1] at h;cases h
theorem Ga{α:Type}{xs:List α}{v:α}(h:gz xs i=some v):∃j,seqIndex? i xs.length=some j∧xs[j]?=some v∧j<xs.length∧-(xs.length:Int)≤i∧i<xs.length:=by
 unfold gz at h;cases e:jZ xs.length i with
 | none=>rw [e] at h;cases h
 | some j=>rw [e] at h;obtain ⟨h1,h2,h3,h4⟩:=F_ e;exact ⟨j,h1,h,h2,h3,h4⟩
theorem oq{α:Type}{xs:List α}{v:α}(h:xs[j]?=some v):gz xs (j:Int)=some v:=by
 have hj:j<xs.length:=(bM.mp h).1;have e:jZ xs.length (j:Int)=some j:=by unfold jZ;rw [ae (by omega),ae (by omega)];simp
 unfold gz;rw [e];exact h
def Gb(b:Expr):Prop:=∀o i,subscripted b false o i=operate [o,i] (getItem o i)
def tG(X:Cx)(r:R2):Prop:=
 ∀(value slice:Expr) (pins:aQ) (s:Shared) (σ:St) (H:Hp) (x y:V) (v u:Value) (Q:VK),Inv X pins σ H s→RelV x v→RelV y u→r x y H Q→
  subscripted slice false v u=operate [v,u] (getItem v u)→wpAny (model X.prog X.w) X.A (subscriptTail value slice v u) (EP X pins σ Q) X.xe s
def Gd(X:Cx)(id:String)(r:V→List V→Hp→VK→Prop):Prop:=
 ∀(pins:aQ) (s:Shared) (σ:St) (H:Hp) (x:V) (xs:List V) (v:Value) (us:List Value) (Q:VK),Inv X pins σ H s→RelV x v→Vals xs us→r x xs H Q→
  wpAny (model X.prog X.w) X.A (call (.builtin id) (v::us)) (EP X pins σ Q) X.xe s
section
variable {X:Cx} {a b:Expr} {ta tb:TE} {pos:Pos}
variable {r:R2}
theorem Nq(hr:tG X r)(ha:PE X a ta)(hb:PE X b tb)(hs:Gb b):PE X (.Subscript a b pos) (og r ta tb):=by intro pins s σ H Q I h;exact Subscript_ (BR ha hb I h fun v u s2 x y H2 I2 rx ry q=>hr a b pins s2 σ H2 x y v u Q I2 rx ry q (hs _ _))
theorem aW(hr:tG X r)(ha:PE X a ta)(hb:PE X b tb)(hs:Gb b:=by exact fun _ _=>rfl):PE X (.Subscript a b pos) (og r ta tb):=Nq hr ha hb hs
def Ge(K:aH):R2:=fun x y H Q=>∃p xs i v,x=.ref p∧y=.int i∧bt K H p xs∧gz xs i=some v∧Q v H
def Gf(K:aH):R2:=fun x y H Q=>∃p xs i v,x=.ref p∧y=.int i∧dU K H p xs∧gz xs i=some v∧Q v H
theorem cL:tG X (Ge X.K):=by
 intro value slice pins s σ H x y v u Q I rx ry h hs;obtain ⟨p,xs,i,z,rfl,rfl,hq,he,q⟩:=h;cases rx;obtain ⟨t,rfl⟩:=ry;obtain ⟨ak,r,pl,hz⟩:=I.list hq;obtain ⟨j,h1,h2,h3,h4,h5⟩:=Ga he;obtain ⟨w,ew,i5⟩:=r.get h2;have hl:=r.length;have hn:=yV;have fin:EP X pins σ Q w s:=⟨z,H,I,i5,q⟩;by_cases h0:0≤i
 ·have hj:i.toNat=j:=by rw [seqIndex_of h0 h5] at h1;exact Option.some.inj h1
  exact item_listR pl.isList h0 (by omega) (by rw [hj];simpa using ew) fin hs
 ·have hj:(i+(ak.toArray.size:Int)).toNat=j:=by
   rw [seqIndex_neg (by omega) h4] at h1
   rw [bR,←hl];exact Option.some.inj h1
  exact subscriptTail_builtinR (x:=w) pl.isList.typeIs slot_list_getitem.lookup
   (wpAny_getItem_list_neg (Q:=fun r s'=>r=w∧EP X pins σ Q r s') pl.isList (by omega) (by rw [bR] <;> omega) (by omega) (by rw [hj];simpa using ew) ⟨rfl,fin⟩) hs
theorem dN:tG X (Gf X.K):=by
 intro value slice pins s σ H x y v u Q I rx ry h hs;obtain ⟨p,xs,i,z,rfl,rfl,hq,he,q⟩:=h;cases rx;obtain ⟨t,rfl⟩:=ry;obtain ⟨ak,r,pl,hz⟩:=I.tuple hq;obtain ⟨j,h1,h2,h3,h4,h5⟩:=Ga he;obtain ⟨w,ew,i5⟩:=r.get h2;have hl:=r.length;have hn:=yV;have fin:EP X pins σ Q w s:=⟨z,H,I,i5,q⟩
 exact subscriptTail_builtinR (x:=w) pl.typeIs slot_tuple_getitem.lookup
  (getItem_tuple (j:=j) (Q:=fun r s'=>r=w∧EP X pins σ Q r s') pl (by omega) (by omega) (by rw [bR,←hl];exact h1) (by simpa using ew) ⟨rfl,fin⟩) hs
theorem Nr(ak:List Value)(n j:Nat)(u:Value):Obj.mapSeq (·.setIfInBounds j u) {cls:=.type "list",data:=.seq ak.toArray n}={cls:=.type "list",data:=.seq (ak.set j u).toArray n}:=by simp [Obj.mapSeq]
theorem Inv.lst{pins:aQ}{σ:St}{H:Hp}{s:Shared}{p:Addr}{xs:List V}(I:Inv X pins σ H s)(h:H p=some (.lst xs)) :
  ∃(ak:List Value) (n:Nat),Vals xs ak∧s.heap.get? p=some {cls:=.type "list",data:=.seq ak.toArray n}∧xs.length≤sizeLine:=by
 obtain ⟨z,ak,n,r,e⟩:=I.ay p _ h;exact ⟨ak,n,r,e,z⟩
variable {pins:aQ} {σ:St} {H:Hp} {s:Shared}
theorem Inv.Nt{p:Addr}{xs ys:List V}{ak its':List Value}{n n':Nat}{f:Obj→Obj}(I:Inv X pins σ H s)(h:H p=some (.lst xs))
  (ho:s.heap.get? p=some {cls:=.type "list",data:=.seq ak.toArray n}) (hf:f {cls:=.type "list",data:=.seq ak.toArray n}={cls:=.type "list",data:=.seq its'.toArray n'}) (r:Vals ys its') (hz:ys.length≤sizeLine) (t:Nat) :
  Inv X pins σ (upd H p (.lst ys)) {s with heap:=s.heap.update p f,toks:=t}:=by
 have e:(s.heap.update p f).get? p=some {cls:=.type "list",data:=.seq its'.toArray n'}:=by rw [Heap.get?_update_self f ho (by rw [hf] <;> rfl),hf]
 refine I.write (x:=p) (e:=p) (by rw [h];trivial) (.inl rfl) (fun b u hb q=>(Heap.get?_update_other _ _ (Ne.symm hb)).trans q) ⟨_,e⟩ ?_
 exact ⟨hz,its',n',r,e⟩
def Nu:V→V→V→Hp→(Hp→Prop)→Prop:=fun o i v H Q=>∃p xs k j,o=.ref p∧i=.int k∧H p=some (.lst xs)∧jZ xs.length k=some j∧Q (upd H p (.lst (xs.set j v)))
theorem set_list:FC X Nu:=by
 intro pins s σ H o i v ov iv u Q I ro ri rv h;obtain ⟨p,xs,k,j,rfl,rfl,hp,hj,q⟩:=h;cases ro;obtain ⟨t,rfl⟩:=ri;obtain ⟨ak,n,r,ho,hz⟩:=I.lst hp;obtain ⟨h1,h2,h3,h4⟩:=F_ hj;have hl:=r.length;have hn:=yV;have I':Inv X pins σ (upd H p (.lst (xs.set j v))) {s with heap:=s.heap.update p (Obj.mapSeq (·.setIfInBounds j u))}:=
  I.Nt hp ho (Nr ak n j u) (r.set rv j) (by rw [List.length_set];exact hz) s.toks
 by_cases h0:0≤k
 ·have hk:k.toNat=j:=by rw [seqIndex_of h0 h4] at h1;exact Option.some.inj h1
  exact PySem.W.ki_setAt ho h0 (by omega) (by rw [bR,←hl];exact h4) (by rw [hk];exact ⟨_,I',q⟩)
 ·have hk:(k+(ak.toArray.size:Int)).toNat=j:=by
   rw [seqIndex_neg (by omega) h3] at h1
   rw [bR,←hl];exact Option.some.inj h1
  exact PySem.W.ki_setBack ho (by omega) (by rw [bR,←hl];exact h3) (by omega) (by rw [hk];exact ⟨_,I',q⟩)
theorem Nv(lo hi:Option Int)(n:Nat):(sliceBounds lo hi none n).1=((HT.fG n 0 lo:Nat):Int)∧(sliceBounds lo hi none n).2.1=((HT.fG n n hi:Nat):Int)∧(sliceBounds lo hi none n).2.2=1:=by
 refine ⟨?_,?_,rfl⟩
 ·cases lo with
  | none=>simp [sliceBounds,HT.fG]
  | some i=>
   simp only [sliceBounds,HT.fG,Option.getD_none,show (1:Int)>0 by decide,jS]
   by_cases h:i<0;·simp only [h,jS] <;> omega
   ·simp only [h,if_false] <;> omega
 ·cases hi with
  | none=>simp [sliceBounds,HT.fG]
  | some i=>
   simp only [sliceBounds,HT.fG,Option.getD_none,show (1:Int)>0 by decide,jS]
   by_cases h:i<0;·simp only [h,jS] <;> omega
   ·simp only [h,if_false] <;> omega
theorem Nw(ak:List Value)(lo hi:Option Int):slicePick ak.toArray lo hi none=((ak.drop (HT.fG ak.length 0 lo)).take (HT.fG ak.length ak.length hi-HT.fG ak.length 0 lo)).toArray:=by obtain ⟨h1,h2,h3⟩:=Nv lo hi ak.toArray.size;unfold slicePick;rw [h1,h2,h3];simp only [sliceRange_one,pick_run,bR] <;> rfl
def Gg(K:aH):V→Option Int→Option Int→Hp→VK→Prop:=fun x lo hi H Q=>∃a xs,x=.ref a∧bt K H a xs∧∀p,H p=none→Q (.ref p) (upd H p (.lst (iJ xs lo hi)))
theorem B0:BZ X (Gg X.K):=by
 intro pins s σ H x v vl vu lo hi sl Q I rx hs pl pu h;obtain ⟨a,xs,rfl,hx,q⟩:=h;cases rx;obtain ⟨ak,r,ht,hz⟩:=I.list hx;have hlen:=r.length;refine ⟨"list",_,slot_list_getitem.lookup,ht.isList.typeIs,?_⟩;refine wpAny_getItem_list_slice ht.isList hs pl pu .none (by simp) ?_ (by rw [bR] <;> omega)
 rw [Nw,←hlen];refine ⟨.ref s.heap.objs.size,_,I.laid (t':=s.toks) (o:=.lst (iJ xs lo hi)) (fun b ob q=>bX _ q) (ax _) ?_,rfl,q _ (I.ay.fresh (ax _))⟩;exact ⟨a9 (Nm xs lo hi) hz,_,0,(r.drop (HT.fG xs.length 0 lo)).take (HT.fG xs.length xs.length hi-HT.fG xs.length 0 lo),dH _ rfl⟩
def jy:V→Bool
 | .aN=>true
 | .bl _=>true
 | .int _=>true
 | .str _=>true
 | _=>false
def i6:V→V→Bool
 | .aN,.aN=>true
 | .bl a,.bl b=>a == b
 | .bl a,.int b=>(if a then 1 else 0) == b
 | .int a,.bl b=>a == (if b then 1 else 0)
 | .int a,.int b=>a == b
 | .str a,.str b=>a == b
 | _,_=>false
variable {y x:V} {u:Value}
theorem B1{A:Around}{v:Value}(ry:RelV y u)(rx:RelV x v)(fy:jy y=true)(fx:jy x=true):SeqAt.EqAt A s u v (i6 y x):=by
 cases y with
 | aN=>
  cases ry;cases x with
  | aN=>cases rx;exact SeqAt.EqAt.same _
  | bl b=>cases rx;exact SeqAt.EqAt.none_bool b
  | int b=>obtain ⟨t,rfl⟩:=rx;exact SeqAt.EqAt.none_int b t
  | str b=>obtain ⟨t,rfl⟩:=rx;exact SeqAt.EqAt.none_str b t
  | _=>exact absurd (show false=true from fx) dz
 | bl a=>
  cases ry;cases x with
  | aN=>cases rx;exact SeqAt.EqAt.bool_none a
  | bl b=>cases rx;exact SeqAt.EqAt.bool_bool a b
  | int b=>obtain ⟨t,rfl⟩:=rx;exact SeqAt.EqAt.bool_int a b t
  | str b=>obtain ⟨t,rfl⟩:=rx;exact SeqAt.EqAt.bool_str a b t
  | _=>exact absurd (show false=true from fx) dz
 | int a=>
  obtain ⟨t',rfl⟩:=ry;cases x with
  | aN=>cases rx;exact SeqAt.EqAt.int_none a t'
  | bl b=>cases rx;exact SeqAt.EqAt.int_bool a t' b
  | int b=>obtain ⟨t,rfl⟩:=rx;exact SeqAt.EqAt.int_int a t' b t
  | str b=>obtain ⟨t,rfl⟩:=rx;exact SeqAt.EqAt.int_str a t' b t
  | _=>exact absurd (show false=true from fx) dz
 | str a=>
  obtain ⟨t',rfl⟩:=ry;cases x with
  | aN=>cases rx;exact SeqAt.EqAt.str_none a t'
  | bl b=>cases rx;exact SeqAt.EqAt.str_bool a t' b
  | int b=>obtain ⟨t,rfl⟩:=rx;exact SeqAt.EqAt.str_int a t' b t
  | str b=>obtain ⟨t,rfl⟩:=rx;exact SeqAt.EqAt.str_str a t' b t
  | _=>exact absurd (show false=true from fx) dz
 | _=>exact absurd (show false=true from fy) dz
def g9(x:V)(u:Value):Bool:=match u with
 | .none=>i6 .aN x
 | .bool b=>i6 (.bl b) x
 | .int i _=>i6 (.int i) x
 | .str z _=>i6 (.str z) x
 | _=>false
theorem Gh(r:RelV y u)(f:jy y=true):g9 x u=i6 y x:=by
 cases y with
 | aN=>cases r;rfl
 | bl b=>cases r;rfl
 | int i=>obtain ⟨t,rfl⟩:=r;rfl
 | str z=>obtain ⟨t,rfl⟩:=r;rfl
 | _=>exact absurd (show false=true from f) dz
theorem wj{x:V}:∀{xs:List V} {us:List Value},Vals xs us→xs.all jy=true→us.any (g9 x)=xs.any fun y=>i6 y x
 | _,_,.nil,_=>rfl
 | y::xs,u::us,.cons r t,f=>by rw [List.all_cons,kK] at f;rw [o9,o9,Gh r f.1,wj t f.2]
theorem wm{A:Around}{s:Shared}{x:V}{v:Value}(rx:RelV x v)(fx:jy x=true):∀{xs:List V} {us:List Value},Vals xs us→xs.all jy=true→∀u∈us,SeqAt.EqAt A s u v (g9 x u)
 | _,_,.nil,_=>fun u hu=>by cases hu
 | y::xs,u::us,.cons r t,f=>fun u' hu=>by
  rw [List.all_cons,kK] at f;rcases cf.mp hu with rfl | hu;·rw [Gh r f.1];exact B1 r rx f.1 fx
  ·exact wm rx fx t f.2 u' hu
def iL(x:V)(xs:List V):Bool:=xs.any fun y=>i6 y x
def y7(K:aH)(neg:Bool):R2:=fun x y H Q=>∃p xs,y=.ref p∧(bt K H p xs∨dU K H p xs)∧jy x=true∧xs.all jy=true∧Q (.bl (if neg then !iL x xs else iL x xs)) H
theorem B2:cK X (compareOp .In) (y7 X.K false):=by
 intro pins s σ H x y v u Q I rx ry h;obtain ⟨p,xs,rfl,hq,fx,fs,q⟩:=h;cases ry;rcases hq with hq | hq
 ·obtain ⟨ak,r,pl,hz⟩:=I.list hq
  refine SeqAt.in_listAt (g9 x) pl.isList (fun w hw=>wm rx fx r fs w (by simpa using hw)) ⟨.bl _,H,I,rfl,?_⟩
  rw [show ak.toArray.any (g9 x)=ak.any (g9 x) by simp,wj r fs]
  exact q
 ·obtain ⟨ak,r,pl,hz⟩:=I.tuple hq
  refine SeqAt.in_tupleAt (g9 x) pl (fun w hw=>wm rx fx r fs w (by simpa using hw)) ⟨.bl _,H,I,rfl,?_⟩
  rw [show ak.toArray.any (g9 x)=ak.any (g9 x) by simp,wj r fs]
  exact q
theorem Nx:cK X (compareOp .NotIn) (y7 X.K true):=by
 intro pins s σ H x y v u Q I rx ry h;obtain ⟨p,xs,rfl,hq,fx,fs,q⟩:=h;cases ry;rcases hq with hq | hq
 ·obtain ⟨ak,r,pl,hz⟩:=I.list hq
  refine SeqAt.notIn_listAt (g9 x) pl.isList (fun w hw=>wm rx fx r fs w (by simpa using hw)) ⟨.bl _,H,I,rfl,?_⟩
  rw [show ak.toArray.any (g9 x)=ak.any (g9 x) by simp,wj r fs]
  exact q
 ·obtain ⟨ak,r,pl,hz⟩:=I.tuple hq
  refine SeqAt.notIn_tupleAt (g9 x) pl (fun w hw=>wm rx fx r fs w (by simpa using hw)) ⟨.bl _,H,I,rfl,?_⟩
  rw [show ak.toArray.any (g9 x)=ak.any (g9 x) by simp,wj r fs]
  exact q
theorem gA:e_ X (.builtin "len") (fun xs H Q=>∃p ys,xs=[.ref p]∧(bt X.K H p ys∨dU X.K H p ys)∧Q (.int ys.length) H):=by
 intro pins s σ H xs us Q I r h;obtain ⟨p,ys,rfl,hq,q⟩:=h;obtain ⟨u,rfl,rx⟩:=vals1 r;cases rx;have hn:=yV;rcases hq with hq | hq
 ·obtain ⟨ak,r',pl,hz⟩:=I.list hq
  have hlen:=r'.length;exact Calls.call_len_list pl.isList (by simp only [bR] <;> omega) ⟨.int ys.length,H,I.tok _,⟨s.toks+1,by rw [bR,hlen]⟩,q⟩
 ·obtain ⟨ak,r',pl,hz⟩:=I.tuple hq
  have hlen:=r'.length;exact len_tuple pl (by simp only [bR] <;> omega) ⟨.int ys.length,H,I.tok _,⟨s.toks+1,by rw [bR,hlen]⟩,q⟩
theorem Ny:e_ X (.type "list") (fun xs H Q=>∃p ys,xs=[.ref p]∧(bt X.K H p ys∨dU X.K H p ys)∧∀l,H l=none→Q (.ref l) (upd H l (.lst ys))):=by
 intro pins s σ H xs us Q I r h;obtain ⟨p,ys,rfl,hq,q⟩:=h;obtain ⟨u,rfl,rx⟩:=vals1 r;cases rx
 have fin:∀(ak:List Value),Vals ys ak→ys.length≤sizeLine→∀(h':Heap) (c':Nat),(∀b o',s.heap.get? b=some o'→h'.get? b=some o')→
   h'.get? s.heap.objs.size=some {cls:=.type "list",dict:=none,data:=.seq ak.toArray c',slots:=#[]}→EP X pins σ Q (.ref s.heap.objs.size) {s with heap:=h'}:=fun ak r' hz h' c' kp e=>
  ⟨.ref s.heap.objs.size,_,I.laid (t':=s.toks) kp (ax _) (show cg X.prog X.w _ h' _ (.lst ys) from ⟨hz,ak,c',r',e⟩),rfl,q _ (I.ay.fresh (ax _))⟩
 rcases hq with hq | hq
 ·obtain ⟨ak,r',pl,hz⟩:=I.list hq
  have hlen:=r'.length;obtain ⟨o,ho,hc,n,hd⟩:=pl.isList;exact call_list_seq p (.inl rfl) ho hc hd (fun h' c' kp e=>fin ak r' hz h' c' kp e) (by simp only [bR] <;> omega)
 ·obtain ⟨ak,r',pl,hz⟩:=I.tuple hq
  have hlen:=r'.length;obtain ⟨o,ho,hc,n,hd⟩:=pl;exact call_list_seq p (.inr rfl) ho hc hd (fun h' c' kp e=>fin ak r' hz h' c' kp e) (by simp only [bR] <;> omega)
theorem B3:e_ X (.type "tuple") (fun xs H Q=>∃p ys,xs=[.ref p]∧((bt X.K H p ys∧∀l,H l=none→Q (.ref l) (upd H l (.tup ys)))∨(dU X.K H p ys∧Q (.ref p) H))):=by
 intro pins s σ H xs us Q I r h;obtain ⟨p,ys,rfl,h⟩:=h;obtain ⟨u,rfl,rx⟩:=vals1 r;cases rx;rcases h with ⟨hq,q⟩ | ⟨hq,q⟩
 ·obtain ⟨ak,r',pl,hz⟩:=I.list hq
  have hlen:=r'.length;refine call_tuple_list pl.isList (fun h' kp=>?_) (by simp only [bR] <;> omega)
  have I1:Inv X pins σ H {s with heap:=h'}:=I.kept (t':=s.toks) kp;have I2:Inv X pins σ (upd H h'.objs.size (.tup ys)) {s with heap:=h'.push {cls:=.type "tuple",data:=.seq ak.toArray}}:=
   I1.laid (t':=s.toks) (fun b o e=>bX _ e) (ax _) (show cg X.prog X.w _ _ _ (.tup ys) from ⟨hz,ak,r',IsTup.new _ _⟩)
  exact ⟨.ref h'.objs.size,_,I2,rfl,q _ (I1.ay.fresh (ax _))⟩
 ·obtain ⟨ak,r',pl,hz⟩:=I.tuple hq
  exact call_tuple_same pl ⟨.ref p,H,I,rfl,q⟩
def B4(K:aH)(T:String)(x:V)(H:Hp):Prop:=match x with
 | .str _=>T="str"
 | .int _=>T="int"
 | .ref p=>(T="list"∧∃xs,bt K H p xs)∨(T="tuple"∧∃o,K.lookup p=some o∧o.cls=.type "tuple"∧o.dict=none) ∨
   (T="dict"∧((∃kvs,H p=some (.dK kvs))∨∃kvs,H p=some (.dT kvs)))∨(T="set"∧∃S n,H p=some (.set S n))
 | _=>False
theorem Gi{T:String}{v:Value}(I:Inv X pins σ H s)(r:RelV x v)(ty:B4 X.K T x H) :
  s.TypeIs v T∧∀a,v=.ref a→∃ob,s.heap.get? a=some ob∧ob.dict=none:=by
 cases x with
 | str z=>obtain ⟨t,rfl⟩:=r;cases (show T="str" from ty);exact ⟨typeIs_str s z t,fun _ e=>nomatch e⟩
 | int i=>obtain ⟨t,rfl⟩:=r;cases (show T="int" from ty);exact ⟨typeIs_int s i t,fun _ e=>nomatch e⟩
 | ref p=>
  cases r;rcases ty with ⟨rfl,xs,hq⟩ | ⟨rfl,o,hk,hc,hd⟩ | ⟨rfl,hk⟩ | ⟨rfl,S,n,hk⟩
  ·obtain ⟨ak,_,pl,_⟩:=I.list hq
   refine ⟨pl.isList.typeIs,fun a e=>?_⟩;cases e;obtain ⟨o,n,e,c,hd,_⟩:=pl;exact ⟨o,e,hd⟩
  ·refine ⟨⟨o,I.fB p o hk,hc⟩,fun a e=>?_⟩
   cases e;exact ⟨o,I.fB _ o hk,hd⟩
  ·have z:∃o,s.heap.get? p=some o∧o.ExactDict:=by
    rcases hk with ⟨kvs,hk⟩ | ⟨kvs,hk⟩
    ·obtain ⟨_,_,_,_,o,_,_,e,ex,_⟩:=I.ay p _ hk
     exact ⟨o,e,ex⟩
    ·obtain ⟨_,_,_,_,o,_,_,e,ex,_⟩:=I.ay p _ hk
     exact ⟨o,e,ex⟩
   obtain ⟨o,e,ex⟩:=z;refine ⟨⟨o,e,ex.1⟩,fun a e2=>?_⟩;cases e2;exact ⟨o,e,ex.2.1⟩
  ·obtain ⟨o,_,_,_,e,ex,_⟩:=I.ay p _ hk
   refine ⟨⟨o,e,ex.1⟩,fun a e2=>?_⟩;cases e2;exact ⟨o,e,ex.2.1⟩
 | _=>exact False.elim ty
def Nz(K:aH)(T:String)(r:V→List V→Hp→VK→Prop)(to:TE):TE:=fun σ H Q=>to σ H fun x H1=>B4 K T x H1∧r x [] H1 Q
def NA(K:aH)(T:String)(r:V→List V→Hp→VK→Prop)(to:TE)(t:TA):TE:=fun σ H Q=>to σ H fun x H1=>B4 K T x H1∧t σ H1 fun xs H2=>r x xs H2 Q
variable {o e:Expr} {es:List Expr} {to:TE} {t:TA} {name:Str} {apos g_:Pos} {T id:String} {r:V→List V→Hp→VK→Prop}
theorem B5(pa:PlainAttrs T)(slot:Slot T name id)(B6:typeOf (.builtin id)=pure (.type "method_descriptor"))(hm:Gd X id r)(ho:PE X o to)
  (B7:attributeBase o name X.env (eval o X.env)=eval o X.env:=by rfl) (B8:(apos.endLine == g_.line)=true:=by rfl):PE X (.Call (.Attribute o name apos) [] [] g_) (Nz X.K T r to):=by
 intro pins s σ H Q I h;refine wpAny_Call_method0_late B7 B8 (aM (ho pins s σ H _ I h) fun v s1 ⟨x,H1,I1,r1,ty,q1⟩=>?_);obtain ⟨h1,h2⟩:=Gi I1 r1 ty;exact ⟨T,id,pa,slot,B6,h1,h2,Calls.callWith_builtin rfl (PySem.evalArgs_none (hm pins s1 σ H1 x [] v [] Q I1 r1 .nil q1))⟩
theorem gB(pa:PlainAttrs T)(slot:Slot T name id)(B6:typeOf (.builtin id)=pure (.type "method_descriptor"))(hm:Gd X id r)(ho:PE X o to)(ha:PA X (e::es) t)
  (B7:attributeBase o name X.env (eval o X.env)=eval o X.env:=by rfl)
  (NB:((backTo g_ (starEach (e::es) X.env)).all (fun x=>!x.1) && (backToKw g_ (keywordEach [] X.env)).all (fun x=>x.1.isSome)
   && decide ((e::es).length+([]:List Keyword).length+(if ([]:List Keyword).isEmpty then 0 else 1)<30))=true:=by rfl)
  (B8:(apos.endLine == g_.line)=true:=by rfl) (hs:starEach (e::es) X.env=(false,eval e X.env)::starEach es X.env:=by rfl) (NC:(backTo g_ (starEach es X.env)).any (·.1)=false:=by rfl) :
  PE X (.Call (.Attribute o name apos) (e::es) [] g_) (NA X.K T r to t):=by
 intro pins s σ H Q I h;refine wpAny_Call_method_late B7 NB B8 rfl (aM (ho pins s σ H _ I h) fun v s1 ⟨x,H1,I1,r1,ty,q1⟩=>?_);obtain ⟨h1,h2⟩:=Gi I1 r1 ty;refine ⟨T,id,pa,slot,B6,h1,h2,?_⟩;have hA:=ha g_ pins s1 σ H1 _ I1 q1;rw [hs] at hA ⊢;refine Calls.callWith_builtin (by show (false || (backTo g_ (starEach es X.env)).any (·.1))=false;rw [NC] <;> rfl) (Calls.evalArgs_plain ?_)
 exact aM hA fun us s2 ⟨vs,H2,I2,r2,q2⟩=>hm pins s2 σ H2 x vs v us Q I2 r1 r2 q2
end
def tH(X:Cx)(id:String)(r:V→List V→Hp→VK→Prop):Prop:=
 ∀(pins:aQ) (s:Shared) (σ:St) (H:Hp) (x:V) (xs:List V) (v:Value) (us:List Value) (Q:VK),Inv X pins σ H s→RelV x v→Vals xs us→r x xs H Q→
  wpAny (model X.prog X.w) X.A (call (.builtin id) (v::us)) (EP X pins σ Q) X.xe s
theorem Vals.one:∀{x:V} {us:List Value},Vals [x] us→∃u,us=[u]∧RelV x u
 | _,_,.cons r .nil=>⟨_,rfl,r⟩
theorem Vals.zero:∀{us:List Value},Vals [] us→us=[]
 | _,.nil=>rfl
variable {xs:List V} {us:List Value}
theorem Vals.dropLast(h:Vals xs us):Vals xs.dropLast us.dropLast:=by
 induction h with
 | nil=>exact .nil
 | cons r t ih=>
  cases t with
  | nil=>exact .nil
  | cons q t'=>exact .cons r ih
theorem Vals.eraseIdx:∀{xs:List V} {us:List Value} (i:Nat),Vals xs us→Vals (xs.eraseIdx i) (us.eraseIdx i)
 | _,_,_,.nil=>.nil
 | _,_,0,.cons _ t=>t
 | _,_,i+1,.cons r t=>.cons r (Vals.eraseIdx i t)
theorem Vals.reverse(h:Vals xs us):Vals xs.reverse us.reverse:=by
 induction h with
 | nil=>exact .nil
 | cons r t ih=>rw [List.reverse_cons,List.reverse_cons];exact Vals.append ih (.cons r .nil)
theorem Vals.rep{xs:List V}{us:List Value}(h:Vals xs us):∀k:Nat,Vals (List.replicate k xs).flatten (List.replicate k us).flatten
 | 0=>.nil
 | k+1=>by rw [sJ,sJ,vL,vL];exact Vals.append h (Vals.rep h k)
variable {α:Type}
theorem ND(l:List α):l.eraseIdx (l.length-1)=l.dropLast:=by
 induction l with
 | nil=>rfl
 | cons a r ih=>
  cases r with
  | nil=>rfl
  | cons b r=>
   have e:(a::b::r).length-1=((b::r).length-1)+1:=by have h1:(a::b::r).length=r.length+2:=rfl;have h2:(b::r).length=r.length+1:=rfl;omega
   rw [e,List.eraseIdx_cons_succ,ih]
   all_goals rfl
theorem B9{α:Type}:∀(l:List α) (i:Nat),(l.eraseIdx i).length≤l.length
 | [],_=>ax _
 | _::_,0=>iE _
 | _::r,i+1=>Nat.succ_le_succ (B9 r i)
theorem foldl_rep(ak:List Value):∀(k:Nat) (acc:List Value),
  List.foldl (fun x1 x2=>x1++x2) acc.toArray (List.replicate k ak.toArray)=(acc++(List.replicate k ak).flatten).toArray
 | 0,acc=>by simp
 | k+1,acc=>by
  have e:acc.toArray++ak.toArray=(acc++ak).toArray:=by simp
  have e2:(acc++ak)++(List.replicate k ak).flatten=acc++(List.replicate (k+1) ak).flatten:=by rw [sJ,vL,gm]
  rw [←e2,←foldl_rep ak k (acc++ak),←e,sJ,List.foldl_cons]
section
variable {X:Cx} {pins:aQ} {σ:St} {H:Hp} {s:Shared} {l b:Addr} {xs ys zs:List V}
variable {ak:List Value} {n t':Nat}
theorem Inv.tI{its':List Value}{f:Array Value→Array Value}(I:Inv X pins σ H s)(hH:H l=some (.lst xs))
  (e:s.heap.get? l=some {cls:=.type "list",data:=.seq ak.toArray n}) (hf:f ak.toArray=its'.toArray) (hv:Vals ys its') (hz:ys.length≤sizeLine) :
  Inv X pins σ (upd H l (.lst ys)) {s with heap:=s.heap.update l (Obj.mapSeq f),toks:=t'}:=by
 have q:=PySem.IsL.update e f;rw [hf] at q;refine I.write (x:=l) (e:=l) (by rw [hH];exact trivial) (.inl rfl) (fun b' u hb hu=>(Heap.get?_update_other s.heap (Obj.mapSeq f) (Ne.symm hb)).trans hu) ⟨_,q⟩ ?_
 exact ⟨hz,its',_,hv,q⟩
theorem Inv.Gj(I:Inv X pins σ H s)(hv:Vals ys ak)(hz:ys.length≤sizeLine) :
  Inv X pins σ (upd H s.heap.objs.size (.lst ys)) {s with heap:=s.heap.push {cls:=.type "list",data:=.seq ak.toArray},toks:=t'}:=
 I.laid (fun _ _ q=>bX _ q) (ax _) ⟨hz,ak,0,hv,dH _ rfl⟩
theorem Inv.fresh(I:Inv X pins σ H s):H s.heap.objs.size=none:=I.ay.fresh (ax _)
theorem Inv.lE(I:Inv X pins σ H s)(hH:H l=some (.lst xs)):xs.length≤sizeLine∧∃(ak:List Value) (n:Nat),Vals xs ak∧xs.length=ak.length∧s.heap.get? l=some {cls:=.type "list",data:=.seq ak.toArray n}:=by obtain ⟨z,ak,n,r,e⟩:=I.ay l _ hH;exact ⟨z,ak,n,r,r.length,e⟩
theorem Gk(h:n≤sizeLine):Builtin.List.listTooLong n=false:=by unfold Builtin.List.listTooLong;exact bW (by omega)
end
section
variable {X:Cx}
def NF:V→List V→Hp→VK→Prop:=fun x vs H Q=>∃l xs y,x=.ref l∧vs=[y]∧H l=some (.lst xs)∧xs.length<sizeLine∧Q .aN (upd H l (.lst (xs++[y])))
theorem gC:tH X "list.append" NF:=by
 intro pins s σ H x vs v us Q I rx rv h;obtain ⟨l,xs,y,rfl,rfl,hH,hz,q⟩:=h;cases rx;obtain ⟨u,rfl,ru⟩:=rv.one;obtain ⟨z,ak,n,r,hl,e⟩:=I.lE hH;refine nG F.slot_list_append ⟨_,e,rfl⟩ F.entry_list_append (F.args_list_append_2 _ _) (PySem.list_append l ak.toArray n u (by rw [bR];omega)) ⟨e,?_⟩
 refine ⟨.aN,_,I.tI (its':=ak++[u]) hH e (by simp) (r.append (.cons ru .nil)) ?_,rfl,q⟩
 rw [dh,kL];omega
def NG:V→List V→Hp→VK→Prop:=fun x vs H Q=>∃l b xs zs,x=.ref l∧vs=[.ref b]∧H l=some (.lst xs)∧H b=some (.lst zs)∧xs.length+zs.length≤sizeLine∧Q .aN (upd H l (.lst (xs++zs)))
theorem Gm:tH X "list.extend" NG:=by
 intro pins s σ H x vs v us Q I rx rv h;obtain ⟨l,b,xs,zs,rfl,rfl,hH,hB,hz,q⟩:=h;cases rx;obtain ⟨u,rfl,ru⟩:=rv.one;cases ru;obtain ⟨z,ak,n,r,hl,e⟩:=I.lE hH;obtain ⟨z2,iK,n2,r2,NH,e2⟩:=I.lE hB;have hsz:ak.toArray.size+iK.toArray.size≤sizeLine:=by rw [bR,bR];omega
 have B_:¬(!ak.toArray.isEmpty && Builtin.List.listTooLong (ak.toArray.size+iK.toArray.size))=true:=by rw [Gk hsz,Bool.and_false];exact dz
 refine nG F.slot_list_extend ⟨_,e,rfl⟩ F.entry_list_extend (F.args_list_extend_2 _ _)
  (AutoSeq1.list_extend_list_list_0 l ak.toArray n b iK.toArray n2 B_ (by rw [bR];omega) (by omega)) ⟨e,e2,?_⟩
 refine ⟨.aN,_,I.tI (its':=ak++iK) hH e (by simp) (r.append r2) ?_,rfl,q⟩
 rw [dh];omega
def NI:V→List V→Hp→VK→Prop:=fun x vs H Q=>∃l xs y,x=.ref l∧vs=[]∧H l=some (.lst xs)∧xs[xs.length-1]?=some y∧Q y (upd H l (.lst xs.dropLast))
theorem Gn:tH X "list.pop" NI:=by
 intro pins s σ H x vs v us Q I rx rv h;obtain ⟨l,xs,y,rfl,rfl,hH,hy,q⟩:=h;cases rx;have jA:=rv.zero;subst jA;obtain ⟨z,ak,n,r,hl,e⟩:=I.lE hH;obtain ⟨u,hu,ru⟩:=r.get hy;have Ca:ak.toArray[ak.toArray.size-1]?=some u:=by show ak.toArray[ak.length-1]?=some u;rw [←Br,←hl];exact hu
 refine nG F.slot_list_pop ⟨_,e,rfl⟩ F.entry_list_pop (F.args_list_pop_1 _) (MeetsSeq.list_pop_last l ak.toArray n u Ca (by rw [bR];omega)) ⟨e,?_⟩
 refine ⟨y,_,I.tI (its':=ak.dropLast) hH e ?_ r.dropLast ?_,ru,q⟩
 ·show ak.toArray.eraseIdxIfInBounds (ak.toArray.size-1)=ak.dropLast.toArray
  rw [bR,Bs,ND]
 ·rw [List.length_dropLast]
  omega
def NJ:V→List V→Hp→VK→Prop:=fun x vs H Q=>∃l xs i k y,x=.ref l∧vs=[.int i]∧H l=some (.lst xs)∧-(2 ^ 63)≤i∧i<2 ^ 63∧seqIndex? i xs.length=some k∧xs[k]?=some y∧Q y (upd H l (.lst (xs.eraseIdx k)))
theorem NK:tH X "list.pop" NJ:=by
 intro pins s σ H x vs v us Q I rx rv h;obtain ⟨l,xs,i,k,y,rfl,rfl,hH,h1,h2,hk,hy,q⟩:=h;cases rx;obtain ⟨u,rfl,ru⟩:=rv.one;obtain ⟨t,rfl⟩:=ru;obtain ⟨z,ak,n,r,hl,e⟩:=I.lE hH;obtain ⟨w,hw,i5⟩:=r.get hy
 refine nG F.slot_list_pop ⟨_,e,rfl⟩ F.entry_list_pop (F.args_list_pop_2 _ _)
  (MeetsSeq.list_pop_at l ak.toArray n i t k w (fitsIndex_both h1 h2) (by rw [bR,←hl];exact hk) (by rw [←Br];exact hw) (by rw [bR];omega)) ⟨e,?_⟩
 refine ⟨y,_,I.tI (its':=ak.eraseIdx k) hH e ?_ (r.eraseIdx k) ?_,i5,q⟩
 ·show ak.toArray.eraseIdxIfInBounds k=(ak.eraseIdx k).toArray
  rw [Bs]
 ·have:=B9 xs k
  omega
def NL:V→List V→Hp→VK→Prop:=fun x vs H Q=>∃l xs,x=.ref l∧vs=[]∧H l=some (.lst xs)∧Q .aN (upd H l (.lst xs.reverse))
theorem NM:tH X "list.reverse" NL:=by
 intro pins s σ H x vs v us Q I rx rv h;obtain ⟨l,xs,rfl,rfl,hH,q⟩:=h;cases rx;have jA:=rv.zero;subst jA;obtain ⟨z,ak,n,r,hl,e⟩:=I.lE hH;refine nG F.slot_list_reverse ⟨_,e,rfl⟩ F.entry_list_reverse (F.args_list_reverse_1 _) (AutoSeq1.list_reverse_list_0 l ak.toArray n (by rw [bR];omega)) ⟨e,?_⟩
 refine ⟨.aN,_,I.tI (its':=ak.reverse) hH e (by simp) r.reverse ?_,rfl,q⟩
 rw [List.length_reverse];omega
def NN:R2:=fun x y H Q=>∃l b xs zs,x=.ref l∧y=.ref b∧H l=some (.lst xs)∧H b=some (.lst zs)∧xs.length+zs.length≤sizeLine∧∀p,H p=none→Q (.ref p) (upd H p (.lst (xs++zs)))
theorem y8:cK X (binaryOp .Add) NN:=by
 intro pins s σ H x y v u Q I rx ry h;obtain ⟨l,b,xs,zs,rfl,rfl,hH,hB,hz,q⟩:=h;cases rx;cases ry;obtain ⟨z,ak,n,r,hl,e⟩:=I.lE hH;obtain ⟨z2,iK,n2,r2,NH,e2⟩:=I.lE hB;refine PySem.P.add_list e e2 ?_ (by rw [bR,bR];omega)
 have ea:ak.toArray++iK.toArray=(ak++iK).toArray:=by simp
 rw [ea];exact ⟨.ref _,_,I.Gj (t':=s.toks) (r.append r2) (by rw [dh];omega),rfl,q _ I.fresh⟩
def NP:R2:=fun x y H Q=>∃l k xs,x=.ref l∧y=.int k∧H l=some (.lst xs)∧-(2 ^ 63)≤k∧k<2 ^ 63∧xs.length*k.toNat≤sizeLine ∧
 ∀p,H p=none→Q (.ref p) (upd H p (.lst (List.replicate k.toNat xs).flatten))
theorem len_rep(xs:List α)(k:Nat):(List.replicate k xs).flatten.length=k*xs.length:=by
 induction k with
 | zero=>simp
 | succ k ih=>rw [sJ,vL,dh,ih,Nat.succ_mul,Nat.add_comm]
theorem NQ:cK X (binaryOp .Mult) NP:=by
 intro pins s σ H x y v u Q I rx ry h;obtain ⟨l,k,xs,rfl,rfl,hH,h1,h2,hz,q⟩:=h;cases rx;obtain ⟨t,rfl⟩:=ry;obtain ⟨z,ak,n,r,hl,e⟩:=I.lE hH;have hlen:ak.toArray.size*k.toNat≤sizeLine:=by rw [bR,←hl];exact hz
 have NR:¬ak.toArray.size*k.toNat>(2 ^ 63-1) / 8:=by
  have:(sizeLine:Nat)≤(2 ^ 63-1) / 8:=by decide
  omega
 have Gp:¬(!Builtin.List.listFitsIndex k)=true:=by rw [fitsIndex_both h1 h2];exact dz
 have B_:¬Builtin.List.listTooLong (ak.toArray.size*k.toNat)=true:=by rw [Gk hlen];exact dz
 have NS:List.foldl (fun x1 x2=>x1++x2) #[] (List.replicate (if ak.toArray.isEmpty=true then 0 else k.toNat) ak.toArray)=(List.replicate k.toNat ak).flatten.toArray:=by
  have f0:∀m:Nat,List.foldl (fun x1 x2=>x1++x2) #[] (List.replicate m ak.toArray)=(List.replicate m ak).flatten.toArray:=fun m=>by have:=foldl_rep ak m [];rw [List.nil_append] at this;exact this
  rw [f0];cases ak with
  | nil=>simp
  | cons a r'=>rw [aa (by simp)]
 refine wpAny_binaryOp_repeat_ref (T:="list") (U:="int") (by decide) ⟨_,e,rfl⟩ (fun s'=>typeIs_int s' k t) noFill_list_mul F.fills_int_mul F.slot_int_rmul repeat_list F.slot_int_index.lookup
  (nG F.slot_int_rmul (typeIs_int s k t) F.entry_int_rmul (F.args_int_rmul_2 _ _) (int___rmul___int_list k t l ak.toArray n)
   ⟨e,rfl,⟨_,e,rfl⟩,nG F.slot_list_mul ⟨_,e,rfl⟩ F.entry_list_mul (F.args_list_mul_2 _ _) (AutoListH.list___mul___list_int_3 l ak.toArray n k t Gp NR B_) ⟨e,?_⟩⟩)
 rw [NS];exact ⟨.ref _,_,I.Gj (t':=s.toks) (r.rep k.toNat) (by rw [len_rep,Nat.mul_comm];exact hz),rfl,q _ I.fresh⟩
end
section
variable {prog:Program} {w:World} {A:Around} {E:aK} {s:Shared}
end
section
variable {X:Cx}
end
end L2
namespace y9
open PySem PySem.W PySem.Calls PyProof.Rows
variable {P:Params} {h:Heap}
theorem NT:∀(ns:List Int) (vs:List Value),WellAll P h vs (ns.map WData.int)→IntsAre vs ns:=by
 intro ns
 induction ns with
 | nil=>intro vs w;rw [sI] at w;cases w;exact .nil
 | cons n ns ih=>
  intro vs w;rw [di] at w;cases w with
  | cons a b=>cases a;exact .cons _ _ (ih _ b)
variable {l:OpenLaw} {n:Nat}
theorem NU(hn:l.most=some n){args:List WData}{vals:List Value}
  (y_:l.row.toRowW.claim.pre args=true) (Cb:WellAll P h vals args) :
  ∃a vs ns,vals=[Value.ref a]∧args=[WData.list (ns.map WData.int)]∧h.get? a=some {cls:=.type "list",data:=.seq vs.toArray}∧IntsAre vs ns∧ns.length≤n:=by
 have NV:WShape.hasAll [] args [.list .int]=true:=(pre_splitW y_).1;have hc:l.pre.holds [] {args:=args}=true:=(pre_splitW y_).2;obtain ⟨d,r,rfl,h1,h2⟩:=hasAllW_cons NV;obtain rfl:=hasAllW_nil h2;obtain ⟨xs,rfl,h3⟩:=hasW_list h1;obtain ⟨ns,rfl⟩:=items_int h3;have hlen:ns.length≤n:=by
  unfold OpenLaw.pre at hc;have h4:(WTm.not (.lt (.lit (.int (n:Int))) (.len (.arg 0)))).holds [] {args:=[.list (ns.map .int)]}=true:=by have h4:=(holds_andW hc).1;rw [hn] at h4;exact h4
  have h5:=condW_of h4 (w_not (w_lt w_lit (w_len_list (w_arg rfl))));rw [aD] at h5;refine Nat.le_of_not_lt fun q=>?_;have q':(n:Int)<((ns.length:Nat):Int):=by omega
  first
   | (rw [bQ q'] at h5;exact absurd h5 (by decide))
   | (simp at h5;omega)
 cases Cb with
 | cons w1 w2=>
  cases w2;cases w1 with
  | list ho wu=>exact ⟨_,_,ns,rfl,rfl,ho,NT ns _ wu,hlen⟩
theorem NW(l:OpenLaw)(args:List WData):l.row.toRowW.claim.post args (.bool true) args=true:=
 postW_of (r:=l.row.toRowW) (X:=(true == true))
  (show WShape.has [] (.bool true) .bool=true by first | rfl | decide | simp [WShape.has,WShape.arms,WShape.armsAll])
  (show (WTm.eq .res (.lit (.bool true))).value [] {args:=args,res:=some (.bool true),after:=args}=some (.bool (true == true)) from w_eq_bool (w_res rfl) w_lit) rfl
theorem NX{q:Program}{loose:List Str}{XP:(Str→Option Value)→Heap→Prop}{YP:World→Heap→Prop}{d:DefRec}
  (hn:l.most=some n) (wx:d.params.defaults=[])
  (call:∀(w:World) (s₀ s₁:Shared) (mg mb:du) (fa:Addr) (o:Obj) (pm cd doc:Value) (a:Addr) (vs:List Value) (ns:List Int),
   Ground q loose [] XP w s₀ mg mb s₁.heap→YP w s₁.heap→
   s₁.heap.get? fa=some o→o.data=.func (docDef d.name d.params d.body d.scope pm cd doc)→s₁.heap.CodeRec cd d.name→mg d.name=some (.ref fa)→
   s₁.heap.get? a=some {cls:=.type "list",data:=.seq vs.toArray}→IntsAre vs ns→ns.length≤n→s₁.gens = #[]→
   codeAny (model l.prog w) callerA (.call (.ref fa) ⟨[.ref a],[]⟩) (fun r s'=>r=.ok (.ret (.bool true))∧OldK s₁.heap s'.heap∧s'.os=s₁.os∧AllBare s'.gens) s₁) :
  WalkO q loose XP YP l.row.toRowW d [] (fun f vs=>PySem.call f vs):=by
 intro w s₀ s₁ mg mb G Y fa o pm cd doc dV kV ho hd iH hD wA hg args vals as y_ X1 X2 Cb Ya;obtain rfl:dV=.none:=Dflts.none hD wx;obtain rfl:kV=.none:=Dflts.noKw hD;obtain ⟨a,vs,ns,rfl,rfl,Cc,hints,hlen⟩:=NU hn y_ Cb;refine enter_call (codeAny_mono (call w s₀ s₁ mg mb fa o pm cd doc a vs ns G Y ho (fd_plain hd) iH wA Cc hints hlen hg) fun r s' hq=>?_);obtain ⟨rfl,h2,h3,h4⟩:=hq;exact ⟨.inl ⟨.bool true,.bool true,[],rfl,fun _=>rfl,.bool true,NW l _,fun _=>⟨List.Pairwise.nil,fun _ hm=>(nomatch hm)⟩⟩,h2,h3,h4⟩
section
variable {prog:Program} {w:World} {A:Around} {E:aK} {s:Shared} {K:Frag}
end
end y9
namespace L2
open PySem PySem.Spec PyProof.Rows
theorem Gq:∀{vs:List Value} {ns:List Int},IntsAre vs ns→Vals (ns.map V.int) vs
 | _,_,.nil=>.nil
 | _,_,.cons n t h=>.cons ⟨t,rfl⟩ (Gq h)
def Cd(H:Hp):Prop:=∀b,H b=none∨∃o xs,H b=some (.bH o (.lst xs))
variable {K:aH} {k:Nat} {a:Addr} {x:Str}
theorem NY{P:Program}{w:World}{mg mb:du}{CX:g8}{fa:Addr}{fd:FuncData}{sp:Sp}{s₁:Shared}{vs:List Value}{ns:List Int}
  (KX:K.In s₁.heap) (Gr:s₁.heap.Ns mainGlobals mg) (hb:s₁.heap.Ns builtinsNs mb) (p9:∀x:Str,x ≠ "__name__"→mb x=bootBuiltins x) (NZ:s₁.heap.NoLimit) (hg:s₁.gens = #[])
  (ha:s₁.heap.get? a=some {cls:=.type "list",data:=.seq vs.toArray}) (hi:IntsAre vs ns) (hl:ns.length≤sizeLine) (hr:ei k callerA)
  (F:∀base:Heap,K.In base→base.Ns mainGlobals mg→bJ P w K mg base CX k fa fd [x] sp) (N0:∀(s:Shared) (u:Value),BindsTo s fd ⟨[u],[]⟩ [(x,u)])
  (lB:∀H:Hp,Cd H→bt K H a (ns.map V.int)→sp [.ref a] H (fun v _=>v=.bl true) fun _ _ _=>False)
  (Ce:∀H e s',CX [] H s₁ (fun _ _ _=>False) e s'→False) :
  codeAny (model P w) callerA (.call (.ref fa) ⟨[.ref a],[]⟩) (fun r s'=>r=.ok (.ret (.bool true))∧OldK s₁.heap s'.heap∧s'.os=s₁.os∧AllBare s'.gens) s₁:=by
 have rv:=Gq hi;have N1:=hi.length
 have core:∀H:Hp,Cd H→bt K H a (ns.map V.int)→cj P w H s₁.heap→(∀b,H b≠none→b=a)→(H a≠none→K.lookup a=none)→
   codeAny (model P w) callerA (.call (.ref fa) ⟨[.ref a],[]⟩) (fun r s'=>r=.ok (.ret (.bool true))∧OldK s₁.heap s'.heap∧s'.os=s₁.os∧AllBare s'.gens) s₁:=by
  intro H hO hS ay hA hK;have Gs:∀{b:Addr} {o:Obj},s₁.heap.get? b=some o→H b=none→(mE s₁.heap H).get? b=some o:=fun e n=>LZ e n;have we:∀{b:Addr} {o:Obj} {es:Array DictEntry} {ep:Nat},s₁.heap.get? b=some o→o.data=.dict es ep→H b=none:=fun{b o es ep} e d=>by
   cases q:H b with
   | none=>rfl
   | some u=>
    have e':b=a:=hA b (by rw [q];simp)
    subst e';rw [ha] at e;cases e;have d':Data.seq vs.toArray _=Data.dict es ep:=d;cases d'
  have za:∀{b:Addr} {m:du},s₁.heap.Ns b m→(mE s₁.heap H).Ns b m:=fun{b m} ⟨o,es,ep,e,d,r⟩=>⟨o,es,ep,Gs e (we e d),d,r⟩;have Gu:K.In (mE s₁.heap H):=fun b o e=>Gs (KX b o e) (by
   cases q:H b with
   | none=>rfl
   | some u=>
    have e':b=a:=hA b (by rw [q];simp)
    subst e';rw [hK (by rw [q];simp)] at e;cases e)
  have hM:Mod K mg (mE s₁.heap H):=⟨Gu,za Gr,⟨mb,za hb,p9⟩,let ⟨mc,h1,h2⟩:=NZ;⟨mc,za h1,h2⟩⟩
  have e0:yX P w K mg (mE s₁.heap H) callerA [] s₁ H:=⟨rfl,hM,fun b o e=>L0 e,Nat.le_of_eq (LY _ _),trivial,fun b hb=>absurd (show b∈([]:List Addr) from hb) (by simp),ay,.of_eq hg⟩
  refine codeAny_mono ((F _ Gu (za Gr)).run callerA [] s₁ H ⟨[.ref a],[]⟩ [.ref a] [.ref a] _ _ hr e0 (N0 s₁ (.ref a)) (.cons rfl .nil) (lB H hO hS)) fun r s' h=>?_;cases r with
  | error e=>exact (Ce H e s' h).elim
  | ok fl=>
   cases fl with
   | next=>exact False.elim h
   | brk=>exact False.elim h
   | cont=>exact False.elim h
   | ret u=>
    obtain ⟨v,H',os,bare,un,N2,r',q⟩:=h;have q':v=.bl true:=q;subst q';obtain rfl:u=Value.bool true:=r';refine ⟨rfl,OldK.of_keep fun b o e=>?_,os,bare⟩;cases q:H b with
    | none=>exact un.keep b o e q (by intro z;exact absurd (show b∈([]:List Addr) from z) (by simp)) (by simp)
    | some u=>
     rcases hO b with z | ⟨ob,xs,z⟩;·rw [q] at z;cases z
     ·have z2:=un.fY b ob _ z
      obtain ⟨e1,_⟩:=ay b _ z;obtain ⟨e2,_⟩:=N2 b _ z2;rw [e] at e1;cases e1;exact e2
 cases hk:K.lookup a with
 | some o=>have e:=KX a o hk;rw [ha] at e;cases e;refine core (fun _=>none) (fun _=>.inl rfl) (.inr ⟨_,vs.toArray,_,hk,rfl,rfl,rfl,by rw [bR,N1];exact hl,by simpa using rv⟩) (fun b u z=>by have z':(none:Option HO)=some u:=z;cases z') (fun b z=>absurd rfl z) fun z=>absurd rfl z
 | none=>
  refine core (fun b=>if b=a then some (.bH {cls:=.type "list",data:=.seq vs.toArray} (.lst (ns.map V.int))) else none) (fun b=>?_) (.inl (.inr ⟨{cls:=.type "list",data:=.seq vs.toArray},ae rfl⟩)) (fun b u z=>?_) (fun b z=>?_) fun _=>hk
  ·by_cases hb:b=a
   ·exact .inr ⟨_,_,ae hb⟩
   ·exact .inl (aa hb)
  ·by_cases hb:b=a
   ·have z':=(ae hb).symm.trans z
    cases z';subst hb;exact ⟨ha,by rw [aD];exact hl,vs,_,rv,ha⟩
   ·have z':=(aa hb).symm.trans z
    cases z'
  ·by_cases hb:b=a
   ·exact hb
   ·exact absurd (aa hb) z
abbrev Gv {K:aH} {h:Heap} (_:K.In h):PySem.W.Frag:=K
variable {n:Nat}
theorem N3{l:PySem.W.OpenLaw}{q:Program}{loose:List Str}{XP:(Str→Option Value)→Heap→Prop}{YP:World→Heap→Prop}{d:DefRec}{K:Params→PySem.W.Frag}{CX:World→g8}{sp:World→Sp}
  (hn:l.most=some n) (N4:n≤sizeLine) (wx:d.params.defaults=[]) (hr:ei k callerA)
  (hY:∀(w:World) (h:Heap),YP w h→(K w.params).In h)
  (F:∀(w:World) (mg:du) (fa:Addr) (h:Heap),(K w.params).In h→h.Ns mainGlobals mg→mg d.name=some (.ref fa)→
   ∃fd:FuncData,(∀(s:Shared) (u:Value),BindsTo s fd ⟨[u],[]⟩ [(x,u)]) ∧
    ∀base:Heap,(K w.params).In base→base.Ns mainGlobals mg→bJ l.prog w (K w.params) mg base (CX w) k fa fd [x] (sp w))
  (lB:∀(w:World) (H:Hp) (a:Addr) (ns:List Int),ns.length≤n→Cd H→bt (K w.params) H a (ns.map V.int)→sp w [.ref a] H (fun v _=>v=.bl true) fun _ _ _=>False)
  (Ce:∀(w:World) (H:Hp) (s:Shared) (e:Value) (s':Shared),CX w [] H s (fun _ _ _=>False) e s'→False) :
  PySem.W.WalkO q loose XP YP l.row.toRowW d [] (fun f vs=>PySem.call f vs):=by
 refine y9.NX hn wx fun w s₀ s₁ mg mb fa o pm cd doc a vs ns G Y ho hd iH wA Cc hints hlen hg=>?_;have KX:=hY w _ Y;obtain ⟨fd,hb,hF⟩:=F w mg fa _ KX G.T.g wA;exact NY KX G.T.g G.T.b G.T.builtins G.T.nolimit hg Cc hints (a9 hlen N4) hr hF hb (fun H hO hS=>lB w H a ns hlen hO hS) fun H e s'=>Ce w H s₁ e s'
def wB(s:Stmt):Arguments:=match s with
 | .FunctionDef _ a _ _ _ _ _ _ _ _=>a
 | _=>{posonlyargs:=[],args:=[],vararg:=none,kwonlyargs:=[],kw_defaults:=[],kwarg:=none,defaults:=[]}
def mO(s:Stmt):List Stmt:=match s with
 | .FunctionDef _ _ b _ _ _ _ _ _ _=>b
 | _=>[]
def bf(s:Stmt):Scope:=match s with
 | .FunctionDef _ _ _ _ _ _ sc _ _ _=>sc
 | _=>{kind:=.function,names:=[],isGenerator:=false,isCoroutine:=false}
abbrev cO:g8:=fun _ _ _ _ _ _=>False
abbrev E0:XK:=fun _ _ _=>False
theorem bS{X:Cx}:Passes cO X E0:=fun _ _ _ _ _ _ _ h=>h.elim
structure iM (K:aH) (x qual:Str) (st:Stmt) (f:Addr) (fd:FuncData):Prop where
 ex:∃(oc:Value) (od:Option Addr) (kV doc pm:Value) (an:Option Addr) (b6 ct:Value) (lA:Array (Option Value)),
  fd=PySem.W.fnOf x qual (wB st) (mO st) (bf st) .none kV doc pm an b6 ct∧K.lookup f=some ⟨oc,od,.func fd,lA⟩∧PySem.W.codeIn K b6 qual=true
 kp:PySem.W.keepIn K (.ref f)=true
abbrev aS (K:aH) (x:Str) (st:Stmt) (f:Addr) (fd:FuncData):Prop:=iM K x x st f fd
section
variable {P:Program} {w:World} {K:aH} {mg:du} {base:Heap}
variable {qual:Str} {st:Stmt} {f:Addr} {fd:FuncData} {N ps:List Str} {sp:Sp}
theorem iM.ok(F:iM K x qual st f fd)(S:bZ N ps (bf st))(len:∀vs H Q E,sp vs H Q E→vs.length=ps.length)
  (mM:∀(b6:Value) (A:Around) (outer:List Env) (s:Shared) (H:Hp) (vs:List V) (Q:VK) (E:XK),ei k (A.deeper (envOfC qual (bf st) s.heap.objs.size f b6))→sp vs H Q E→
   ∃t,fO (jY cO P w K mg base N qual (bf st) f b6 A outer s H E).pR (mO st) t∧t {nx:=fun _ H'=>Q .aN H',rt:=Q} (start N vs) H):bJ P w K mg base cO (k+1) f fd ps sp:=by
 obtain ⟨oc,od,kV,doc,pm,an,b6,ct,lA,rfl,lk,iH⟩:=F.ex;refine F4 lk iH S len fun A outer s H vs Q E hr lB=>?_;obtain ⟨t,h,q⟩:=mM b6 A outer s H vs Q E hr lB;exact ⟨t,h.pR,q⟩
theorem iM.dX(F:iM K x qual st f fd)(S:bZ N ps (bf st))
  (mM:∀(b6:Value) (A:Around) (outer:List Env) (s:Shared) (H:Hp) (vs:List V) (Q:VK) (E:XK),ei k (A.deeper (envOfC qual (bf st) s.heap.objs.size f b6))→sp vs H Q E→
   ∃t,fO (jY cO P w K mg base N qual (bf st) f b6 A outer s H E).pR (mO st) t∧t {nx:=fun _ H'=>Q .aN H',rt:=Q} (start N vs) H)
  (len:∀vs H Q E,sp vs H Q E→vs.length=ps.length:=by intro vs H Q E h;repeat first | (obtain ⟨rfl,_⟩:=h;rfl) | (subst h;rfl) | obtain ⟨_,h⟩:=h):bJ P w K mg base cO (k+1) f fd ps sp:=F.ok S len mM
theorem iM.binds(F:iM K x qual st f fd)
  (h:∀(kV doc pm:Value) (an:Option Addr) (b6 ct:Value) (us:List Value),us.length=ps.length→bindArgs (PySem.W.fnOf x qual (wB st) (mO st) (bf st) .none kV doc pm an b6 ct) ⟨us,[]⟩=pure (ps.zip us)):Binds K fd ps []:=by
 obtain ⟨oc,od,kV,doc,pm,an,b6,ct,lA,rfl,lk,iH⟩:=F.ex;exact .all (h kV doc pm an b6 ct)
theorem iM.cE(F:iM K x qual st f fd)
  (h:∀(kV doc pm:Value) (an:Option Addr) (b6 ct:Value) (us:List Value),us.length=ps.length→bindArgs (PySem.W.fnOf x qual (wB st) (mO st) (bf st) .none kV doc pm an b6 ct) ⟨us,[]⟩=pure (ps.zip us):=by intro _ _ _ _ _ _ us hl;rcases us with _ | ⟨_,_ | ⟨_,_ | ⟨_,_ | ⟨_,_ | ⟨_,_ | ⟨_,_ | ⟨_,_⟩⟩⟩⟩⟩⟩⟩ <;> first | rfl | (simp at hl;done)):Binds K fd ps []:=F.binds h
theorem cF{oc:Value}{od an:Option Addr}{lA:Array (Option Value)}{kV doc pm b6 ct:Value}(l:K.lookup f=some ⟨oc,od,.func (PySem.W.fnOf x qual (wB st) (mO st) (bf st) .none kV doc pm an b6 ct),lA⟩)
  (c:PySem.W.codeIn K b6 qual=true) (k:PySem.W.keepIn K (.ref f)=true):iM K x qual st f (PySem.W.fnOf x qual (wB st) (mO st) (bf st) .none kV doc pm an b6 ct):=⟨⟨oc,od,kV,doc,pm,an,b6,ct,lA,rfl,l,c⟩,k⟩
end
theorem b4(h:n≤1000):n<sizeLine:=gX h (by decide)
section
variable {X:Cx}
theorem pv(i:Nat){pos:Pos}(hN:X.N[i]?=some x:=by rfl)(hv:nV X.env.scope x:=by first | exact Or.inl rfl | exact Or.inr (Or.inl rfl) | exact Or.inr (Or.inr rfl))(hd:(x == ("__debug__":Str))=false:=by decide)
  (iH:(x == ("__classdict__":Str))=false:=by decide):PE X (.Name x pos) (Ft i):=Ma hN hv hd iH
end
variable {A B:Prop}
theorem fQ(h:B):if false=true then A else B:=by rw [aa dz];exact h
theorem wC(h:A):if true=true then A else B:=by rw [ae rfl];exact h
theorem dc{c:Prop}[Decidable c](h1:c→A)(h2:¬c→B):if c then A else B:=by
 by_cases h:c
 ·rw [ae h]
  exact h1 h
 ·rw [aa h]
  exact h2 h
def aj(H H':Hp):Prop:=∀b o,H b=some o→H' b=some o
theorem aj.refl(H:Hp):aj H H:=fun _ _ h=>h
variable {H:Hp}
theorem aj.trans{H1 H2:Hp}(a:aj H H1)(b:aj H1 H2):aj H H2:=fun c o h=>b c o (a c o h)
theorem aj.seq{H':Hp}{xs:List V}(e:aj H H')(h:bt K H a xs):bt K H' a xs:=by
 rcases h with (h | ⟨o,h⟩) | h;·exact .inl (.inl (e _ _ h))
 ·exact .inl (.inr ⟨o,e _ _ h⟩)
 ·exact .inr h
end L2
set_option maxHeartbeats 4000000
namespace L2
open PySem PySem.Spec PyProof.Rows
structure zb (P:Program) (w:World) (outer:List Env) (H:Hp) (s:Shared) (H':Hp) (ea C:Addr) (B:Heap) (t:Addr) (s':Shared):Prop where
 os:s'.os=s.os
 bare:AllBare s'.gens
 fl:Heap.FlyingW B outer ea (.ref C) (.ref t) s'.heap
 ay:cj P w H' B
 kb:∀b o,s.heap.get? b=some o→H b=none→b∉cJ outer→B.get? b=some o
 tb:∀b o,s.heap.get? b=some o→b∉cJ outer→∃o',B.get? b=some o'
 sl:∀b o,s.heap.get? b=some o→H b=none→b∈cJ outer→∃l,s'.heap.get? b=some {o with slots:=l}
 Yf:∀b∈cJ outer,H b=none
 N5:∀b o,s.heap.get? b=some o→H b=none→H' b=none
 gr:∀b xs,H b=some (.tup xs)→H' b=some (.tup xs)
 fY:∀b o u,H b=some (.bH o u)→H' b=some (.bH o u)
 gu:∀b ps,H b=some (.mC ps)→∃more,H' b=some (.mC (ps++more))
def fg(P:Program)(w:World):g8:=fun outer H s E e s'=>∃ea C H' B t,e=.ref ea∧zb P w outer H s H' ea C B t s'∧E (.ref C) none H'
section
variable {P:Program} {w:World} {outer:List Env} {H H':Hp} {s s':Shared} {ea C t:Addr} {B:Heap}
def ExcAt(ea C:Addr)(h:Heap):Prop:=∃oe,h.get? ea=some oe∧oe.cls=.ref C∧PySem.W.notCls oe=true
def N6(ea C:Addr):HO:=.ext (ExcAt ea C)
end
section
variable {X:Cx} {pins:aQ} {σ:St} {H H':Hp} {s s':Shared} {ea C t:Addr} {B:Heap}
structure tJ (X:Cx) (E:XK):Prop where
 iZ:X.stack=X.env::X.outer
 fr:X.env.frame=some X.env.locals
 ex:X.ex=[]
 xe:X.xe=fun e s'=>wpAny (model X.prog X.w) X.A (leaving X.env e) (fun _ eQ=>fg X.prog X.w X.outer X.H₀ X.s₀ E e eQ) (fun e' eQ=>fg X.prog X.w X.outer X.H₀ X.s₀ E e' eQ) s'
theorem zc{env:Env}{outer:List Env}{L:Addr}(h:env.frame=some L):cJ (env::outer)=L::cJ outer:=by unfold cJ;rw [yi,h]
variable {E:XK}
theorem zb.leave(L:tJ X E)(I:Inv X pins σ H s)(f:zb X.prog X.w X.stack H s H' ea C B t s'){h:Heap}(x:Heap.FlyingW B X.outer ea (.ref C) (.ref t) h)(up:s'.heap.UpToSlots h):zb X.prog X.w X.outer X.H₀ X.s₀ H' ea C B t {s' with heap:=h}:=by
 have nL:∀b o,X.s₀.heap.get? b=some o→b≠X.env.locals:=fun b o e=>bL (dA (aT e) I.ok.above);have ns:∀b o,X.s₀.heap.get? b=some o→b∉cJ X.outer→b∉cJ X.stack:=fun b o e nb z=>by
  rw [L.iZ,zc L.fr] at z;rcases cf.mp z with z | z;·exact nL b o e z
  ·exact nb z
 have nx:∀b:Addr,b∉X.ex:=fun b z=>by rw [L.ex] at z;cases z
 refine ⟨f.os.trans I.os,f.bare,x,f.ay,fun b o e n nb=>?_,fun b o e nb=>?_,fun b o e n hb=>?_,I.ok.nY,fun b o e n=>?_,fun b xs e=>f.gr b xs (I.base.gr b xs e),fun b o u e=>f.fY b o u (I.base.fY b o u e),fun b ps e=>?_⟩;·exact f.kb b o (I.base.keep b o e n nb (nx b)) (I.base.free b o e n (nx b)) (ns b o e nb)
 ·obtain ⟨o',e'⟩:=I.base.there b o e (nx b)
  exact f.tb b o' e' (ns b o e nb)
 ·obtain ⟨l,q⟩:=I.base.slot b o e n hb (nx b)
  have hs:b∈cJ X.stack:=by rw [L.iZ,zc L.fr];exact cw _ hb
  obtain ⟨l2,q2⟩:=f.sl b _ q (I.base.free b o e n (nx b)) hs;obtain ⟨_,o2,q3,nf⟩:=f.fl.2.2.1.mem hs;rw [q2] at q3;cases q3;obtain ⟨l3,q4⟩:=up b _ q2 nf;exact ⟨l3,q4⟩
 ·obtain ⟨o',e'⟩:=I.base.there b o e (nx b)
  exact f.N5 b o' e' (I.base.free b o e n (nx b))
 ·obtain ⟨m1,e1⟩:=I.base.gu b ps e
  obtain ⟨m2,e2⟩:=f.gu b _ e1;exact ⟨m1++m2,by rw [e2,Array.append_assoc]⟩
theorem tK:Passes (fg X.prog X.w) X (fun _ _ _=>False):=fun pins σ H s e s' I h=>by obtain ⟨_,_,_,_,_,_,_,q⟩:=h;exact q.elim
theorem lF(L:tJ X E):Passes (fg X.prog X.w) X E:=fun pins σ H s e s' I h=>by
 obtain ⟨ea,C,H',B,t,rfl,f,q⟩:=h;rw [L.xe];refine wpAny_leaves_onW (by rw [I.ok.frames,L.iZ]) L.fr (by have z:=f.fl;rw [L.iZ] at z;exact z) fun h' x up=>?_
 exact ⟨ea,C,H',B,t,rfl,f.leave L I x up,q⟩
end
variable {K:aH} {h:Heap}
theorem N7{C:Addr}{tL:List Value}{newId:String}(dv:K.In h)(hq:PySem.W.excIn K C tL newId=true) :
  ∃bm N nm qn bs hdct sn sub ab col dd k0 k1 k2 k3 k5 mN,h.get? C=some (excClassObj nm qn C N bs bm hdct sn sub ab col dd k0 k1 k2 k3 k5 newId)∧h.Ns N mN∧mN "__init__"=none∧OwnTail h tL bm∧PySem.W.mroIn K C=fun b=>some ((Value.ref C::bm).contains b):=by
 unfold PySem.W.excIn at hq
 split at hq
 ·rename_i tM cls slt look
  split at hq
  ·rename_i CC rest a0 a1 a2 a3 nn a5 em es
   simp only [kK,beq_iff_eq,Bool.not_eq_true'] at hq;obtain ⟨⟨⟨⟨⟨e1,e2⟩,e3⟩,e4⟩,e5⟩,e6⟩:=hq;subst e1 e2;have N8:PySem.W.mroIn K CC=fun b=>some ((Value.ref CC::rest).contains b):=by
    funext b
    unfold PySem.W.mroIn PySem.W.clsIn;rw [look];simp [em]
   obtain ⟨c1,c2,c3,c4,c5,c6,c7,c8,c9,N9,Y1⟩:=cls;dsimp only at em e3 e5 e6;subst em e3;have N_:slt = #[a0,a1,a2,a3,some (.builtin nn),a5]:=by obtain ⟨ll⟩:=slt;simp only at es;rw [es]
   subst N_;exact ⟨rest,c4,c1,c5,c2,c6,c7,c8,c9,N9,tM,a0,a1,a2,a3,a5,_,dv _ _ look,.of_isNs (PySem.W.isNs_of_in dv e5),PySem.W.nsMap_none_of_in dv e5 e6,PySem.W.tail_of_in dv e4,N8⟩
  ·cases hq
 ·cases hq
section
variable {X:Cx} {E:XK} {x:Str} {C:Addr} {np g_ pos:Pos} {e:Expr} {es:List Expr} {ta:TA} {B newId Oa:String} {tL:List Value}
def Ob(C:Addr)(E:XK)(ta:TA):TS:=fun _ σ H=>ta σ H fun vs H1=>vs.length≤sizeLine∧E (.ref C) none H1
theorem Gw(L:tJ X E)(hc:X.calm=true)(FB:ExcBaseFacts B newId Oa tL)(hq:PySem.W.excIn X.K C tL newId=true)(hg:Gl X x)(hm:X.mg x=some (.ref C))(ha:PA X (e::es) ta)
  (hs:starEach (e::es) X.env=(false,eval e X.env)::starEach es X.env:=by rfl) (hp:(backTo g_ (starEach es X.env)).any (·.1)=false:=by rfl) (hd:(x == ("__debug__":Str))=false:=by decide) :
  PS X (.Raise (some (.Call (.Name x np) (e::es) [] g_)) none pos) (Ob C E ta):=by
 intro pins s σ H D I h;obtain ⟨bm,N,nm,qn,bs,hdct,sn,sub,ab,col,dd,k0,k1,k2,k3,k5,mN,hC,hN,Oc,T,_⟩:=N7 I.ok.mod.dv hq
 refine wpAny_Raise_call_subT (C:=C) (nm:=nm) (q:=qn) (N:=N) (bs:=bs) (bm:=bm) (hdct:=hdct) (sn:=sn) (sub:=sub) (ab:=ab) (col:=col) (dd:=dd) (k0:=k0) (k1:=k1) (k2:=k2) (k3:=k3) (k5:=k5) FB (mN:=mN) (T.hasType FB.hasBase) (I.ok.hd hc)
  (by rw [hs];show (false || (backTo g_ (starEach es X.env)).any (·.1))=false;rw [hp];rfl) Oc (BI I hg hm ⟨rfl,?_⟩ hd)
 have h1:=ha g_ pins s σ H _ I h;rw [hs] at h1 ⊢;refine Calls.evalArgs_plain (aM h1 fun us s2 ⟨vs,H1,I1,r,hl,q⟩=>⟨rfl,by rw [←r.length];exact hl,I1.bk _ _ hC,hN.keeps I1.bk,T.keeps I1.bk,fun h' ea mk=>?_⟩)
 rw [L.xe];have nL:∀b o,X.s₀.heap.get? b=some o→b≠X.env.locals:=fun b o q=>bL (dA (aT q) I1.ok.above);have ns:∀b o,X.s₀.heap.get? b=some o→b∉cJ X.outer→b∉cJ X.stack:=fun b o q nb z=>by
  rw [L.iZ,zc L.fr] at z;rcases cf.mp z with z | z;·exact nL b o q z
  ·exact nb z
 have nx:∀b:Addr,b∉X.ex:=fun b z=>by rw [L.ex] at z;cases z
 have ff:s2.heap.FunFrames (PySem.W.hideAll s2.heap (cJ X.stack)) (X.env::X.outer):=by have z:=I1.stack;rw [←L.iZ];exact PySem.W.funFrames_hide z fun env he a hf=>List.mem_filterMap.mpr ⟨env,he,hf⟩
 refine wpAny_leaves_madeW (base:=PySem.W.hideAll s2.heap (cJ X.stack)) (h:=s2.heap) (by rw [I1.ok.frames,L.iZ]) L.fr (fun b o q=>PySem.W.of_hideAll _ q) ff mk fun h2 t fl _ _ up=>?_
 refine ⟨ea,C,H1,_,t,rfl,⟨I1.os,I1.bare,fl,fun a o e1=>?_,fun b o e1 n nb=>?_,fun b o e1 nb=>?_,fun b o e1 n hb=>?_,I1.ok.nY,fun b o e1 n=>?_,I1.base.gr,I1.base.fY,I1.base.gu⟩,q⟩
 ·refine (I1.ay a o e1).jt (fun b u hb e2=>yh _ e2 fun z=>?_) (fun _ z=>z) fun _ _ z=>z
  have n0:=I1.tm b z;rcases hb with hb | hb
  ·subst hb
   rw [e1] at n0;cases n0
  ·rw [hb] at n0
   cases n0
 ·exact yh _ (I1.base.keep b o e1 n nb (nx b)) (ns b o e1 nb)
 ·obtain ⟨o',e2⟩:=I1.base.there b o e1 (nx b)
  exact ⟨o',yh _ e2 (ns b o e1 nb)⟩
 ·obtain ⟨l,e2⟩:=I1.base.slot b o e1 n hb (nx b)
  have yR:b∈cJ X.stack:=by rw [L.iZ,zc L.fr];exact cw _ hb
  obtain ⟨_,o2,e3,nf⟩:=I1.stack.mem yR;rw [e2] at e3;cases e3;obtain ⟨l2,e4⟩:=up b _ (mk.keeps _ _ e2) nf;exact ⟨l2,e4⟩
 ·obtain ⟨o',e2⟩:=I1.base.there b o e1 (nx b)
  exact I1.base.free b o e1 n (nx b)
end
section
variable {X:Cx} {k:Nat} {f C:Addr} {fd:FuncData} {ps:List Str} {sp:Sp} {lp:List V} {ds:List Value} {x m:Str} {p pos apos:Pos} {e o:Expr} {es:List Expr} {ta:TE} {t:TA}
variable {te:TX} {i:Nat} {pos':Pos}
end
section
variable {X:Cx} {pins:aQ} {σ:St} {H:Hp} {s:Shared} {ea:Addr}
end
section
variable {M:Model} {A:Around} {E:aK} {h:Heap} {g:Array GenState} {d:Drawn} {t:Nat} {os:OsState} {e:Addr} {oe:Obj} {Q:Bool→Shared→Prop}
variable {nm q Y2 q':Str} {C N D N':Addr} {bs bm Za Zb:List Value} {hdct Zc:Bool} {sn Zd:List Str} {sub Gx:List Value} {ab Ze:Bool} {col Zf:Option Bool} {dd ot:Option Addr} {k0 k1 k2 k3 k5 j0 j1 j2 j3 j5:Option Value} {newId Zg:String}
end
section
variable {X:Cx} {body:List Stmt} {b₀:Stmt} {Zh:List Stmt} {np Zi pos:Pos} {x n:Str} {D:Addr} {tb:Zj} {ts:TS} {tL:List Value} {newId:String} {i:Nat}
end
section
variable {P:Program} {w:World} {K:aH} {mg:du} {base:Heap}
variable {x qual:Str} {st:Stmt} {f:Addr} {fd:FuncData} {N ps:List Str} {k:Nat} {sp:Sp}
theorem iM.Od(F:iM K x qual st f fd)(S:bZ N ps (bf st))(len:∀vs H Q E,sp vs H Q E→vs.length=ps.length)
  (mM:∀(b6:Value) (A:Around) (outer:List Env) (s:Shared) (H:Hp) (vs:List V) (Q:VK) (E:XK),ei k (A.deeper (envOfC qual (bf st) s.heap.objs.size f b6))→sp vs H Q E→
   tJ (jY (fg P w) P w K mg base N qual (bf st) f b6 A outer s H E) E→
   ∃t,fO (jY (fg P w) P w K mg base N qual (bf st) f b6 A outer s H E) (mO st) t∧t {nx:=fun _ H'=>Q .aN H',rt:=Q} (start N vs) H):bJ P w K mg base (fg P w) (k+1) f fd ps sp:=by
 obtain ⟨oc,od,kV,doc,pm,an,b6,ct,lA,rfl,lk,iH⟩:=F.ex;exact F4 lk iH S len fun A outer s H vs Q E hr lB=>mM b6 A outer s H vs Q E hr lB ⟨rfl,rfl,rfl,rfl⟩
theorem iM.eC(F:iM K x qual st f fd)(S:bZ N ps (bf st))
  (mM:∀(b6:Value) (A:Around) (outer:List Env) (s:Shared) (H:Hp) (vs:List V) (Q:VK) (E:XK),ei k (A.deeper (envOfC qual (bf st) s.heap.objs.size f b6))→sp vs H Q E→
   tJ (jY (fg P w) P w K mg base N qual (bf st) f b6 A outer s H E) E→
   ∃t,fO (jY (fg P w) P w K mg base N qual (bf st) f b6 A outer s H E) (mO st) t∧t {nx:=fun _ H'=>Q .aN H',rt:=Q} (start N vs) H)
  (len:∀vs H Q E,sp vs H Q E→vs.length=ps.length:=by intro vs H Q E h;repeat first | (obtain ⟨rfl,_⟩:=h;rfl) | (subst h;rfl) | obtain ⟨_,h⟩:=h):bJ P w K mg base (fg P w) (k+1) f fd ps sp:=F.Od S len mM
end
structure p_ (K:aH) (C:Addr):Prop where
 ci:PySem.W.hasDictIn K C=true
 ga:PySem.W.findIn K (.ref C) "__getattribute__"=some (some (.builtin "BaseException.__getattribute__"))
 gn:PySem.W.findIn K (.ref C) "__getattr__"=some none
 ca:PySem.W.findIn K (.ref C) "__class__"=some (some (.builtin "object.__class__"))
 mo:PySem.W.mroIn K C (.type "object")=some true
 mb:PySem.W.mroIn K C (.type "BaseException")=some true
section
variable {prog:Program} {w:World} {A:Around} {E:aK} {h:Heap} {g:Array GenState} {d:Drawn} {t:Nat} {os:OsState} {K:aH} {a C:Addr} {o:Obj}
theorem Oe{R:Result→Shared→Prop}(dv:K.In h)(c:p_ K C)(hx:h.get? a=some o)(hc:o.cls=.ref C)(hq:R (.ok (.ret (.ref C))) ⟨h,g,d,t,os⟩) :
  codeAny (model prog w) A (.call (.builtin "getset_descriptor.__get__") ⟨[.builtin "object.__class__",.ref a,.ref C],[]⟩) R ⟨h,g,d,t,os⟩:=by
 have Gy:(⟨h,g,d,t,os⟩:Shared).TypeIs (.builtin "object.__class__") "getset_descriptor":=Bt;have L1:=PySem.W.looks_mroIn (M:=model prog w) dv c.mo;have ow:=F.owner_object_class;refine codeAny_call_builtin F.slot_gs_get.plain F.entry_gs_get (F.slot_gs_get.check _ _ _ _ _ _ _ _ Gy (F.args_gs_get _ _ _) ?_)
 repeat (any_goals (first | assumption | (with_reducible refine vM hx ?_;rw [hc]) | (rw [ow];with_reducible refine L1.at ?_) | wp_step))
 refine ⟨Code.quiet_builtin _ (by decide +kernel),nH F.entry_object_class ?_⟩
 repeat (any_goals (first | assumption | (with_reducible refine vM hx ?_;rw [hc]) | wp_step))
variable {tk:Tok}
theorem Of{Q:Fin→Shared→Prop}(dv:K.In h)(c:p_ K C)(hx:h.get? a=some o)(hc:o.cls=.ref C)(hq:Q (.done (.ret (.ref C))) ⟨h,g,d,t,os⟩) :
  wpAny (model prog w) A (Builtin.«object.__getattribute__» ⟨[.ref a,.str "__class__" tk],[]⟩) Q E ⟨h,g,d,t,os⟩:=by
 have Gy:(⟨h,g,d,t,os⟩:Shared).TypeIs (.builtin "object.__class__") "getset_descriptor":=Bt;have L1:=PySem.W.looks_findIn (M:=model prog w) dv c.ca;have f5:=Bt;have f6:=F.slot_gs_get.lookup;have f7:=F.slot_gs_set.lookup
 repeat (any_goals (first | assumption | (with_reducible refine vM hx ?_;rw [hc]) | with_reducible refine L1.at ?_ | wp_step))
 refine Oe dv c hx hc ?_
 repeat (any_goals (first | assumption | wp_step))
theorem Og{M:Model}{nv:Value}{Q:Unit→Shared→Prop}(dv:K.In h)(c:p_ K C)(hx:h.get? a=some o)(hc:o.cls=.ref C)(hq:Q () ⟨h,g,d,t,os⟩) :
  wpAny M A (checkBuiltinCall "BaseException.__getattribute__" ⟨[.ref a,nv],[]⟩) Q E ⟨h,g,d,t,os⟩:=by
 have hk:builtinKind "BaseException.__getattribute__"=some .slot:=by decide +kernel
 have hs:splitId "BaseException.__getattribute__"=some ("BaseException","__getattribute__"):=by decide +kernel
 have L1:=PySem.W.looks_mroIn (M:=M) dv c.mb;have ha:=F.args_bexc_ga (.ref a) nv;simp only [checkBuiltinCall,hk,hs];refine aC ?_;unfold isInstance
 repeat (first | (with_reducible refine vM hx ?_;rw [hc]) | with_reducible refine L1.at ?_ | wp_step)
 exact hq
theorem Oh{fill expr:Bool}{Q:aK}(dv:K.In h)(c:p_ K C)(hx:h.get? a=some o)(hc:o.cls=.ref C)(hq:Q (.ref C) ⟨h,g,d,t,os⟩) :
  wpAny (model prog w) A (getAttrBy (.ref a) (.str "__class__" tk) fill expr) Q E ⟨h,g,d,t,os⟩:=by
 have f3:=F.attrBase_ValueError.ga.bind (.ref a);have z0:(expr && onTheHeap (Value.builtin "BaseException.__getattribute__"))=false:=by cases expr <;> rfl
 have z2:(Value.builtin "BaseException.__getattribute__" == Value.builtin "object.__getattribute__")=false:=by decide +kernel
 have z1:(onTheHeap (Value.ref C) && Value.builtin "BaseException.__getattribute__" == Value.builtin "object.__getattribute__")=false:=by rw [z2];rfl
 have L1:=PySem.W.looks_findIn (M:=model prog w) dv c.ga;have L2:=PySem.W.looks_findIn (M:=model prog w) dv c.gn
 repeat (any_goals (first | assumption | (with_reducible refine vM hx ?_;rw [hc]) | with_reducible refine L1.at ?_ | with_reducible refine L2.at ?_ | wp_step))
 refine codeAny_call_builtin F.attrBase_ValueError.ga.plain F.entry_bexc_ga (Og dv c hx hc (Of dv c hx hc ?_))
 repeat (any_goals (first | assumption | wp_step))
theorem Oi{Q:Option Value→Shared→Prop}(dv:K.In h)(c:p_ K C)(hx:h.get? a=some o)(hc:o.cls=.ref C)(hq:Q (some (.ref C)) ⟨h,g,d,t+1,os⟩) :
  wpAny (model prog w) A (getAttr? (.ref a) "__class__") Q E ⟨h,g,d,t,os⟩:=by
 unfold getAttr? getAttrBy?
 repeat (any_goals (first | assumption | with_reducible apply Oh dv c hx hc | wp_step))
theorem Oj(c:p_ K C):PySem.W.KitX K (.ref a) (.ref C) (ExcAt a C) where
 ty:=fun M h _ k=>by obtain ⟨oe,e1,e2,_⟩:=k;exact e2▸(PySem.W.Looks.ld e1).andThen .now
 it:=fun M h dv _=>by
  obtain ⟨cd,hc,_⟩:=PySem.W.any_some c.ci;unfold PySem.W.clsIn at hc
  split at hc
  ·rename_i look
   intro A' Q' E' s' k q;unfold isType loadHead;exact aC (wpAny_loadPart (k _ _ (dv _ _ look)) (bE q))
  ·cases hc
 ne:=fun h tp dd ak n sl dv Ol=>by
  obtain ⟨cd,hc,_⟩:=PySem.W.any_some c.ci;refine Bool.eq_false_iff.mpr fun q=>?_;have e:C=tp:=Value.ref.inj (beq_iff_eq.mp q);subst e;unfold PySem.W.clsIn at hc
  split at hc
  ·rename_i look
   have z:=(dv _ _ look).symm.trans Ol;cases z
  ·cases hc
 ca:=fun{prog w A E Q s} dv k z=>by obtain ⟨oe,e1,e2,_⟩:=k;obtain ⟨h,g,d,t,os⟩:=s;exact Oi dv c e1 e2 z
end
def zd(a:Addr)(h:Heap):Prop:=∃o ep,h.get? a=some o∧o.ExactDict∧o.data=.dict #[] ep∧(a == sysModules)=false
theorem zd.Cf{a:Addr}(e:zd a h):PySem.W.KitAt a "dict" h:=by obtain ⟨o,_,e,c,_⟩:=e;exact ⟨o,e,c.1⟩
def Gz(a:Addr):HO:=.ext (zd a)
inductive wG (K:aH) (H:Hp):V→Value→Prop where
 | of {x:V} {t:Value} (h:i4 K H x t):wG K H x t
 | exc {a C:Addr} (e:H a=some (N6 a C)) (c:p_ K C):wG K H (.ref a) (.ref C)
 | tM {a:Addr} (e:H a=some (Gz a)):wG K H (.ref a) (.type "dict")
def GA:V→Value
 | .ty n=>.type n
 | .ref a=>.ref a
 | _=>.none
def Om:V→Bool
 | .ty _=>true
 | .ref _=>true
 | _=>false
def Oo(K:aH):List V→Hp→VK→Prop:=fun xs H Q=>∃x c t b,xs=[x,c]∧Om c=true∧wG K H x t∧PySem.W.kitOne K t (GA c)=some b∧Q (.bl b) H
theorem qa{X:Cx}(hK:X.K=K:=by rfl):e_ X (.builtin "isinstance") (Oo K):=by
 intro pins s σ H xs us Q I r h;subst hK;obtain ⟨x,c,t,b,rfl,hc,ty,e,q⟩:=h;obtain ⟨u,cv,rfl,rx,rc⟩:=vals2 r;have ec:cv=GA c:=by
  cases c with
  | ty n=>exact rc
  | ref a=>exact rc
  | _=>cases hc
 subst ec;cases ty with
 | of ty=>exact MT I rx ty e fun tk=>⟨.bl b,H,I.tok tk,rfl,q⟩
 | @tM a ea=>cases rx;obtain ⟨k,_,_⟩:=(show cg X.prog X.w H s.heap a (.ext (zd a)) from I.ay a _ ea);exact iW PySem.W.kitx_dict I.fB k.Cf e (fun z=>nomatch z) fun tk=>⟨.bl b,H,I.tok tk,rfl,q⟩
 | @exc a C ea cc=>cases rx;obtain ⟨k,_,_⟩:=(show cg X.prog X.w H s.heap a (.ext (ExcAt a C)) from I.ay a _ ea);exact iW (Oj cc) I.fB k e (fun z=>nomatch z) fun tk=>⟨.bl b,H,I.tok tk,rfl,q⟩
theorem boot_isinstance:bootBuiltins "isinstance"=some (.builtin "isinstance"):=by decide +kernel
theorem boot_min:bootBuiltins "min"=some (.builtin "min"):=by decide +kernel
theorem boot_max:bootBuiltins "max"=some (.builtin "max"):=by decide +kernel
theorem boot_int:bootBuiltins "int"=some (.type "int"):=by decide +kernel
theorem boot_bool:bootBuiltins "bool"=some (.type "bool"):=by decide +kernel
theorem boot_tuple:bootBuiltins "tuple"=some (.type "tuple"):=by decide +kernel
theorem boot_list:bootBuiltins "list"=some (.type "list"):=by decide +kernel
end L2
namespace My
open PySem L2
end My
namespace L2
open PySem PySem.Spec PyProof.Rows
abbrev Cx.bN (X:Cx) (N:List Str) (scope:Scope) (cl:List (Str×Addr)) (s₃:Shared) (H₃:Hp) (fp:List Addr):Cx:=
 {X with N:=N,s₀:=s₃,H₀:=H₃,env:=compEnvC scope cl s₃.heap.objs.size X.env,outer:=X.stack,stack:=X.stack,ex:=fp,fn:=fun _=>false,pn:=[],xe:=fun _ _=>False}
inductive lG (X:Cx):List Expr→TT→Prop where
 | nil:lG X [] (fun _ H Q=>Q true H)
 | one {c:Expr} {t:TT} (h:PT X c t):lG X [c] t
def gD(wi:TI)(ρ:St→St)(tt:TT)(te:TE):TE:=fun σ H Q=>wi σ H fun J H1=>∀D,H1 D=none→∃W:Nat→Nat→List V→Hp→Prop,(∃m,W 0 m [] (upd H1 D (.lst []))) ∧
 ∀i m ys Hc,W i m ys Hc→Hc D=some (.lst ys)∧((J.stop i Hc∧Q (.ref D) Hc)∨(J.go i Hc∧∀x H',J.dW i Hc x H'→tt (some x::ρ σ) H' fun b H2=>
  if b=true then te (some x::ρ σ) H2 fun y H3=>H3 D=some (.lst ys)∧ys.length<sizeLine∧∃m',m'<m∧W (i+1) m' (ys++[y]) (upd H3 D (.lst (ys++[y]))) else ∃m',m'<m∧W (i+1) m' ys H2))
section
variable {X:Cx} {N:List Str} {scope:Scope} {cl:List (Str×Addr)} {x:Str} {px pos:Pos} {iter elt:Expr} {ifs:List Expr} {wi:TI} {ρ:St→St} {tt:TT} {te:TE}
structure Cg (X:Cx) (N:List Str) (scope:Scope) (cl:List (Str×Addr)) (x:Str) (ρ:St→St):Prop where
 tN:closureFor scope X.env=pure cl
 kind:scope.kind=.function
 ze:∀y∈scope.names,y.2≠.cell
 names:∀y∈scope.names,y.2=.local→scope.names.lookup y.1=some .local
 sub:∀p∈cl,X.env.cells.lookup p.1=some p.2
 has:∀y,((relabel scope X.env).names.lookup y=some .cell∨(relabel scope X.env).names.lookup y=some .free)→∃c,cl.lookup y=some c
 n0:N[0]?=some x
 nd:N.Nodup
 hx:scope.names.lookup x=some .local
 tO:∀(σ:St) (j:Nat) (v:V),(ρ σ)[j]?=some (some v)→∃(i:Nat) (y:Str),N[j+1]?=some y∧X.N[i]?=some y∧σ[i]?=some (some v)∧nV X.env.scope y∧(X.env.kindOf y=some .cell∨X.env.kindOf y=some .free)∧((relabel scope X.env).names.lookup y=some .cell∨(relabel scope X.env).names.lookup y=some .free)
 len:∀σ:St,σ.length=X.N.length→(ρ σ).length+1=N.length
theorem GB{names:List (Str×NameKind)}(h:(names.all fun q=>(q.2 != .cell && q.2 != .free) || (cl.lookup q.1).isSome)=true) :
  ∀y,(names.lookup y=some .cell∨names.lookup y=some .free)→∃c,cl.lookup y=some c:=fun y hy=>by
 have key:∀k:NameKind,(k != .cell && k != .free)=false→names.lookup y=some k→∃c,cl.lookup y=some c:=fun k hk e=>by have z:=mf.mp h (y,k) (jR e);rw [hk,Bool.false_or] at z;exact Bn.mp z
 rcases hy with e | e;·exact key .cell rfl e
 ·exact key .free rfl e
theorem join_some{o:Option (Option V)}{v:V}(h:some o.join=some (some v)):o=some (some v):=by
 cases o with
 | none=>cases h
 | some o=>cases h;rfl
def zf(X:Cx)(sc:Scope):List Str→List Nat→Prop
 | n::ns,i::is=>(X.N[i]?=some n∧nV X.env.scope n∧(X.env.kindOf n=some .cell∨X.env.kindOf n=some .free)∧((relabel sc X.env).names.lookup n=some .cell∨(relabel sc X.env).names.lookup n=some .free))∧zf X sc ns is
 | _,[]=>True
 | [],_::_=>False
theorem Ci{X:Cx}{sc:Scope}:∀{ns:List Str} {is:List Nat},zf X sc ns is→∀(σ:St) (j:Nat) (v:V),(is.map fun i=>σ[i]?.join)[j]?=some (some v)→∃(i:Nat) (n:Str),ns[j]?=some n∧X.N[i]?=some n∧σ[i]?=some (some v)∧nV X.env.scope n∧(X.env.kindOf n=some .cell∨X.env.kindOf n=some .free)∧((relabel sc X.env).names.lookup n=some .cell∨(relabel sc X.env).names.lookup n=some .free)
 | _,[],_,_,_,_,e=>by cases e
 | [],_::_,h,_,_,_,_=>h.elim
 | n::_,i::_,h,_,0,_,e=>⟨i,n,rfl,h.1.1,join_some e,h.1.2⟩
 | _::_,_::_,h,σ,j+1,v,e=>Ci h.2 σ j v e
theorem fh(is:List Nat)(h1:closureFor scope X.env=pure cl)(h:zf X scope N.tail is:=by repeat' first | exact True.intro | refine And.intro ⟨rfl,Or.inr (Or.inl rfl),.inl rfl,.inl rfl⟩ ?_)(h2:scope.kind=.function:=by rfl)(h3:∀y∈scope.names,y.2≠.cell:=by decide +kernel)(h4:∀y∈scope.names,y.2=.local→scope.names.lookup y.1=some .local:=by decide +kernel)(h5:∀p∈cl,X.env.cells.lookup p.1=some p.2:=by repeat' first | exact List.forall_mem_nil _ | refine ym.mpr ⟨rfl,?_⟩)(h6:((relabel scope X.env).names.all fun q=>(q.2 != .cell && q.2 != .free) || (cl.lookup q.1).isSome)=true:=by rfl)(h7:N[0]?=some x:=by rfl)(h8:N.Nodup:=by decide +kernel)(h9:scope.names.lookup x=some .local:=by rfl)(hr:∀σ:St,ρ σ=is.map fun i=>σ[i]?.join:=by exact fun _=>rfl)(hl:is.length+1=N.length:=by rfl):Cg X N scope cl x ρ:=
 ⟨h1,h2,h3,h4,h5,GB h6,h7,h8,h9,fun σ j v e=>by rw [hr] at e;rw [←List.getElem?_tail];exact Ci h σ j v e,fun σ _=>by rw [hr,aD];exact hl⟩
theorem hE(B:Cg X N scope cl x ρ)(hc:X.calm=true)(hi:PI X (.Name x px) iter wi)(ht:∀s₃ H₃ fp,lG (X.bN N scope cl s₃ H₃ fp) ifs tt)(he:∀s₃ H₃ fp,PE (X.bN N scope cl s₃ H₃ fp) elt te)
  (hs:∀x,foldedSetIterable iter X.env x=pure x:=by intro _;rfl):PE X (.ListComp elt [⟨.Name x px,iter,ifs,0⟩] scope pos) (gD wi ρ tt te):=by
 intro pins s σ H Q I h
 rw [eval_ListComp]
 refine yn (use:=none) rfl hs B.tN B.kind B.names (aM (hi pins s σ H _ I h) fun v s1 h1=>aM h1 fun tD s2 h2=>?_)
 obtain ⟨it,fp,tn,J,H2,rfl,I2,T,fZ,f2,q2⟩:=h2
 have nD:H2 s2.heap.objs.size=none:=I2.ay.fresh (ax _)
 obtain ⟨W,⟨m0,w0⟩,turn⟩:=q2 _ nD
 refine sL (wpAny_newFunctionEnv B.ze (by intro y hy;simp at hy) (fun h₁ gE iO=>?_) B.kind)
 dsimp only at gE iO ⊢
 generalize hD:s2.heap.objs.size=D at nD w0 turn gE iO ⊢
 generalize hG:({s2 with heap:=s2.heap.push {cls:=.type "list",dict:=none,data:=.seq ([]:List Value).toArray}}:Shared)=s3
 have I3:Inv X pins σ (upd H2 D (.lst [])) s3:=by
  subst hD hG
  exact I2.laid (t':=s2.toks) (fun b u e=>bX _ e) (ax _) ⟨ba _,[],_,.nil,dH _ rfl⟩
 have e3:s3.heap=s2.heap.push {cls:=.type "list",dict:=none,data:=.seq ([]:List Value).toArray}:=by rw [←hG]
 have fi:∀b o,s2.heap.get? b=some o→s3.heap.get? b=some o:=fun b o e=>by rw [e3];exact bX _ e
 rw [←e3] at gE iO ⊢
 have below:∀b o,s3.heap.get? b=some o→b≠s3.heap.objs.size:=fun b o e=>bL (aT e)
 have dC:∀b o,s3.heap.get? b=some o→h₁.get? b=some o:=fun b o e=>iO.extBut b o (below b o e) (bX _ e)
 have gF:∀b∈fp,∃o,s2.heap.get? b=some o∧∀v,o.data≠.cell v:=T.obj _ _ fZ
 have qb:∀b∈fp,b≠D:=fun b hb z=>by
  obtain ⟨o,e,_⟩:=gF b hb
  rw [z,←hD] at e
  exact absurd (aT e) (dG _)
 have cV:∀y c,cl.lookup y=some c→X.env.cells.lookup y=some c:=fun y c e=>B.sub (y,c) (jR e)
 have qc:=I3.tm
 have eC:(X.bN N scope cl s3 (upd H2 D (.lst [])) fp).Ok:=by
  refine ⟨I.ok.mod,B.kind,I.ok.glob,I.ok.blt,ax _,fun a b c e1 e2=>I.ok.inj a b c (cV a c e1) (cV b c e2),fun y hy=>B.has y hy,(fun _ _ z _=>absurd z dz),(fun _=>I.ok.hd hc),I.ok.frames,.inl rfl,fun b hb=>⟨?_,fun y c e z=>?_⟩,fun b o e=>?_,a9 I.ok.iG I3.sz,fun b o e hb=>?_,fun b hb z=>?_,I3.stack,qc⟩
  ·obtain ⟨o,e,_⟩:=gF b hb
   exact below b o (fi b o e)
  ·exact (f2 b hb).2.2.2.2.1 y c (cV y c e) z
  ·exact I3.bs b o e
  ·rcases (f2 b hb).2.2.2.1 with z | z
   ·exact I.ok.nW b o e z
   ·exact absurd (dA (aT e) (a9 I.ok.iG z)) (dG _)
  ·rcases cf.mp (I3.tj b z) with z | z
   ·exact (f2 b hb).2.1 z
   ·exact (f2 b hb).2.2.1 z
 have IB:∀tk:Nat,Inv (X.bN N scope cl s3 (upd H2 D (.lst [])) fp) [] (none::ρ σ) (upd H2 D (.lst [])) {s3 with heap:=h₁,toks:=tk}:=fun tk=>by
  refine ⟨eC,rfl,I3.bare,Un.kept dC,⟨_,gE,fun j y v e1 e2 e3=>?_⟩,fun y c e=>?_,?_,fun y c e=>I3.i3 y c (cV y c e),(fun p hp=>nomatch hp),I3.ay.kept dC,?_⟩
  ·cases j with
   | zero=>cases e2
   | succ j=>
    obtain ⟨i,y',a1,a2,a3,a4,a5,a6⟩:=B.tO σ j v e2
    have lH:N[j+1]?=some y:=e1
    rw [lH] at a1
    cases a1
    obtain ⟨m,hn,hl⟩:=I3.loc
    obtain ⟨u,r,l⟩:=hl i y v a2 a3 a4
    refine ⟨u,r,.inr ⟨a6,?_⟩⟩
    obtain ⟨c,ec⟩:=B.has y a6
    rcases l with ⟨k,_⟩ | ⟨_,c',j4,z⟩
    ·rcases a5 with q | q <;> (rw [k] at q;cases q)
    ·have:=cV y c ec
     rw [this] at j4
     cases j4
     obtain ⟨o,ho,hd⟩:=z
     exact ⟨c,ec,o,dC _ _ ho,hd⟩
  ·obtain ⟨v,o,ho,hd⟩:=I3.cell y c (cV y c e)
   exact ⟨v,o,dC _ _ ho,hd⟩
  ·exact I3.ay.fresh (ax _)
  ·show (none::ρ σ).length=N.length
   rw [eB]
   exact B.len σ I.len
 have fin:∀{σ':St} {H':Hp} {s':Shared},Inv (X.bN N scope cl s3 (upd H2 D (.lst [])) fp) [] σ' H' s'→Q (.ref D) H'→compPost (model X.prog X.w) X.A X.xe none (EP X pins σ Q) (.ref D) s3.heap.objs.size (.ok .next) s':=fun{σ' H' s'} J q=>by
  obtain ⟨m,hn,_⟩:=J.loc
  refine ⟨m,hn,fun h' fH=>⟨.ref D,H',?_,rfl,q⟩⟩
  have old:∀b o,s3.heap.get? b=some o→b≠s3.heap.objs.size:=below
  have u1:Un (cJ X.stack) fp (upd H2 D (.lst [])) H' s3.heap h':=by
   refine ⟨fun b o e n hb hx=>?_,fun b o e n hb hx=>?_,J.base.free,fun b o e hx=>?_,J.base.gr,J.base.fY,J.base.gu⟩
   ·exact (fH.2 b (old b o e)).trans (J.base.keep b o e n hb hx)
   ·obtain ⟨sl,z⟩:=J.base.slot b o e n hb hx
    exact ⟨sl,(fH.2 b (old b o e)).trans z⟩
   ·obtain ⟨o',z⟩:=J.base.there b o e hx
    exact ⟨o',(fH.2 b (old b o e)).trans z⟩
  have qd:cj X.prog X.w H' h':=fun b u e=>by
   refine (J.ay b u e).jt (fun c v hc z=>(fH.2 c fun y=>?_).trans z) (fun _ z=>z) fun _ _ z=>z
   have fr:=J.free
   have y':c=s3.heap.objs.size:=y
   rcases hc with hc | hc
   ·rw [←hc,y'] at e
    exact absurd (fr.symm.trans e) (by simp)
   ·rw [y'] at hc
    exact absurd (fr.symm.trans hc) (by simp)
  refine I3.n4 (s':={s' with heap:=h'}) (ch:=fp) (J.os) u1 qd J.bare fun b hb=>?_
  obtain ⟨g0,g1,g2,g3,g4,g5⟩:=f2 b hb
  exact ⟨g3,g1,g4,g5⟩
 have fE:∀{H':Hp},(∀b∈fp,H' b=none)→∀b∈fp,k6 (X.bN N scope cl s3 (upd H2 D (.lst [])) fp) [] H' b:=fun hn b hb=>by
  refine ⟨hn b hb,?_,?_,.inl hb,fun y c e z=>(f2 b hb).2.2.2.2.1 y c (cV y c e) z,fun p hp=>nomatch hp⟩
  ·obtain ⟨o,e,_⟩:=gF b hb
   exact below b o (fi b o e)
  ·exact eC.nX b hb
 have loop:∀tk:Nat,codeAny (model X.prog X.w) X.A (.compLoop (.ListComp elt [⟨.Name x px,iter,ifs,0⟩] scope pos) 0 (.ref it) (.ref D) (compEnvC scope cl s3.heap.objs.size X.env))
   (compPost (model X.prog X.w) X.A X.xe none (EP X pins σ Q) (.ref D) s3.heap.objs.size) {s3 with heap:=h₁,toks:=tk}:=fun tk=>by
  refine Bu (fun n s'=>∃i ys o H',Inv (X.bN N scope cl s3 (upd H2 D (.lst [])) fp) [] (o::ρ σ) H' s'∧tn i s'.heap∧(∀b∈fp,H' b=none)∧W i n ys H') ?_ m0
   ⟨0,[],none,_,IB tk,T.keep _ _ _ fZ fun b hb o e=>dC _ _ (fi _ _ e),fun b hb=>by rw [aP (qb b hb)];exact (f2 b hb).1,w0⟩
  rintro n s4 ⟨i,ys,o,H4,I4,j6,j7,w4⟩
  obtain ⟨Cj,qe⟩:=turn i n ys H4 w4
  rcases qe with ⟨stop,qn⟩ | ⟨go,step⟩
  ·refine bC (T.done (X.bN N scope cl s3 (upd H2 D (.lst [])) fp) rfl rfl rfl hc i [] s4 _ H4 (fun _ _=>False) I4 (fE j7) j6 stop) (fun r s5 ⟨hr,I5⟩=>?_) fun _ _ z=>z.elim
   subst hr
   exact fin I5 qn
  ·refine bC (T.item (X.bN N scope cl s3 (upd H2 D (.lst [])) fp) rfl rfl rfl hc i [] s4 _ H4 (fun _ _=>False) I4 (fE j7) j6 go) (fun r s5 ⟨u,hr,h5⟩=>?_) fun _ _ z=>z.elim
   subst hr
   have z:letOwnedTupleGo (.Name x px) (.ref it) u=pure ():=rfl
   rw [z] at h5
   show wpAny _ _ ((pure ():Sem Unit) >>= fun _=>assign (.Name x px) (compEnvC scope cl s3.heap.objs.size X.env) u) _ _ s5
   refine aC (bC h5 (fun _ s5 ⟨y,H5,I5,r5,y5,fF,mI⟩=>?_) fun _ _ z=>z.elim)
   have mJ:=I5.pinned (fE mI) (T.obj _ _ fF)
   have pg:PG (X.bN N scope cl s3 (upd H2 D (.lst [])) fp) (.Name x px) (aO 0):=cy (i:=0) B.nd B.n0 (.inl (nI B.hx)) (.inr (nI B.hx))
   have again:∀{σ7:St} {H7:Hp} {s7:Shared},Inv (X.bN N scope cl s3 (upd H2 D (.lst [])) fp) ([]++jv fp s5.heap) σ7 H7 s7→Inv (X.bN N scope cl s3 (upd H2 D (.lst [])) fp) [] σ7 H7 s7∧tn (i+1) s7.heap∧∀b∈fp,H7 b=none:=fun{σ7 H7 s7} I7=>by
    refine ⟨I7.pX,T.keep _ _ _ fF fun b hb o e=>(I7.pin (b,o) (dI _ (dI _ (k8 hb e)))).1,fun b hb=>?_⟩
    obtain ⟨o,e,d⟩:=T.obj _ _ fF b hb
    exact (I7.pin (b,o) (dI _ (dI _ (k8 hb e)))).2.1
   refine bC (pg _ s5 _ H5 y u (fun σ2 H6=>σ2=some y::ρ σ∧H6=H5) mJ r5 ⟨rfl,rfl⟩) (fun _ s6 ⟨σ6,H6,I6,q6⟩=>?_) fun _ _ z=>z.elim
   obtain ⟨rfl,rfl⟩:=q6
   have qf:=step y _ y5
   have tests:∀{hJ:TT},lG (X.bN N scope cl s3 (upd H2 D (.lst [])) fp) ifs hJ→∀{R:Bool→Hp→Prop},hJ (some y::ρ σ) H6 R→wpAny (model X.prog X.w) X.A
     (forIn ifs true fun c r=>if r=true then do let ok ←isTrue c (compEnvC scope cl s3.heap.objs.size X.env) (eval c (compEnvC scope cl s3.heap.objs.size X.env));pure (ForInStep.yield ok) else pure (ForInStep.yield r))
     (fun ok s7=>∃H7,Inv (X.bN N scope cl s3 (upd H2 D (.lst [])) fp) ([]++jv fp s5.heap) (some y::ρ σ) H7 s7∧R ok H7) (fun _ _=>False) s6:=fun{hJ} p {R} hR=>by
    cases p with
    | nil=>exact yo ⟨_,I6,hR⟩
    | one p=>exact yp (p _ s6 _ _ _ I6 hR)
   refine bC (tests (ht s3 _ fp) qf) (fun ok s7 ⟨H7,I7,q7⟩=>?_) fun _ _ z=>z.elim
   cases ok with
   | false=>
    obtain ⟨m',eE,w7⟩:=q7
    obtain ⟨a1,a2,a3⟩:=again I7
    exact ⟨m',eE,i+1,ys,_,H7,a1,a2,a3,w7⟩
   | true=>
    refine bC (he s3 _ fp _ s7 _ H7 _ I7 q7) (fun ev s8 ⟨z,H8,I8,r8,qg,hz,m',eE,w8⟩=>?_) fun _ _ z=>z.elim
    refine bC (gC (X:=X.bN N scope cl s3 (upd H2 D (.lst [])) fp) _ s8 _ H8 (.ref D) [z] (.ref D) [ev] (fun _ H9=>H9=upd H8 D (.lst (ys++[z]))) I8 rfl (.cons r8 .nil) ⟨D,ys,z,rfl,rfl,qg,hz,rfl⟩) (fun _ s9 ⟨_,H9,I9,_,q9⟩=>?_) fun _ _ z=>z.elim
    subst q9
    obtain ⟨a1,a2,a3⟩:=again I9
    exact ⟨m',eE,i+1,ys++[z],_,_,a1,a2,a3,w8⟩
 have start:=loop (s3.toks+([]:List (Str×Value)).length)
 have es:({s3 with heap:=h₁,toks:=s3.toks+([]:List (Str×Value)).length}:Shared)={s2 with heap:=h₁,toks:=s2.toks+([]:List (Str×Value)).length}:=by rw [←hG]
 rw [es] at start
 exact yq start (T.self _ 0 _ _ _ (T.keep _ _ _ fZ fun b hb o e=>dC _ _ (fi _ _ e)) start)
end
def fR(i:Int):Prop:=i.natAbs<2 ^ 2048
theorem fR.log{i:Int}(h:fR i):i.natAbs.log2<2048:=by
 by_cases z:i.natAbs=0;·rw [z];decide
 ·exact (Nat.log2_lt z).mpr h
theorem Ck:∀{xs:List V} {us:List Value},xs.length=us.length→(∀(i:Nat) (x:V) (u:Value),xs[i]?=some x→us[i]?=some u→RelV x u)→Vals xs us
 | [],[],_,_=>.nil
 | [],_::_,h,_=>by simp at h
 | _::_,[],h,_=>by simp at h
 | x::xs,u::us,h,k=>.cons (k 0 x u rfl rfl) (Ck (by simpa using h) fun i a b h1 h2=>k (i+1) a b (by simpa using h1) (by simpa using h2))
section
variable {X:Cx}
def Oq(i j:Int):Prop:=0<j∧fR j
theorem Ot:cK X (binaryOp .FloorDiv) (rI Oq fun i j=>.int (i / j)):=yS fun i j _ _ _ _ _ hc q=>floordiv_int (Int.ne_of_gt hc.1) (by rw [Int.fdiv_eq_ediv_of_nonneg i (dm hc.1)];exact q) (.inl (PyProof.noPylong_of_log2 (dA hc.2.log (by decide))))
def allR(K:aH):List V→Hp→VK→Prop:=fun xs H Q=>∃(p:Addr) (bs:List Bool),xs=[.ref p]∧bt K H p (bs.map V.bl)∧Q (.bl (bs.all id)) H
theorem zg{K:aH}(hc:X.calm=true)(hK:X.K=K:=by rfl):e_ X (.builtin "all") (allR K):=by
 intro pins s σ H xs us Q I r h;subst hK;obtain ⟨p,bs,rfl,hq,q⟩:=h;obtain ⟨u,rfl,ru⟩:=vals1 r;cases ru;obtain ⟨ak,rv,pl,hz⟩:=I.list hq;have qh:p≠s.heap.objs.size:=by obtain ⟨o,e,_⟩:=pl.isList;exact bL (aT e)
 have hl:ak.length=bs.length:=by rw [←rv.length,aD]
 refine call_all_walk (vH pl.isList ?_);refine ⟨s.heap.objs.size,_,_,_,_,_,fun i=>bs.getD i true,rfl,Walks.list (A:=X.A.in1) (show X.A.in1.handled=none from I.ok.hd hc) s.heap.objs.size p qh ak.toArray,⟨⟨_,dH _ rfl,rfl,rfl⟩,pl.isList.push _⟩,fun i v s' Q' E' hv Cm=>?_,fun h' tk hk=>?_⟩
 ·have gG:ak[i]?=some v:=by simpa using hv
  cases eb:bs[i]? with
  | none=>
   have:=rv.none_of (i:=i) (by rw [bP,eb];rfl)
   rw [this] at gG;cases gG
  | some b=>
   obtain ⟨u,hu,ru⟩:=rv.get (i:=i) (x:=V.bl b) (by rw [bP,eb];rfl)
   rw [hu] at gG;cases gG;cases ru;have e:bs.getD i true=b:=by rw [dB,eb];rfl
   have wH:Q' (bs.getD i true) s':=Cm;rw [e] at wH;exact md wH
 ·refine ⟨.bl (bs.all id),H,I.kept fun b o e=>hk b o (fun z=>?_) (bX _ e),?_,q⟩
  ·exact absurd (aT e) (by rw [bY.mp z];exact dG _)
  ·show Value.bool _=Value.bool _
   congr 1
   rw [bR,hl];clear hk q rv pl hz hl hq
   induction bs with
   | nil=>rfl
   | cons b bs ih=>rw [eB,List.range_succ_eq_map,List.all_cons,List.all_map,List.all_cons];show (b && (List.range bs.length).all fun i=>bs.getD i true)=(b && bs.all id);rw [ih]
def Ou:List V→Hp→VK→Prop:=fun xs H Q=>∃j:Int,xs=[.int j]∧∀p,H p=none→Q (.ref p) (upd H p (.dS 0 j))
theorem tP:e_ X (.type "range") Ou:=by intro pins s σ H xs us Q I r h;obtain ⟨j,rfl,q⟩:=h;obtain ⟨u,rfl,ru⟩:=vals1 r;obtain ⟨t,rfl⟩:=ru;refine call_range_1 ⟨.ref s.heap.objs.size,_,I.laid (o:=.dS 0 j) (fun b o e=>bX _ e) (ax _) ⟨_,_,_,dH _ rfl⟩,rfl,q _ (I.ay.fresh (ax _))⟩
def bT(n:Nat):List V:=(List.range n).map fun i:Nat=>V.int (i:Int)
def Ov:List V→Hp→VK→Prop:=fun xs H Q=>∃p n,xs=[.ref p]∧H p=some (.dS 0 (n:Nat))∧n≤10000∧∀l,H l=none→Q (.ref l) (upd H l (.lst (bT n)))
theorem wI(hc:X.calm=true):e_ X (.type "list") Ov:=by
 intro pins s σ H xs us Q I r h;obtain ⟨p,n,rfl,hp,hn,q⟩:=h;obtain ⟨u,rfl,ru⟩:=vals1 r;cases ru;obtain ⟨t,u,v,e⟩:=(show cg X.prog X.w H s.heap p (.dS 0 n) from I.ay p _ hp);refine call_list_range (n:=n) (I.ok.hd hc) e (small_one (by omega) (by omega) (by omega) (by omega)) (by rw [rangeSize_one];split <;> omega) (by omega) fun h' tk acc c hk hD hit=>?_
 refine ⟨.ref s.heap.objs.size,_,I.laid (o:=.lst (bT n)) (fun b o e=>hk b o e) (ax _) ⟨?_,acc.toList,c,?_,?_⟩,rfl,q _ (I.ay.fresh (ax _))⟩
 ·unfold bT
  rw [aD,dt];exact a9 hn (by decide)
 ·refine Ck ?_ fun i x u h1 h2=>?_
  ·unfold bT
   rw [aD,dt,eA,hit.1]
  ·have wJ:acc[i]?=some u:=by simpa using h2
   obtain ⟨dr,e'⟩:=hit.2 i u wJ;unfold bT at h1;rw [bP] at h1;have hi:i<n:=by have z:=(Array.getElem?_eq_some_iff.mp wJ).1;rw [hit.1] at z;exact z
   rw [o_ hi] at h1;cases h1;exact ⟨dr,by rw [e'];simp⟩
 ·rw [hD]
end
theorem boot_all:bootBuiltins "all"=some (.builtin "all"):=by decide +kernel
theorem tQ:bootBuiltins "range"=some (.type "range"):=by decide +kernel
def Cn:Expr→Bool
 | .Starred _ _=>false
 | _=>true
variable {e:Expr} {es:List Expr}
theorem Ow{env:Env}(h:Cn e=true):starEach (e::es) env=(false,eval e env)::starEach es env:=by cases e <;> first | rfl | cases h
variable {X:Cx} {te:TE}
theorem Ox{t:TA}(hs:Cn e=true)(ha:PE X e te)(hr:PA X es t):PA X (e::es) (tE te t):=
 MV ha hr (Ow hs)
theorem ai{t:TA}(ha:PE X e te)(hr:PA X es t)(hs:Cn e=true:=by rfl):PA X (e::es) (tE te t):=Ox hs ha hr
variable {pos pos':Pos} {x:Str}
theorem GC{i:Nat}(hs:swapsWith e (some (.Name x pos')) pos.line X.env=pure false)(hf:X.fn x=true∨X.env.scope.names.lookup x=some .local)(hN:X.N.Nodup)(hi:X.N[i]?=some x)(hx:Loc X.env.scope x)(he:PE X e te) :
  PS X (.Assign [.Name x pos'] e pos) (n8 te (aO i)):=Mr hN hi hx he hs hf
theorem putL(i:Nat)(hN:X.N.Nodup)(he:PE X e te)(hs:swapsWith e (some (.Name x pos')) pos.line X.env=pure false:=by rfl)(hi:X.N[i]?=some x:=by rfl)(hx:X.env.scope.names.lookup x=some .local:=by rfl) :
  PS X (.Assign [.Name x pos'] e pos) (n8 te (aO i)):=GC hs (.inr hx) hN hi (.inl hx) he
theorem wK(i:Nat)(hN:X.N.Nodup)(he:PE X e te)(hs:swapsWith e (some (.Name x pos')) pos.line X.env=pure false:=by rfl)(hf:X.fn x=true∨X.env.scope.names.lookup x=some .local:=by first | exact .inl rfl | exact .inr rfl | assumption)(hi:X.N[i]?=some x:=by rfl)(hx:X.env.scope.names.lookup x=some .cell:=by rfl) :
  PS X (.Assign [.Name x pos'] e pos) (n8 te (aO i)):=GC hs hf hN hi (.inr hx) he
end L2
namespace My
open PySem L2
theorem mP(a b:Int):decide (V.int a=V.int b)=decide (a=b):=by
 by_cases h:a=b;·subst h;simp
 ·rw [bW h];exact bW fun e=>h (V.int.inj e)
variable {K:aH}
theorem Oy{T:String}:PySem.W.kitOne K (.type T) (.type T)=some true:=by unfold PySem.W.kitOne;rw [ae (yr _)]
variable {H:Hp}
theorem aJ{p:Addr}{o:HO}(h:H p=none):aj H (upd H p o):=fun b u e=>by rw [aP (kX e h)];exact e
variable {i:Int}
theorem GD{α:Type}{xs:List α}(h0:0≤i)(h1:i<xs.length):∃v,gz xs i=some v∧v∈xs:=by
 obtain ⟨k,rfl⟩:∃k:Nat,i=(k:Int):=⟨i.toNat,by omega⟩
 have hk:k<xs.length:=by omega
 exact ⟨xs[k],oq (by simp [hk]),cS _⟩
inductive Any (H:Hp):V→Prop where
 | aN:Any H .aN
 | bl (b:Bool):Any H (.bl b)
 | int (i:Int):Any H (.int i)
 | str (x:Str):Any H (.str x)
 | lst {a:Addr} {xs:List V} (e:H a=some (.lst xs)):Any H (.ref a)
 | tup {a:Addr} {xs:List V} (e:H a=some (.tup xs)):Any H (.ref a)
 | tM {a:Addr} (e:H a=some (Gz a)):Any H (.ref a)
def tR:V→Bool
 | .int _=>true
 | _=>false
def tS:V→Bool
 | .bl _=>true
 | _=>false
def zh(H:Hp):V→Bool
 | .ref a=>(match H a with | some (.tup _)=>true | _=>false)
 | _=>false
theorem Any.Cf{v:V}(h:Any H v):∃T:String,wG K H v (.type T)∧PySem.W.kitOne K (.type T) (.type "int")=some (tR v || tS v)∧PySem.W.kitOne K (.type T) (.type "bool")=some (tS v) ∧
  PySem.W.kitOne K (.type T) (.type "tuple")=some (zh H v):=by
 cases h with
 | aN=>exact ⟨"NoneType",.of .aN,rfl,rfl,rfl⟩
 | bl b=>exact ⟨"bool",.of (.bl b),rfl,rfl,rfl⟩
 | int i=>exact ⟨"int",.of (.int i),rfl,rfl,rfl⟩
 | str x=>exact ⟨"str",.of (.str x),rfl,rfl,rfl⟩
 | lst e=>exact ⟨"list",.of (.lst e),rfl,rfl,by unfold zh;dsimp only;rw [e];rfl⟩
 | tup e=>exact ⟨"tuple",.of (.tup e),rfl,rfl,by unfold zh;dsimp only;rw [e];rfl⟩
 | tM e=>exact ⟨"dict",.tM e,rfl,rfl,by unfold zh;dsimp only;rw [e];rfl⟩
theorem Oz{v:V}(h:tS v=true):tR v=false:=by cases v <;> first | rfl | cases h
theorem fR.of_lt(h1:-(10 ^ 70)<i)(h2:i<10 ^ 70):fR i:=by
 have h3:i.natAbs<2 ^ 240:=by omega
 exact dA h3 (vO (by decide) (by decide))
def OA:Sp:=fun vs H Q _=>∃v:V,vs=[v]∧Any H v∧Q (.bl (tR v)) H
def zi(K:aH):Sp:=fun vs H Q _=>∃(a:Addr) (ns:List Int),vs=[.ref a]∧bt K H a (ns.map V.int)∧ns.length≤63∧∀H',Q (.bl true) H'
theorem GF(xs:List V)(k:Nat):iJ xs none (some (k:Int))=xs.take k:=by unfold iJ;rw [HT.F8,HT.F9,List.drop_zero,Nat.sub_zero];rw [List.take_eq_take_iff];omega
end My
namespace L2
open PySem PySem.Spec PyProof.Rows
end L2
namespace My
open PySem L2
end My
namespace L2
open PySem PySem.Spec PyProof.Rows
section
variable {P:Program} {w:World} {K:aH} {mg:du} {base:Heap}
end
section
variable {X:Cx} {CX:g8} {k:Nat} {f C:Addr} {fd:FuncData} {ps:List Str} {y:Str} {sp:Sp} {E:XK} {m:Str} {pos apos FX:Pos} {e e' o:Expr} {ta:TE} {t tk:TA}
end
end L2
namespace My
open PySem L2
end My
namespace L2
open PySem PySem.Spec PyProof.Rows
section
variable {X:Cx}
end
end L2
namespace My
open PySem L2
section
variable {C N z:Addr} {q:Int} {v u:V} {t b t' b':Int} {H:Hp} {Q:VK} {E:XK}
end
end My
namespace L2
open PySem PySem.Spec PyProof.Rows
structure j8 (J:It) (xs:List V) (H1:Hp):Prop where
 go:∀i Hc,aj H1 Hc→i<xs.length→J.go i Hc
 dW:∀i Hc x H',aj H1 Hc→J.dW i Hc x H'→H'=Hc∧(i<xs.length→xs[i]?=some x)
 stop:∀i Hc,aj H1 Hc→xs.length≤i→J.stop i Hc
variable {xs:List V} {H1:Hp}
theorem iP{K:aH}{a:Addr}(h:bt K H1 a xs):j8 (mG K a) xs H1 where
 go:=fun i Hc s hi=>⟨xs,xs[i],s.seq h,by simp [hi]⟩
 dW:=fun i Hc x H' s y=>⟨y.1,fun _=>y.2 xs (s.seq h)⟩
 stop:=fun i Hc s hi=>⟨xs,s.seq h,hi⟩
theorem zl{lo:Int}{n:Nat}:j8 (mH lo n) ((List.range n).map fun i:Nat=>V.int (lo+(i:Int))) H1 where
 go:=fun i Hc s hi=>by
  have hi:i<n:=by simpa using hi
  exact hi
 dW:=fun i Hc x H' s y=>⟨y.1,fun hi=>by
  have hi:i<n:=by simpa using hi
  rw [y.2];simp [hi]⟩
 stop:=fun i Hc s hi=>by
  have hi:n≤i:=by simpa using hi
  exact hi
variable {H:Hp} {D:Addr}
theorem d7{H':Hp}{o:HO}(s:aj H H')(n:H D=none):aj H (upd H' D o):=fun b u e=>by rw [aP (kX e n)];exact s b u e
variable {te:TE} {Q:VK}
theorem GG{J:It}{ρσ:St}(js:j8 J xs H1)(nD:H1 D=none)(hn:xs.length<sizeLine)
  (P:Nat→V→Hp→Prop) (mono:∀i y H H' ys,P i y H→H D=some (.lst ys)→(∀b o,b≠D→H b=some o→H' b=some o)→P i y H')
  (step:∀i x,xs[i]?=some x→∀(Hc:Hp) (R:VK),aj H1 Hc→(∃ys,Hc D=some (.lst ys))→(∀y H3,aj Hc H3→P i y H3→R y H3)→te (some x::ρσ) Hc R)
  (fin:∀ys Hc,aj H1 Hc→ys.length=xs.length→(∀i y,ys[i]?=some y→P i y Hc)→Hc D=some (.lst ys)→Q (.ref D) Hc) :
  ∃W:Nat→Nat→List V→Hp→Prop,(∃m,W 0 m [] (upd H1 D (.lst []))) ∧
   ∀i m ys Hc,W i m ys Hc→Hc D=some (.lst ys)∧((J.stop i Hc∧Q (.ref D) Hc)∨(J.go i Hc∧∀x H',J.dW i Hc x H'→
    if true=true then te (some x::ρσ) H' fun y H3=>H3 D=some (.lst ys)∧ys.length<sizeLine∧∃m',m'<m∧W (i+1) m' (ys++[y]) (upd H3 D (.lst (ys++[y]))) else ∃m',m'<m∧W (i+1) m' ys H')):=by
 refine ⟨fun i m ys Hc=>m=xs.length-i∧i≤xs.length∧Hc D=some (.lst ys)∧aj H1 Hc∧ys.length=i∧∀j y,ys[j]?=some y→P j y Hc,⟨_,rfl,ba _,au,d7 (aj.refl H1) nD,rfl,fun j y e=>by simp at e⟩,?_⟩
 rintro i m ys Hc ⟨rfl,hi,eD,sH,el,hP⟩;refine ⟨eD,?_⟩;by_cases aU:i<xs.length
 ·refine .inr ⟨js.go i Hc sH aU,fun x H' hy=>?_⟩
  obtain ⟨rfl,hx⟩:=js.dW i Hc x H' sH hy;rw [ae rfl];refine step i x (hx aU) _ _ sH ⟨ys,eD⟩ fun y H3 s3 hp=>?_;have e3:=s3 _ _ eD;refine ⟨e3,by omega,xs.length-(i+1),by omega,rfl,aU,au,d7 (sH.trans s3) nD,by simp [el],fun j y' e=>?_⟩
  have b8:∀b o,b≠D→H3 b=some o→upd H3 D (.lst (ys++[y])) b=some o:=fun b o nb e=>by rw [aP nb];exact e
  by_cases hj:j<i
  ·have e':ys[j]?=some y':=by rw [gW (by omega)] at e;exact e
   refine mono j y' H' _ ys (hP j y' e') eD fun b o nb e=>?_;exact b8 b o nb (s3 _ _ e)
  ·have hj:j=i:=by have:=(bM.mp e).1;simp at this;omega
   subst hj;have e':y'=y:=by rw [gU (by omega),el,pb] at e;simpa using e.symm
   subst e';exact mono _ _ H3 _ ys hp e3 b8
 ·have e:i=xs.length:=by omega
  subst e;exact .inl ⟨js.stop _ Hc sH (ax _),fin ys Hc sH el hP eD⟩
variable {wi:TI} {ρ:St→St} {σ:St}
theorem OB(d6:∀R:It→Hp→Prop,(∀J H1,aj H H1→j8 J xs H1→R J H1)→wi σ H R)(hn:xs.length<sizeLine)
  (P:Addr→Nat→V→Hp→Prop) (mono:∀D i y H H' ys,P D i y H→H D=some (.lst ys)→(∀b o,b≠D→H b=some o→H' b=some o)→P D i y H')
  (step:∀D i x,xs[i]?=some x→∀(Hc:Hp) (R:VK),aj H Hc→(∃ys,Hc D=some (.lst ys))→(∀y H3,aj Hc H3→P D i y H3→R y H3)→te (some x::ρ σ) Hc R)
  (fin:∀D ys Hc,aj H Hc→ys.length=xs.length→(∀i y,ys[i]?=some y→P D i y Hc)→Hc D=some (.lst ys)→Q (.ref D) Hc):gD wi ρ (fun _ H Q=>Q true H) te σ H Q:=by
 refine d6 _ fun J H1 s1 js=>?_;intro D nD;exact GG (ρσ:=ρ σ) (te:=te) (Q:=Q) js nD hn (P D) (mono D) (fun i x hx Hc R sc=>step D i x hx Hc R (s1.trans sc)) (fun ys Hc sc=>fin D ys Hc (s1.trans sc))
theorem jB{g:TG}{D:Ends}(h:te σ H fun x H1=>g x σ H1 D.nx):n8 te g D σ H:=h
theorem cq{a b:TS}{D:Ends}(h:a {D with nx:=fun σ H=>b D σ H} σ H):BK a b D σ H:=h
section
variable {X:Cx} {N:List Str} {scope:Scope} {cl:List (Str×Addr)} {x:Str} {px pos:Pos} {iter elt:Expr} {ifs:List Expr} {wi:TI} {ρ:St→St} {tt:TT} {te:TE}
theorem wL{y:Str}{py wM:Pos}{i0:Nat}(B:Cg X N scope cl x ρ)(hc:X.calm=true)(hN:X.N.Nodup)(Co:X.N[i0]?=some y)(hy:Loc X.env.scope y)(hi:PI X (.Name x px) iter wi)(ht:∀s₃ H₃ fp,lG (X.bN N scope cl s₃ H₃ fp) ifs tt)(he:∀s₃ H₃ fp,PE (X.bN N scope cl s₃ H₃ fp) elt te)
  (Cp:swapsWith (.ListComp elt [⟨.Name x px,iter,ifs,0⟩] scope pos) (some (.Name y py)) wM.line X.env=pure true:=by rfl) (hf:X.fn y=true∨X.env.scope.names.lookup y=some .local:=by first | exact .inl rfl | exact .inr rfl | assumption)
  (hs:∀x,foldedSetIterable iter X.env x=pure x:=by intro _;rfl):PS X (.Assign [.Name y py] (.ListComp elt [⟨.Name x px,iter,ifs,0⟩] scope pos) wM) (n8 (gD wi ρ tt te) (aO i0)):=by
 intro pins s σ H D0 I h
 have h:gD wi ρ tt te σ H (fun v H1=>D0.nx (σ.set i0 (some v)) H1):=h
 rw [exec_Assign_Name_used _ _ _ _ Cp]
 refine aC (o6 (aC ?_))
 show wpAny _ X.A (do let _ ←comprehension (.ListComp elt [⟨.Name x px,iter,ifs,0⟩] scope pos) scope X.env _ (newList []) false (eval iter X.env) (some (assign (.Name y py) X.env))) _ _ s
 refine aC (bC (Q:=fun _ s'=>SP X pins D0 .next s') ?_ (fun _ s' hq=>bE (bE hq)) fun _ _ e=>e)
 refine yn (use:=some (assign (.Name y py) X.env)) rfl hs B.tN B.kind B.names (aM (hi pins s σ H _ I h) fun v s1 h1=>aM h1 fun tD s2 h2=>?_)
 obtain ⟨it,fp,tn,J,H2,rfl,I2,T,fZ,f2,q2⟩:=h2
 have nD:H2 s2.heap.objs.size=none:=I2.ay.fresh (ax _)
 obtain ⟨W,⟨m0,w0⟩,turn⟩:=q2 _ nD
 refine sL (wpAny_newFunctionEnv B.ze (by intro y hy;simp at hy) (fun h₁ gE iO=>?_) B.kind)
 dsimp only at gE iO ⊢
 generalize hD:s2.heap.objs.size=D at nD w0 turn gE iO ⊢
 generalize hG:({s2 with heap:=s2.heap.push {cls:=.type "list",dict:=none,data:=.seq ([]:List Value).toArray}}:Shared)=s3
 have I3:Inv X pins σ (upd H2 D (.lst [])) s3:=by
  subst hD hG
  exact I2.laid (t':=s2.toks) (fun b u e=>bX _ e) (ax _) ⟨ba _,[],_,.nil,dH _ rfl⟩
 have e3:s3.heap=s2.heap.push {cls:=.type "list",dict:=none,data:=.seq ([]:List Value).toArray}:=by rw [←hG]
 have fi:∀b o,s2.heap.get? b=some o→s3.heap.get? b=some o:=fun b o e=>by rw [e3];exact bX _ e
 rw [←e3] at gE iO ⊢
 have below:∀b o,s3.heap.get? b=some o→b≠s3.heap.objs.size:=fun b o e=>bL (aT e)
 have dC:∀b o,s3.heap.get? b=some o→h₁.get? b=some o:=fun b o e=>iO.extBut b o (below b o e) (bX _ e)
 have gF:∀b∈fp,∃o,s2.heap.get? b=some o∧∀v,o.data≠.cell v:=T.obj _ _ fZ
 have qb:∀b∈fp,b≠D:=fun b hb z=>by
  obtain ⟨o,e,_⟩:=gF b hb
  rw [z,←hD] at e
  exact absurd (aT e) (dG _)
 have cV:∀y c,cl.lookup y=some c→X.env.cells.lookup y=some c:=fun y c e=>B.sub (y,c) (jR e)
 have qc:=I3.tm
 have eC:(X.bN N scope cl s3 (upd H2 D (.lst [])) fp).Ok:=by
  refine ⟨I.ok.mod,B.kind,I.ok.glob,I.ok.blt,ax _,fun a b c e1 e2=>I.ok.inj a b c (cV a c e1) (cV b c e2),fun y hy=>B.has y hy,(fun _ _ z _=>absurd z dz),(fun _=>I.ok.hd hc),I.ok.frames,.inl rfl,fun b hb=>⟨?_,fun y c e z=>?_⟩,fun b o e=>?_,a9 I.ok.iG I3.sz,fun b o e hb=>?_,fun b hb z=>?_,I3.stack,qc⟩
  ·obtain ⟨o,e,_⟩:=gF b hb
   exact below b o (fi b o e)
  ·exact (f2 b hb).2.2.2.2.1 y c (cV y c e) z
  ·exact I3.bs b o e
  ·rcases (f2 b hb).2.2.2.1 with z | z
   ·exact I.ok.nW b o e z
   ·exact absurd (dA (aT e) (a9 I.ok.iG z)) (dG _)
  ·rcases cf.mp (I3.tj b z) with z | z
   ·exact (f2 b hb).2.1 z
   ·exact (f2 b hb).2.2.1 z
 have IB:∀tk:Nat,Inv (X.bN N scope cl s3 (upd H2 D (.lst [])) fp) [] (none::ρ σ) (upd H2 D (.lst [])) {s3 with heap:=h₁,toks:=tk}:=fun tk=>by
  refine ⟨eC,rfl,I3.bare,Un.kept dC,⟨_,gE,fun j y v e1 e2 e3=>?_⟩,fun y c e=>?_,?_,fun y c e=>I3.i3 y c (cV y c e),(fun p hp=>nomatch hp),I3.ay.kept dC,?_⟩
  ·cases j with
   | zero=>cases e2
   | succ j=>
    obtain ⟨i,y',a1,a2,a3,a4,a5,a6⟩:=B.tO σ j v e2
    have lH:N[j+1]?=some y:=e1
    rw [lH] at a1
    cases a1
    obtain ⟨m,hn,hl⟩:=I3.loc
    obtain ⟨u,r,l⟩:=hl i y v a2 a3 a4
    refine ⟨u,r,.inr ⟨a6,?_⟩⟩
    obtain ⟨c,ec⟩:=B.has y a6
    rcases l with ⟨k,_⟩ | ⟨_,c',j4,z⟩
    ·rcases a5 with q | q <;> (rw [k] at q;cases q)
    ·have:=cV y c ec
     rw [this] at j4
     cases j4
     obtain ⟨o,ho,hd⟩:=z
     exact ⟨c,ec,o,dC _ _ ho,hd⟩
  ·obtain ⟨v,o,ho,hd⟩:=I3.cell y c (cV y c e)
   exact ⟨v,o,dC _ _ ho,hd⟩
  ·exact I3.ay.fresh (ax _)
  ·show (none::ρ σ).length=N.length
   rw [eB]
   exact B.len σ I.len
 have qi:∀b o,s3.heap.get? b=some o→b≠s3.heap.objs.size:=below
 have fin:∀{σ':St} {H':Hp} {s':Shared},Inv (X.bN N scope cl s3 (upd H2 D (.lst [])) fp) [] σ' H' s'→D0.nx (σ.set i0 (some (.ref D))) H'→compPost (model X.prog X.w) X.A X.xe (some (assign (.Name y py) X.env)) (fun _ s'=>SP X pins D0 .next s') (.ref D) s3.heap.objs.size (.ok .next) s':=fun{σ' H' s'} J q=>by
  obtain ⟨m,hn,_⟩:=J.loc
  have hn:s'.heap.Ns s3.heap.objs.size m:=hn
  have JC:H' s3.heap.objs.size=none:=J.free
  have u1:Un (cJ X.stack) fp (upd H2 D (.lst [])) H' s3.heap s'.heap:=by
   refine ⟨fun b o e n hb hx=>J.base.keep b o e n hb hx,fun b o e n hb hx=>J.base.slot b o e n hb hx,J.base.free,fun b o e hx=>J.base.there b o e hx,J.base.gr,J.base.fY,J.base.gu⟩
  have IX:Inv X pins σ H' s':=I3.n4 (ch:=fp) (J.os) u1 J.ay J.bare fun b hb=>by
   obtain ⟨g0,g1,g2,g3,g4,g5⟩:=f2 b hb
   exact ⟨g3,g1,g4,g5⟩
  have nl:X.env.locals≠s3.heap.objs.size:=by
   obtain ⟨m3,⟨o3,_,_,e3,_⟩,_⟩:=I3.loc
   exact qi _ _ e3
  have nc:∀z c,X.env.cells.lookup z=some c→c≠s3.heap.objs.size:=fun z c e=>by
   obtain ⟨v3,o3,e3,_⟩:=I3.cell z c e
   exact qi _ _ e3
  refine wpAny_assign_Name (BG (v:=.ref D) IX hN Co hy rfl (fun eQ qj qo=>?_) hf)
  obtain ⟨a,qo,ha⟩:=qo
  have na:s3.heap.objs.size≠a:=by
   rcases ha with rfl | e
   ·exact fun z=>nl z.symm
   ·exact fun z=>nc _ _ e z.symm
  refine ⟨m,hn.sameBut qo na,fun h' fH=>⟨σ.set i0 (some (.ref D)),H',?_,q⟩⟩
  have u2:Un (cJ X.stack) [s3.heap.objs.size] H' H' eQ.heap h':=by
   refine ⟨fun b o e n hb hx=>(fH.2 b (by simpa using hx)).trans e,fun b o e n hb hx=>⟨o.slots,(fH.2 b (by simpa using hx)).trans e⟩,fun b o e n hx=>n,fun b o e hx=>⟨o,(fH.2 b (by simpa using hx)).trans e⟩,fun b xs z=>z,fun b o u z=>z,fun b ps z=>⟨#[],by simpa using z⟩⟩
  have qd:cj X.prog X.w H' h':=fun b u e=>by
   refine (qj.ay b u e).jt (fun c v hc z=>(fH.2 c fun y=>?_).trans z) (fun _ z=>z) fun _ _ z=>z
   have y':c=s3.heap.objs.size:=y
   rcases hc with hc | hc
   ·rw [←hc,y',JC] at e
    cases e
   ·rw [y',JC] at hc
    cases hc
  refine qj.n4 (s':={eQ with heap:=h'}) (ch:=[s3.heap.objs.size]) rfl u2 qd qj.bare fun b hb=>?_
  have eb:b=s3.heap.objs.size:=by simpa using hb
  subst eb
  refine ⟨.inr I3.sz,fun z=>nl z.symm,fun z c e=>nc z c e,fun p hp=>?_⟩
  exact qi _ _ (I3.pin p hp).1
 have fE:∀{H':Hp},(∀b∈fp,H' b=none)→∀b∈fp,k6 (X.bN N scope cl s3 (upd H2 D (.lst [])) fp) [] H' b:=fun hn b hb=>by
  refine ⟨hn b hb,?_,?_,.inl hb,fun y c e z=>(f2 b hb).2.2.2.2.1 y c (cV y c e) z,fun p hp=>nomatch hp⟩
  ·obtain ⟨o,e,_⟩:=gF b hb
   exact below b o (fi b o e)
  ·exact eC.nX b hb
 have loop:∀tk:Nat,codeAny (model X.prog X.w) X.A (.compLoop (.ListComp elt [⟨.Name x px,iter,ifs,0⟩] scope pos) 0 (.ref it) (.ref D) (compEnvC scope cl s3.heap.objs.size X.env))
   (compPost (model X.prog X.w) X.A X.xe (some (assign (.Name y py) X.env)) (fun _ s'=>SP X pins D0 .next s') (.ref D) s3.heap.objs.size) {s3 with heap:=h₁,toks:=tk}:=fun tk=>by
  refine Bu (fun n s'=>∃i ys o H',Inv (X.bN N scope cl s3 (upd H2 D (.lst [])) fp) [] (o::ρ σ) H' s'∧tn i s'.heap∧(∀b∈fp,H' b=none)∧W i n ys H') ?_ m0
   ⟨0,[],none,_,IB tk,T.keep _ _ _ fZ fun b hb o e=>dC _ _ (fi _ _ e),fun b hb=>by rw [aP (qb b hb)];exact (f2 b hb).1,w0⟩
  rintro n s4 ⟨i,ys,o,H4,I4,j6,j7,w4⟩
  obtain ⟨Cj,qe⟩:=turn i n ys H4 w4
  rcases qe with ⟨stop,qn⟩ | ⟨go,step⟩
  ·refine bC (T.done (X.bN N scope cl s3 (upd H2 D (.lst [])) fp) rfl rfl rfl hc i [] s4 _ H4 (fun _ _=>False) I4 (fE j7) j6 stop) (fun r s5 ⟨hr,I5⟩=>?_) fun _ _ z=>z.elim
   subst hr
   exact fin I5 qn
  ·refine bC (T.item (X.bN N scope cl s3 (upd H2 D (.lst [])) fp) rfl rfl rfl hc i [] s4 _ H4 (fun _ _=>False) I4 (fE j7) j6 go) (fun r s5 ⟨u,hr,h5⟩=>?_) fun _ _ z=>z.elim
   subst hr
   have z:letOwnedTupleGo (.Name x px) (.ref it) u=pure ():=rfl
   rw [z] at h5
   show wpAny _ _ ((pure ():Sem Unit) >>= fun _=>assign (.Name x px) (compEnvC scope cl s3.heap.objs.size X.env) u) _ _ s5
   refine aC (bC h5 (fun _ s5 ⟨y,H5,I5,r5,y5,fF,mI⟩=>?_) fun _ _ z=>z.elim)
   have mJ:=I5.pinned (fE mI) (T.obj _ _ fF)
   have pg:PG (X.bN N scope cl s3 (upd H2 D (.lst [])) fp) (.Name x px) (aO 0):=cy (i:=0) B.nd B.n0 (.inl (nI B.hx)) (.inr (nI B.hx))
   have again:∀{σ7:St} {H7:Hp} {s7:Shared},Inv (X.bN N scope cl s3 (upd H2 D (.lst [])) fp) ([]++jv fp s5.heap) σ7 H7 s7→Inv (X.bN N scope cl s3 (upd H2 D (.lst [])) fp) [] σ7 H7 s7∧tn (i+1) s7.heap∧∀b∈fp,H7 b=none:=fun{σ7 H7 s7} I7=>by
    refine ⟨I7.pX,T.keep _ _ _ fF fun b hb o e=>(I7.pin (b,o) (dI _ (dI _ (k8 hb e)))).1,fun b hb=>?_⟩
    obtain ⟨o,e,d⟩:=T.obj _ _ fF b hb
    exact (I7.pin (b,o) (dI _ (dI _ (k8 hb e)))).2.1
   refine bC (pg _ s5 _ H5 y u (fun σ2 H6=>σ2=some y::ρ σ∧H6=H5) mJ r5 ⟨rfl,rfl⟩) (fun _ s6 ⟨σ6,H6,I6,q6⟩=>?_) fun _ _ z=>z.elim
   obtain ⟨rfl,rfl⟩:=q6
   have qf:=step y _ y5
   have tests:∀{hJ:TT},lG (X.bN N scope cl s3 (upd H2 D (.lst [])) fp) ifs hJ→∀{R:Bool→Hp→Prop},hJ (some y::ρ σ) H6 R→wpAny (model X.prog X.w) X.A
     (forIn ifs true fun c r=>if r=true then do let ok ←isTrue c (compEnvC scope cl s3.heap.objs.size X.env) (eval c (compEnvC scope cl s3.heap.objs.size X.env));pure (ForInStep.yield ok) else pure (ForInStep.yield r))
     (fun ok s7=>∃H7,Inv (X.bN N scope cl s3 (upd H2 D (.lst [])) fp) ([]++jv fp s5.heap) (some y::ρ σ) H7 s7∧R ok H7) (fun _ _=>False) s6:=fun{hJ} p {R} hR=>by
    cases p with
    | nil=>exact yo ⟨_,I6,hR⟩
    | one p=>exact yp (p _ s6 _ _ _ I6 hR)
   refine bC (tests (ht s3 _ fp) qf) (fun ok s7 ⟨H7,I7,q7⟩=>?_) fun _ _ z=>z.elim
   cases ok with
   | false=>
    obtain ⟨m',eE,w7⟩:=q7
    obtain ⟨a1,a2,a3⟩:=again I7
    exact ⟨m',eE,i+1,ys,_,H7,a1,a2,a3,w7⟩
   | true=>
    refine bC (he s3 _ fp _ s7 _ H7 _ I7 q7) (fun ev s8 ⟨z,H8,I8,r8,qg,hz,m',eE,w8⟩=>?_) fun _ _ z=>z.elim
    refine bC (gC (X:=X.bN N scope cl s3 (upd H2 D (.lst [])) fp) _ s8 _ H8 (.ref D) [z] (.ref D) [ev] (fun _ H9=>H9=upd H8 D (.lst (ys++[z]))) I8 rfl (.cons r8 .nil) ⟨D,ys,z,rfl,rfl,qg,hz,rfl⟩) (fun _ s9 ⟨_,H9,I9,_,q9⟩=>?_) fun _ _ z=>z.elim
    subst q9
    obtain ⟨a1,a2,a3⟩:=again I9
    exact ⟨m',eE,i+1,ys++[z],_,_,a1,a2,a3,w8⟩
 have start:=loop (s3.toks+([]:List (Str×Value)).length)
 have es:({s3 with heap:=h₁,toks:=s3.toks+([]:List (Str×Value)).length}:Shared)={s2 with heap:=h₁,toks:=s2.toks+([]:List (Str×Value)).length}:=by rw [←hG]
 rw [es] at start
 exact yq start (T.self _ 0 _ _ _ (T.keep _ _ _ fZ fun b hb o e=>dC _ _ (fi _ _ e)) start)
end
section
variable {X:Cx}
end
section
variable {prog:Program} {w:World} {A:Around} {R:Result→Shared→Prop} {s:Shared}
theorem OC{elt target iter:Expr}{ifs:List Expr}{scope:Scope}{pos:Pos}{it acc:Value}{env:Env}(I:Nat→Shared→Prop)
  (turn:∀n s,I n s→wpAny (model prog w) A (pyNext it) (fun r s₁=>match r with
   | none=>R (.ok .next) s₁
   | some v=>wpAny (model prog w) A (letOwnedTupleGo target it v) (fun _ s₁=>wpAny (model prog w) A (assign target env v) (fun _ s₂=>
     wpAny (model prog w) A (forIn ifs true fun c r=>if r=true then do let ok ←isTrue c env (eval c env);pure (ForInStep.yield ok) else pure (ForInStep.yield r)) (fun ok s₃=>
      if ok=true then wpAny (model prog w) A (eval elt env) (fun x s₄=>
       wpAny (model prog w) A (call (.builtin "list.append") [acc,x]) (fun _ s₅=>∃m,m<n∧I m s₅) (notedBy (model prog w) A env fun e s'=>R (.error e) s') s₄) (notedBy (model prog w) A env fun e s'=>R (.error e) s') s₃
      else ∃m,m<n∧I m s₃) (notedBy (model prog w) A env fun e s'=>R (.error e) s') s₂) (notedBy (model prog w) A env fun e s'=>R (.error e) s') s₁) (notedBy (model prog w) A env fun e s'=>R (.error e) s') s₁) (notedBy (model prog w) A env fun e s'=>R (.error e) s') s)
  (n:Nat) (h:I n s):codeAny (model prog w) A (.compLoop (.ListComp elt [⟨target,iter,ifs,0⟩] scope pos) 0 it acc env) R s:=by
 refine codeAny_loop rfl I (fun n s hI=>?_) n h
 show wpAny _ A ((compTurn (.ListComp elt [⟨target,iter,ifs,0⟩] scope pos) 0 it acc env).onRaise (fun x=>do noteFrame x env;theTreesLotGoes x)) _ _ s
 refine wpAny_noted ?_
 rw [compTurn_list]
 refine aC (o6 (aC (bC (turn n s hI) (fun r s₁ h₁=>?_) fun _ _ h'=>h')))
 cases r with
 | none=>exact bE h₁
 | some v=>
  refine aC (bC h₁ (fun _ s₁ h₁=>?_) fun _ _ h'=>h')
  refine aC (bC h₁ (fun _ s₂ h₂=>aC (bC h₂ (fun ok s₃ h₃=>?_) fun _ _ h'=>h')) fun _ _ h'=>h')
  cases ok with
  | false=>exact bE ⟨rfl,h₃⟩
  | true=>
   exact aC (aC (bC h₃ (fun x s₄ h₄=>aC (bC h₄ (fun _ s₅ h₅=>bE (bE ⟨rfl,h₅⟩)) fun _ _ h'=>h')) fun _ _ h'=>h'))
end
def qp(K:aH)(wi:TI)(ρ:St→St)(tt:TT)(te:TE):TE:=fun σ H Q=>wi σ H fun J H1=>∀D,H1 D=none→∃W:Nat→Nat→List V→Hp→Prop,(∃m,W 0 m [] (upd H1 D (.lst []))) ∧
 ∀i m ys Hc,W i m ys Hc→Hc D=some (.lst ys)∧((J.stop i Hc∧Q (.ref D) Hc)∨(J.go i Hc∧∀v H',J.dW i Hc v H'→∃T x1 x2,v=.ref T∧dU K H' T [x1,x2]∧tt (some x1::some x2::ρ σ) H' fun b H2=>
  if b=true then te (some x1::some x2::ρ σ) H2 fun y H3=>H3 D=some (.lst ys)∧ys.length<sizeLine∧∃m',m'<m∧W (i+1) m' (ys++[y]) (upd H3 D (.lst (ys++[y]))) else ∃m',m'<m∧W (i+1) m' ys H2))
section
variable {X:Cx} {N:List Str} {scope:Scope} {cl:List (Str×Addr)} {x y:Str} {px py pos tp:Pos} {wN:Nat} {iter elt:Expr} {ifs:List Expr} {wi:TI} {ρ:St→St} {tt:TT} {te:TE}
structure GH (X:Cx) (N:List Str) (scope:Scope) (cl:List (Str×Addr)) (x y:Str) (ρ:St→St):Prop where
 tN:closureFor scope X.env=pure cl
 kind:scope.kind=.function
 ze:∀y∈scope.names,y.2≠.cell
 names:∀y∈scope.names,y.2=.local→scope.names.lookup y.1=some .local
 sub:∀p∈cl,X.env.cells.lookup p.1=some p.2
 has:∀y,((relabel scope X.env).names.lookup y=some .cell∨(relabel scope X.env).names.lookup y=some .free)→∃c,cl.lookup y=some c
 n0:N[0]?=some x
 n1:N[1]?=some y
 nd:N.Nodup
 hx:scope.names.lookup x=some .local
 hy:scope.names.lookup y=some .local
 tO:∀(σ:St) (j:Nat) (v:V),(ρ σ)[j]?=some (some v)→∃(i:Nat) (y:Str),N[j+1+1]?=some y∧X.N[i]?=some y∧σ[i]?=some (some v)∧nV X.env.scope y∧(X.env.kindOf y=some .cell∨X.env.kindOf y=some .free)∧((relabel scope X.env).names.lookup y=some .cell∨(relabel scope X.env).names.lookup y=some .free)
 len:∀σ:St,σ.length=X.N.length→(ρ σ).length+1+1=N.length
theorem GI(is:List Nat)(h1:closureFor scope X.env=pure cl)(h:zf X scope N.tail.tail is:=by repeat' first | exact True.intro | refine And.intro ⟨rfl,Or.inr (Or.inl rfl),.inl rfl,.inl rfl⟩ ?_)(h2:scope.kind=.function:=by rfl)(h3:∀y∈scope.names,y.2≠.cell:=by decide +kernel)(h4:∀y∈scope.names,y.2=.local→scope.names.lookup y.1=some .local:=by decide +kernel)(h5:∀p∈cl,X.env.cells.lookup p.1=some p.2:=by repeat' first | exact List.forall_mem_nil _ | refine ym.mpr ⟨rfl,?_⟩)(h6:((relabel scope X.env).names.all fun q=>(q.2 != .cell && q.2 != .free) || (cl.lookup q.1).isSome)=true:=by rfl)(h7:N[0]?=some x:=by rfl)(OD:N[1]?=some y:=by rfl)(h8:N.Nodup:=by decide +kernel)(h9:scope.names.lookup x=some .local:=by rfl)(OE:scope.names.lookup y=some .local:=by rfl)(hr:∀σ:St,ρ σ=is.map fun i=>σ[i]?.join:=by exact fun _=>rfl)(hl:is.length+1+1=N.length:=by rfl):GH X N scope cl x y ρ:=
 ⟨h1,h2,h3,h4,h5,GB h6,h7,OD,h8,h9,OE,fun σ j v e=>by rw [hr] at e;rw [←List.getElem?_tail,←List.getElem?_tail];exact Ci h σ j v e,fun σ _=>by rw [hr,aD];exact hl⟩
theorem GJ(B:GH X N scope cl x y ρ)(hc:X.calm=true)(hi:PI X (.Tuple [.Name x px,.Name y py] wN tp) iter wi)(ht:∀s₃ H₃ fp,lG (X.bN N scope cl s₃ H₃ fp) ifs tt)(he:∀s₃ H₃ fp,PE (X.bN N scope cl s₃ H₃ fp) elt te)
  (hs:∀x,foldedSetIterable iter X.env x=pure x:=by intro _;rfl):PE X (.ListComp elt [⟨.Tuple [.Name x px,.Name y py] wN tp,iter,ifs,0⟩] scope pos) (qp X.K wi ρ tt te):=by
 intro pins s σ H Q I h
 rw [eval_ListComp]
 refine yn (use:=none) rfl hs B.tN B.kind B.names (aM (hi pins s σ H _ I h) fun v s1 h1=>aM h1 fun tD s2 h2=>?_)
 obtain ⟨it,fp,tn,J,H2,rfl,I2,T,fZ,f2,q2⟩:=h2
 have nD:H2 s2.heap.objs.size=none:=I2.ay.fresh (ax _)
 obtain ⟨W,⟨m0,w0⟩,turn⟩:=q2 _ nD
 refine sL (wpAny_newFunctionEnv B.ze (by intro y hy;simp at hy) (fun h₁ gE iO=>?_) B.kind)
 dsimp only at gE iO ⊢
 generalize hD:s2.heap.objs.size=D at nD w0 turn gE iO ⊢
 generalize hG:({s2 with heap:=s2.heap.push {cls:=.type "list",dict:=none,data:=.seq ([]:List Value).toArray}}:Shared)=s3
 have I3:Inv X pins σ (upd H2 D (.lst [])) s3:=by
  subst hD hG
  exact I2.laid (t':=s2.toks) (fun b u e=>bX _ e) (ax _) ⟨ba _,[],_,.nil,dH _ rfl⟩
 have e3:s3.heap=s2.heap.push {cls:=.type "list",dict:=none,data:=.seq ([]:List Value).toArray}:=by rw [←hG]
 have fi:∀b o,s2.heap.get? b=some o→s3.heap.get? b=some o:=fun b o e=>by rw [e3];exact bX _ e
 rw [←e3] at gE iO ⊢
 have below:∀b o,s3.heap.get? b=some o→b≠s3.heap.objs.size:=fun b o e=>bL (aT e)
 have dC:∀b o,s3.heap.get? b=some o→h₁.get? b=some o:=fun b o e=>iO.extBut b o (below b o e) (bX _ e)
 have gF:∀b∈fp,∃o,s2.heap.get? b=some o∧∀v,o.data≠.cell v:=T.obj _ _ fZ
 have qb:∀b∈fp,b≠D:=fun b hb z=>by
  obtain ⟨o,e,_⟩:=gF b hb
  rw [z,←hD] at e
  exact absurd (aT e) (dG _)
 have cV:∀y c,cl.lookup y=some c→X.env.cells.lookup y=some c:=fun y c e=>B.sub (y,c) (jR e)
 have qc:=I3.tm
 have eC:(X.bN N scope cl s3 (upd H2 D (.lst [])) fp).Ok:=by
  refine ⟨I.ok.mod,B.kind,I.ok.glob,I.ok.blt,ax _,fun a b c e1 e2=>I.ok.inj a b c (cV a c e1) (cV b c e2),fun y hy=>B.has y hy,(fun _ _ z _=>absurd z dz),(fun _=>I.ok.hd hc),I.ok.frames,.inl rfl,fun b hb=>⟨?_,fun y c e z=>?_⟩,fun b o e=>?_,a9 I.ok.iG I3.sz,fun b o e hb=>?_,fun b hb z=>?_,I3.stack,qc⟩
  ·obtain ⟨o,e,_⟩:=gF b hb
   exact below b o (fi b o e)
  ·exact (f2 b hb).2.2.2.2.1 y c (cV y c e) z
  ·exact I3.bs b o e
  ·rcases (f2 b hb).2.2.2.1 with z | z
   ·exact I.ok.nW b o e z
   ·exact absurd (dA (aT e) (a9 I.ok.iG z)) (dG _)
  ·rcases cf.mp (I3.tj b z) with z | z
   ·exact (f2 b hb).2.1 z
   ·exact (f2 b hb).2.2.1 z
 have IB:∀tk:Nat,Inv (X.bN N scope cl s3 (upd H2 D (.lst [])) fp) [] (none::none::ρ σ) (upd H2 D (.lst [])) {s3 with heap:=h₁,toks:=tk}:=fun tk=>by
  refine ⟨eC,rfl,I3.bare,Un.kept dC,⟨_,gE,fun j y v e1 e2 e3=>?_⟩,fun y c e=>?_,?_,fun y c e=>I3.i3 y c (cV y c e),(fun p hp=>nomatch hp),I3.ay.kept dC,?_⟩
  ·cases j with
   | zero=>cases e2
   | succ j=>
   cases j with
   | zero=>cases e2
   | succ j=>
    obtain ⟨i,y',a1,a2,a3,a4,a5,a6⟩:=B.tO σ j v e2
    have lH:N[j+1+1]?=some y:=e1
    rw [lH] at a1
    cases a1
    obtain ⟨m,hn,hl⟩:=I3.loc
    obtain ⟨u,r,l⟩:=hl i y v a2 a3 a4
    refine ⟨u,r,.inr ⟨a6,?_⟩⟩
    obtain ⟨c,ec⟩:=B.has y a6
    rcases l with ⟨k,_⟩ | ⟨_,c',j4,z⟩
    ·rcases a5 with q | q <;> (rw [k] at q;cases q)
    ·have:=cV y c ec
     rw [this] at j4
     cases j4
     obtain ⟨o,ho,hd⟩:=z
     exact ⟨c,ec,o,dC _ _ ho,hd⟩
  ·obtain ⟨v,o,ho,hd⟩:=I3.cell y c (cV y c e)
   exact ⟨v,o,dC _ _ ho,hd⟩
  ·exact I3.ay.fresh (ax _)
  ·show (none::none::ρ σ).length=N.length
   rw [eB,eB]
   exact B.len σ I.len
 have fin:∀{σ':St} {H':Hp} {s':Shared},Inv (X.bN N scope cl s3 (upd H2 D (.lst [])) fp) [] σ' H' s'→Q (.ref D) H'→compPost (model X.prog X.w) X.A X.xe none (EP X pins σ Q) (.ref D) s3.heap.objs.size (.ok .next) s':=fun{σ' H' s'} J q=>by
  obtain ⟨m,hn,_⟩:=J.loc
  refine ⟨m,hn,fun h' fH=>⟨.ref D,H',?_,rfl,q⟩⟩
  have old:∀b o,s3.heap.get? b=some o→b≠s3.heap.objs.size:=below
  have u1:Un (cJ X.stack) fp (upd H2 D (.lst [])) H' s3.heap h':=by
   refine ⟨fun b o e n hb hx=>?_,fun b o e n hb hx=>?_,J.base.free,fun b o e hx=>?_,J.base.gr,J.base.fY,J.base.gu⟩
   ·exact (fH.2 b (old b o e)).trans (J.base.keep b o e n hb hx)
   ·obtain ⟨sl,z⟩:=J.base.slot b o e n hb hx
    exact ⟨sl,(fH.2 b (old b o e)).trans z⟩
   ·obtain ⟨o',z⟩:=J.base.there b o e hx
    exact ⟨o',(fH.2 b (old b o e)).trans z⟩
  have qd:cj X.prog X.w H' h':=fun b u e=>by
   refine (J.ay b u e).jt (fun c v hc z=>(fH.2 c fun y=>?_).trans z) (fun _ z=>z) fun _ _ z=>z
   have fr:=J.free
   have y':c=s3.heap.objs.size:=y
   rcases hc with hc | hc
   ·rw [←hc,y'] at e
    exact absurd (fr.symm.trans e) (by simp)
   ·rw [y'] at hc
    exact absurd (fr.symm.trans hc) (by simp)
  refine I3.n4 (s':={s' with heap:=h'}) (ch:=fp) (J.os) u1 qd J.bare fun b hb=>?_
  obtain ⟨g0,g1,g2,g3,g4,g5⟩:=f2 b hb
  exact ⟨g3,g1,g4,g5⟩
 have fE:∀{H':Hp},(∀b∈fp,H' b=none)→∀b∈fp,k6 (X.bN N scope cl s3 (upd H2 D (.lst [])) fp) [] H' b:=fun hn b hb=>by
  refine ⟨hn b hb,?_,?_,.inl hb,fun y c e z=>(f2 b hb).2.2.2.2.1 y c (cV y c e) z,fun p hp=>nomatch hp⟩
  ·obtain ⟨o,e,_⟩:=gF b hb
   exact below b o (fi b o e)
  ·exact eC.nX b hb
 have loop:∀tk:Nat,codeAny (model X.prog X.w) X.A (.compLoop (.ListComp elt [⟨.Tuple [.Name x px,.Name y py] wN tp,iter,ifs,0⟩] scope pos) 0 (.ref it) (.ref D) (compEnvC scope cl s3.heap.objs.size X.env))
   (compPost (model X.prog X.w) X.A X.xe none (EP X pins σ Q) (.ref D) s3.heap.objs.size) {s3 with heap:=h₁,toks:=tk}:=fun tk=>by
  refine OC (fun n s'=>∃i ys o o2 H',Inv (X.bN N scope cl s3 (upd H2 D (.lst [])) fp) [] (o::o2::ρ σ) H' s'∧tn i s'.heap∧(∀b∈fp,H' b=none)∧W i n ys H') ?_ m0
   ⟨0,[],none,none,_,IB tk,T.keep _ _ _ fZ fun b hb o e=>dC _ _ (fi _ _ e),fun b hb=>by rw [aP (qb b hb)];exact (f2 b hb).1,w0⟩
  rintro n s4 ⟨i,ys,o,o2,H4,I4,j6,j7,w4⟩
  obtain ⟨Cj,qe⟩:=turn i n ys H4 w4
  rcases qe with ⟨stop,qn⟩ | ⟨go,step⟩
  ·refine bC (T.done (X.bN N scope cl s3 (upd H2 D (.lst [])) fp) rfl rfl rfl hc i [] s4 _ H4 (fun _ _=>False) I4 (fE j7) j6 stop) (fun r s5 ⟨hr,I5⟩=>?_) fun _ _ z=>z.elim
   subst hr
   exact fin I5 qn
  ·refine bC (T.item (X.bN N scope cl s3 (upd H2 D (.lst [])) fp) rfl rfl rfl hc i [] s4 _ H4 (fun _ _=>False) I4 (fE j7) j6 go) (fun r s5 ⟨u,hr,h5⟩=>?_) fun _ _ z=>z.elim
   subst hr
   refine bC h5 (fun _ s5 ⟨y0,H5,I5,r5,y5,fF,mI⟩=>?_) fun _ _ z=>z.elim
   obtain ⟨Tt,x1,x2,e0,OF,qf⟩:=step y0 _ y5
   subst e0
   have mJ:=I5.pinned (fE mI) (T.obj _ _ fF)
   have pg:PG (X.bN N scope cl s3 (upd H2 D (.lst [])) fp) (.Tuple [.Name x px,.Name y py] wN tp) (FE X.K 2 (BM (aO 0) (BM (aO 1) FD))):=
    pW (X:=X.bN N scope cl s3 (upd H2 D (.lst [])) fp) hc (iI (cy (i:=0) B.nd B.n0 (.inl (nI B.hx)) (.inr (nI B.hx))) (iI (cy (i:=1) B.nd B.n1 (.inl (nI B.hy)) (.inr (nI B.hy))) pV))
   have again:∀{σ7:St} {H7:Hp} {s7:Shared},Inv (X.bN N scope cl s3 (upd H2 D (.lst [])) fp) ([]++jv fp s5.heap) σ7 H7 s7→Inv (X.bN N scope cl s3 (upd H2 D (.lst [])) fp) [] σ7 H7 s7∧tn (i+1) s7.heap∧∀b∈fp,H7 b=none:=fun{σ7 H7 s7} I7=>by
    refine ⟨I7.pX,T.keep _ _ _ fF fun b hb o e=>(I7.pin (b,o) (dI _ (dI _ (k8 hb e)))).1,fun b hb=>?_⟩
    obtain ⟨o,e,d⟩:=T.obj _ _ fF b hb
    exact (I7.pin (b,o) (dI _ (dI _ (k8 hb e)))).2.1
   refine bC (pg _ s5 _ H5 (.ref Tt) u (fun σ2 H6=>σ2=some x1::some x2::ρ σ∧H6=H5) mJ r5 ⟨Tt,_,rfl,OF,rfl,_,_,rfl,_,_,rfl,rfl,rfl,rfl⟩) (fun _ s6 ⟨σ6,H6,I6,q6⟩=>?_) fun _ _ z=>z.elim
   obtain ⟨rfl,rfl⟩:=q6
   have tests:∀{hJ:TT},lG (X.bN N scope cl s3 (upd H2 D (.lst [])) fp) ifs hJ→∀{R:Bool→Hp→Prop},hJ (some x1::some x2::ρ σ) H6 R→wpAny (model X.prog X.w) X.A
     (forIn ifs true fun c r=>if r=true then do let ok ←isTrue c (compEnvC scope cl s3.heap.objs.size X.env) (eval c (compEnvC scope cl s3.heap.objs.size X.env));pure (ForInStep.yield ok) else pure (ForInStep.yield r))
     (fun ok s7=>∃H7,Inv (X.bN N scope cl s3 (upd H2 D (.lst [])) fp) ([]++jv fp s5.heap) (some x1::some x2::ρ σ) H7 s7∧R ok H7) (fun _ _=>False) s6:=fun{hJ} p {R} hR=>by
    cases p with
    | nil=>exact yo ⟨_,I6,hR⟩
    | one p=>exact yp (p _ s6 _ _ _ I6 hR)
   refine bC (tests (ht s3 _ fp) qf) (fun ok s7 ⟨H7,I7,q7⟩=>?_) fun _ _ z=>z.elim
   cases ok with
   | false=>
    obtain ⟨m',eE,w7⟩:=q7
    obtain ⟨a1,a2,a3⟩:=again I7
    exact ⟨m',eE,i+1,ys,_,_,H7,a1,a2,a3,w7⟩
   | true=>
    refine bC (he s3 _ fp _ s7 _ H7 _ I7 q7) (fun ev s8 ⟨z,H8,I8,r8,qg,hz,m',eE,w8⟩=>?_) fun _ _ z=>z.elim
    refine bC (gC (X:=X.bN N scope cl s3 (upd H2 D (.lst [])) fp) _ s8 _ H8 (.ref D) [z] (.ref D) [ev] (fun _ H9=>H9=upd H8 D (.lst (ys++[z]))) I8 rfl (.cons r8 .nil) ⟨D,ys,z,rfl,rfl,qg,hz,rfl⟩) (fun _ s9 ⟨_,H9,I9,_,q9⟩=>?_) fun _ _ z=>z.elim
    subst q9
    obtain ⟨a1,a2,a3⟩:=again I9
    exact ⟨m',eE,i+1,ys++[z],_,_,_,a1,a2,a3,w8⟩
 have start:=loop (s3.toks+([]:List (Str×Value)).length)
 have es:({s3 with heap:=h₁,toks:=s3.toks+([]:List (Str×Value)).length}:Shared)={s2 with heap:=h₁,toks:=s2.toks+([]:List (Str×Value)).length}:=by rw [←hG]
 rw [es] at start
 exact yq start (T.self _ 0 _ _ _ (T.keep _ _ _ fZ fun b hb o e=>dC _ _ (fi _ _ e)) start)
end
section
variable {X:Cx}
def anyR(K:aH):List V→Hp→VK→Prop:=fun xs H Q=>∃(p:Addr) (bs:List Bool),xs=[.ref p]∧bt K H p (bs.map V.bl)∧Q (.bl (bs.any id)) H
variable {K:aH}
theorem OG(hc:X.calm=true)(hK:X.K=K:=by rfl):e_ X (.builtin "any") (anyR K):=by
 intro pins s σ H xs us Q I r h;subst hK;obtain ⟨p,bs,rfl,hq,q⟩:=h;obtain ⟨u,rfl,ru⟩:=vals1 r;cases ru;obtain ⟨ak,rv,pl,hz⟩:=I.list hq;have qh:p≠s.heap.objs.size:=by obtain ⟨o,e,_⟩:=pl.isList;exact bL (aT e)
 have hl:ak.length=bs.length:=by rw [←rv.length,aD]
 refine call_any_walk (vH pl.isList ?_);refine ⟨s.heap.objs.size,_,_,_,_,_,fun i=>bs.getD i false,rfl,Walks.list (A:=X.A.in1) (show X.A.in1.handled=none from I.ok.hd hc) s.heap.objs.size p qh ak.toArray,⟨⟨_,dH _ rfl,rfl,rfl⟩,pl.isList.push _⟩,fun i v s' Q' E' hv Cm=>?_,fun h' tk hk=>?_⟩
 ·have gG:ak[i]?=some v:=by simpa using hv
  cases eb:bs[i]? with
  | none=>
   have:=rv.none_of (i:=i) (by rw [bP,eb];rfl)
   rw [this] at gG;cases gG
  | some b=>
   obtain ⟨u,hu,ru⟩:=rv.get (i:=i) (x:=V.bl b) (by rw [bP,eb];rfl)
   rw [hu] at gG;cases gG;cases ru;have e:bs.getD i false=b:=by rw [dB,eb];rfl
   have wH:Q' (bs.getD i false) s':=Cm;rw [e] at wH;exact md wH
 ·refine ⟨.bl (bs.any id),H,I.kept fun b o e=>hk b o (fun z=>?_) (bX _ e),?_,q⟩
  ·exact absurd (aT e) (by rw [bY.mp z];exact dG _)
  ·show Value.bool _=Value.bool _
   congr 1
   rw [bR,hl];clear hk q rv pl hz hl hq
   induction bs with
   | nil=>rfl
   | cons b bs ih=>rw [eB,List.range_succ_eq_map,o9,List.any_map,o9];show (b || (List.range bs.length).any fun i=>bs.getD i false)=(b || bs.any id);rw [ih]
def OH(K:aH):List V→Hp→VK→Prop:=fun xs H Q=>∃(p:Addr) (ns:List Int),xs=[.ref p]∧bt K H p (ns.map V.int)∧Q (.int ns.sum) H
theorem OI:∀(ns:List Int),preSum (fun i=>ns.getD i 0) ns.length=ns.sum:=by
 intro ns;have key:∀k,k≤ns.length→preSum (fun i=>ns.getD i 0) k=(ns.take k).sum:=by
  intro k
  induction k with
  | zero=>intro _;rfl
  | succ k ih=>
   intro hk;show preSum (fun i=>ns.getD i 0) k+ns.getD k 0=_;rw [ih (by omega),List.take_add_one,List.sum_append]
   have e:ns[k]?=some ns[k]:=by simp [show k<ns.length by omega]
   rw [dB,e];simp
 rw [key ns.length (ax _),gp]
theorem OJ(hc:X.calm=true)(hK:X.K=K:=by rfl):e_ X (.builtin "sum") (OH K):=by
 intro pins s σ H xs us Q I r h;subst hK;obtain ⟨p,ns,rfl,hq,q⟩:=h;obtain ⟨u,rfl,ru⟩:=vals1 r;cases ru;obtain ⟨ak,rv,pl,hz⟩:=I.list hq;have qh:p≠s.heap.objs.size:=by obtain ⟨o,e,_⟩:=pl.isList;exact bL (aT e)
 have hl:ak.length=ns.length:=by rw [←rv.length,aD]
 refine call_sum_walkG (vH pl.isList ?_);refine ⟨s.heap.objs.size,_,_,_,_,_,fun i=>ns.getD i 0,rfl,Walks.list (A:=X.A.in1) (show X.A.in1.handled=none from I.ok.hd hc) s.heap.objs.size p qh ak.toArray,⟨⟨_,dH _ rfl,rfl,rfl⟩,pl.isList.push _⟩,?_,fun i v hv=>?_,fun h' tk t' hk=>?_⟩
 ·intro b hb
  rw [Heap.size_push];simp only [cf,ph,or_false] at hb;rcases hb with rfl | rfl;·exact Nat.lt_succ_self _
  ·obtain ⟨o,e,_⟩:=pl.isList
   exact kM (aT e)
 ·have gG:ak[i]?=some v:=by simpa using hv
  cases eb:ns[i]? with
  | none=>
   have:=rv.none_of (i:=i) (by rw [bP,eb];rfl)
   rw [this] at gG;cases gG
  | some b=>
   obtain ⟨u,hu,ru⟩:=rv.get (i:=i) (x:=V.int b) (by rw [bP,eb];rfl)
   rw [hu] at gG;cases gG;obtain ⟨t,rfl⟩:=ru;exact ⟨t,by show Value.int b t=Value.int (ns.getD i 0) t;rw [dB,eb];rfl⟩
 ·refine ⟨.int ns.sum,H,I.kept fun b o e=>hk b o (fun z=>?_) (bX _ e),⟨t',?_⟩,q⟩
  ·exact absurd (aT e) (by rw [bY.mp z];exact dG _)
  ·congr 1
   rw [bR,hl];exact OI ns
end
theorem boot_any:bootBuiltins "any"=some (.builtin "any"):=by decide +kernel
theorem boot_sum:bootBuiltins "sum"=some (.builtin "sum"):=by decide +kernel
abbrev Cx.hV (X:Cx) (N:List Str) (scope:Scope) (cl:List (Str×Addr)) (x:Str) (s₃:Shared) (H₃:Hp) (fp:List Addr):Cx:=
 {X with N:=N,s₀:=s₃,H₀:=H₃,env:=compEnvC scope ((x,s₃.heap.objs.size+1)::cl) s₃.heap.objs.size X.env,outer:=X.stack,stack:=X.stack,ex:=fp,fn:=fun y=>y == x,pn:=[],xe:=fun _ _=>False}
section
variable {M:Model} {A:Around} {E:aK} {s:Shared}
theorem OK{scope:Scope}{globals:Addr}{cl:List (Str×Addr)}{qual x:Str}{env:Env}{Q:Env→Shared→Prop}
  (c1:∀n,cellsFrom n scope.names cl=(x,n)::cl) (p1:∀h:Heap,pushCells h scope.names=h.push {cls:=.type "cell",data:=.cell none})
  (hQ:Q (newEnv scope s.heap.objs.size globals ((x,s.heap.objs.size+1)::cl) qual none .none (some env) builtinsNs) {s with heap:=(s.heap.push {cls:=.type "dict",data:=.dict #[]}).push {cls:=.type "cell",data:=.cell none}}) :
  wpAny M A (newFunctionEnv scope globals cl [] qual none .none (some env)) Q E s:=by
 simp only [newFunctionEnv,Option.isSome_some,jS];refine aC (wpAny_alloc ?_);refine aC (wpAny_layCells _ (fun name kind cells=>by cases OL:kind == NameKind.cell <;> simp [OL]) _ _ _ _ ?_)
 rw [show ({s with heap:=s.heap.push {cls:=.type "dict",data:=.dict #[]}}:Shared).heap.objs.size=s.heap.objs.size+1 from Heap.size_push ..,c1,p1];exact aC (bE (bE hQ))
end
section
variable {X:Cx} {N:List Str} {scope:Scope} {cl:List (Str×Addr)} {x:Str} {px pos:Pos} {iter elt:Expr} {ifs:List Expr} {wi:TI} {ρ:St→St} {tt:TT} {te:TE}
theorem OM{names:List (Str×NameKind)}(h:(names.all fun q=>(q.2 != .cell && q.2 != .free) || ((cl.lookup q.1).isSome || q.1 == x))=true) :
  ∀y,y≠x→(names.lookup y=some .cell∨names.lookup y=some .free)→∃c,cl.lookup y=some c:=fun y hx hy=>by
 have key:∀k:NameKind,(k != .cell && k != .free)=false→names.lookup y=some k→∃c,cl.lookup y=some c:=fun k hk e=>by have z:=mf.mp h (y,k) (jR e);rw [hk,Bool.false_or,show ((y,k).1 == x)=false from sF.mpr hx,Bool.or_false] at z;exact Bn.mp z
 rcases hy with e | e;·exact key .cell rfl e
 ·exact key .free rfl e
structure ON (X:Cx) (N:List Str) (scope:Scope) (cl:List (Str×Addr)) (x:Str) (ρ:St→St):Prop where
 tN:closureFor scope X.env=pure cl
 kind:scope.kind=.function
 OO:∀n,cellsFrom n scope.names cl=(x,n)::cl
 OP:∀h:Heap,pushCells h scope.names=h.push {cls:=.type "cell",data:=.cell none}
 names:∀y∈scope.names,y.2=.local→scope.names.lookup y.1=some .local
 sub:∀p∈cl,X.env.cells.lookup p.1=some p.2
 has:∀y,y≠x→((relabel scope X.env).names.lookup y=some .cell∨(relabel scope X.env).names.lookup y=some .free)→∃c,cl.lookup y=some c
 n0:N[0]?=some x
 nd:N.Nodup
 OQ:(relabel scope X.env).names.lookup x=some .cell
 tO:∀(σ:St) (j:Nat) (v:V),(ρ σ)[j]?=some (some v)→∃(i:Nat) (y:Str),N[j+1]?=some y∧X.N[i]?=some y∧σ[i]?=some (some v)∧nV X.env.scope y∧(X.env.kindOf y=some .cell∨X.env.kindOf y=some .free)∧((relabel scope X.env).names.lookup y=some .cell∨(relabel scope X.env).names.lookup y=some .free)
 len:∀σ:St,σ.length=X.N.length→(ρ σ).length+1=N.length
end
theorem GK{v:V}(h:jy v=true):i6 v v=true:=by
 cases v with
 | aN=>rfl
 | bl b=>show (b == b)=true;simp
 | int i=>show (i == i)=true;simp
 | str x=>show (x == x)=true;simp
 | _=>cases h
theorem all_range(n:Nat):(List.range n).all (fun _=>true)=true:=by simp
section
variable {X:Cx} {pins:aQ} {σ:St} {H:Hp} {s:Shared}
end
section
variable {X:Cx}
end
section
variable {X:Cx} {N:List Str} {scope:Scope} {cl:List (Str×Addr)} {x:Str} {px pos:Pos} {iter elt:Expr} {ifs:List Expr} {wi:TI} {ρ:St→St} {tt:TT} {te:TE}
theorem OR{y:Str}{py wM:Pos}{i0:Nat}(B:ON X N scope cl x ρ)(hc:X.calm=true)(hN:X.N.Nodup)(Co:X.N[i0]?=some y)(hy:Loc X.env.scope y)(hi:PI X (.Name x px) iter wi)(ht:∀s₃ H₃ fp,lG (X.hV N scope cl x s₃ H₃ fp) ifs tt)(he:∀s₃ H₃ fp,PE (X.hV N scope cl x s₃ H₃ fp) elt te)
  (Cp:swapsWith (.ListComp elt [⟨.Name x px,iter,ifs,0⟩] scope pos) (some (.Name y py)) wM.line X.env=pure true:=by rfl) (hf:X.fn y=true∨X.env.scope.names.lookup y=some .local:=by first | exact .inl rfl | exact .inr rfl | assumption)
  (hs:∀x,foldedSetIterable iter X.env x=pure x:=by intro _;rfl):PS X (.Assign [.Name y py] (.ListComp elt [⟨.Name x px,iter,ifs,0⟩] scope pos) wM) (n8 (gD wi ρ tt te) (aO i0)):=by
 intro pins s σ H D0 I h
 have h:gD wi ρ tt te σ H (fun v H1=>D0.nx (σ.set i0 (some v)) H1):=h
 rw [exec_Assign_Name_used _ _ _ _ Cp]
 refine aC (o6 (aC ?_))
 show wpAny _ X.A (do let _ ←comprehension (.ListComp elt [⟨.Name x px,iter,ifs,0⟩] scope pos) scope X.env _ (newList []) false (eval iter X.env) (some (assign (.Name y py) X.env))) _ _ s
 refine aC (bC (Q:=fun _ s'=>SP X pins D0 .next s') ?_ (fun _ s' hq=>bE (bE hq)) fun _ _ e=>e)
 refine yn (use:=some (assign (.Name y py) X.env)) rfl hs B.tN B.kind B.names (aM (hi pins s σ H _ I h) fun v s1 h1=>aM h1 fun tD s2 h2=>?_)
 obtain ⟨it,fp,tn,J,H2,rfl,I2,T,fZ,f2,q2⟩:=h2
 have nD:H2 s2.heap.objs.size=none:=I2.ay.fresh (ax _)
 obtain ⟨W,⟨m0,w0⟩,turn⟩:=q2 _ nD
 refine sL (OK B.OO B.OP ?_)
 dsimp only
 generalize hD:s2.heap.objs.size=D at nD w0 turn ⊢
 generalize hG:({s2 with heap:=s2.heap.push {cls:=.type "list",dict:=none,data:=.seq ([]:List Value).toArray}}:Shared)=s3
 have I3:Inv X pins σ (upd H2 D (.lst [])) s3:=by
  subst hD hG
  exact I2.laid (t':=s2.toks) (fun b u e=>bX _ e) (ax _) ⟨ba _,[],_,.nil,dH _ rfl⟩
 have e3:s3.heap=s2.heap.push {cls:=.type "list",dict:=none,data:=.seq ([]:List Value).toArray}:=by rw [←hG]
 have fi:∀b o,s2.heap.get? b=some o→s3.heap.get? b=some o:=fun b o e=>by rw [e3];exact bX _ e
 rw [←e3]
 obtain ⟨h₁,eh⟩:∃h₁,h₁=(s3.heap.push {cls:=.type "dict",data:=.dict #[]}).push {cls:=.type "cell",data:=.cell none}:=⟨_,rfl⟩
 rw [←eh]
 have gE:h₁.Ns s3.heap.objs.size (fun _=>none):=by
  rw [eh]
  exact (Heap.Ns.new s3.heap (.type "dict")).keeps fun b o e=>bX _ e
 have OS:(s3.heap.push {cls:=.type "dict",data:=.dict #[]}).objs.size=s3.heap.objs.size+1:=Heap.size_push ..
 have OT:h₁.IsCell (s3.heap.objs.size+1) none:=by
  rw [eh,←OS]
  exact ⟨_,dH _ rfl,rfl⟩
 have below:∀b o,s3.heap.get? b=some o→b≠s3.heap.objs.size:=fun b o e=>bL (aT e)
 have dC:∀b o,s3.heap.get? b=some o→h₁.get? b=some o:=fun b o e=>by rw [eh];exact bX _ (bX _ e)
 have gF:∀b∈fp,∃o,s2.heap.get? b=some o∧∀v,o.data≠.cell v:=T.obj _ _ fZ
 have qb:∀b∈fp,b≠D:=fun b hb z=>by
  obtain ⟨o,e,_⟩:=gF b hb
  rw [z,←hD] at e
  exact absurd (aT e) (dG _)
 have cV:∀y c,cl.lookup y=some c→X.env.cells.lookup y=some c:=fun y c e=>B.sub (y,c) (jR e)
 have GL:∀y c,cl.lookup y=some c→c<s3.heap.objs.size:=fun y c e=>by
  obtain ⟨v,o,eo,_⟩:=I3.cell y c (cV y c e)
  exact aT eo
 have lk:∀y c,((x,s3.heap.objs.size+1)::cl).lookup y=some c→(y=x∧c=s3.heap.objs.size+1)∨(y≠x∧cl.lookup y=some c):=fun y c e=>by
  by_cases z:y=x
  ·subst z
   rw [yt,yr] at e
   exact .inl ⟨rfl,(Option.some.inj e).symm⟩
  ·rw [yt,sF.mpr z] at e
   exact .inr ⟨z,e⟩
 have GN:∀y c,y≠x→cl.lookup y=some c→((x,s3.heap.objs.size+1)::cl).lookup y=some c:=fun y c z e=>by
  rw [yt,sF.mpr z]
  exact e
 have GO:∀b∈fp,b<s3.heap.objs.size:=fun b hb=>by
  obtain ⟨o,e,_⟩:=gF b hb
  exact aT (fi b o e)
 have qc:=I3.tm
 have eC:(X.hV N scope cl x s3 (upd H2 D (.lst [])) fp).Ok:=by
  refine ⟨I.ok.mod,B.kind,I.ok.glob,I.ok.blt,ax _,fun a b c e1 e2=>?inj,fun y hy=>?has,(fun y c z e=>?pM),(fun _=>I.ok.hd hc),I.ok.frames,.inl rfl,fun b hb=>⟨?_,fun y c e z=>?_⟩,fun b o e=>?_,a9 I.ok.iG I3.sz,fun b o e hb=>?_,fun b hb z=>?_,I3.stack,qc⟩
  case inj=>
   rcases lk a c e1 with ⟨z1,OU⟩ | ⟨_,f1⟩ <;> rcases lk b _ e2 with ⟨z2,ec⟩ | ⟨_,GP⟩
   ·rw [z1,z2]
   ·have:=GL _ _ GP
    rw [OU] at this
    exact absurd this (Nat.not_lt.mpr (iE _))
   ·have:=GL _ _ f1
    rw [ec] at this
    exact absurd this (Nat.not_lt.mpr (iE _))
   ·exact I.ok.inj a b c (cV a c f1) (cV b c GP)
  case has=>
   by_cases z:y=x
   ·subst z
    exact ⟨_,by rw [show (compEnvC scope ((y,s3.heap.objs.size+1)::cl) s3.heap.objs.size X.env).cells=(y,s3.heap.objs.size+1)::cl from rfl,yt,yr]⟩
   ·obtain ⟨c,ec⟩:=B.has y z hy
    exact ⟨c,GN y c z ec⟩
  case pM=>
   have z:y=x:=by simpa using z
   rcases lk y c e with ⟨_,rfl⟩ | ⟨z',_⟩
   ·exact iE _
   ·exact absurd z z'
  ·obtain ⟨o,e,_⟩:=gF b hb
   exact below b o (fi b o e)
  ·rcases lk y c e with ⟨rfl,rfl⟩ | ⟨_,e⟩
   ·rw [←z] at hb
    exact absurd (GO _ hb) (Nat.not_lt.mpr (iE _))
   ·exact (f2 b hb).2.2.2.2.1 y c (cV y c e) z
  ·exact I3.bs b o e
  ·rcases (f2 b hb).2.2.2.1 with z | z
   ·exact I.ok.nW b o e z
   ·exact absurd (dA (aT e) (a9 I.ok.iG z)) (dG _)
  ·rcases cf.mp (I3.tj b z) with z | z
   ·exact (f2 b hb).2.1 z
   ·exact (f2 b hb).2.2.1 z
 have IB:∀tk:Nat,Inv (X.hV N scope cl x s3 (upd H2 D (.lst [])) fp) [] (none::ρ σ) (upd H2 D (.lst [])) {s3 with heap:=h₁,toks:=tk}:=fun tk=>by
  refine ⟨eC,rfl,I3.bare,Un.kept dC,⟨_,gE,fun j y v e1 e2 e3=>?_⟩,fun y c e=>?_,?_,fun y c e=>?fC,(fun p hp=>nomatch hp),I3.ay.kept dC,?_⟩
  ·cases j with
   | zero=>cases e2
   | succ j=>
    obtain ⟨i,y',a1,a2,a3,a4,a5,a6⟩:=B.tO σ j v e2
    have lH:N[j+1]?=some y:=e1
    rw [lH] at a1
    cases a1
    obtain ⟨m,hn,hl⟩:=I3.loc
    obtain ⟨u,r,l⟩:=hl i y v a2 a3 a4
    refine ⟨u,r,.inr ⟨a6,?_⟩⟩
    have yx:y≠x:=fun z=>by
     have n0:=B.n0
     rw [←z] at n0
     have:=(List.getElem?_inj (bM.mp n0).1 B.nd).mp (n0.trans lH.symm)
     omega
    obtain ⟨c,ec⟩:=B.has y yx a6
    rcases l with ⟨k,_⟩ | ⟨_,c',j4,z⟩
    ·rcases a5 with q | q <;> (rw [k] at q;cases q)
    ·have:=cV y c ec
     rw [this] at j4
     cases j4
     obtain ⟨o,ho,hd⟩:=z
     exact ⟨c,GN y c yx ec,o,dC _ _ ho,hd⟩
  case fC=>
   rcases lk y c e with ⟨rfl,rfl⟩ | ⟨_,e⟩
   ·exact I3.ay.fresh (iE _)
   ·exact I3.i3 y c (cV y c e)
  ·rcases lk y c e with ⟨rfl,rfl⟩ | ⟨_,e⟩
   ·exact ⟨none,OT⟩
   ·obtain ⟨v,o,ho,hd⟩:=I3.cell y c (cV y c e)
    exact ⟨v,o,dC _ _ ho,hd⟩
  ·exact I3.ay.fresh (ax _)
  ·show (none::ρ σ).length=N.length
   rw [eB]
   exact B.len σ I.len
 have qi:∀b o,s3.heap.get? b=some o→b≠s3.heap.objs.size:=below
 have fin:∀{σ':St} {H':Hp} {s':Shared},Inv (X.hV N scope cl x s3 (upd H2 D (.lst [])) fp) [] σ' H' s'→D0.nx (σ.set i0 (some (.ref D))) H'→compPost (model X.prog X.w) X.A X.xe (some (assign (.Name y py) X.env)) (fun _ s'=>SP X pins D0 .next s') (.ref D) s3.heap.objs.size (.ok .next) s':=fun{σ' H' s'} J q=>by
  obtain ⟨m,hn,_⟩:=J.loc
  have hn:s'.heap.Ns s3.heap.objs.size m:=hn
  have JC:H' s3.heap.objs.size=none:=J.free
  have u1:Un (cJ X.stack) fp (upd H2 D (.lst [])) H' s3.heap s'.heap:=by
   refine ⟨fun b o e n hb hx=>J.base.keep b o e n hb hx,fun b o e n hb hx=>J.base.slot b o e n hb hx,J.base.free,fun b o e hx=>J.base.there b o e hx,J.base.gr,J.base.fY,J.base.gu⟩
  have IX:Inv X pins σ H' s':=I3.n4 (ch:=fp) (J.os) u1 J.ay J.bare fun b hb=>by
   obtain ⟨g0,g1,g2,g3,g4,g5⟩:=f2 b hb
   exact ⟨g3,g1,g4,g5⟩
  have nl:X.env.locals≠s3.heap.objs.size:=by
   obtain ⟨m3,⟨o3,_,_,e3,_⟩,_⟩:=I3.loc
   exact qi _ _ e3
  have nc:∀z c,X.env.cells.lookup z=some c→c≠s3.heap.objs.size:=fun z c e=>by
   obtain ⟨v3,o3,e3,_⟩:=I3.cell z c e
   exact qi _ _ e3
  refine wpAny_assign_Name (BG (v:=.ref D) IX hN Co hy rfl (fun eQ qj qo=>?_) hf)
  obtain ⟨a,qo,ha⟩:=qo
  have na:s3.heap.objs.size≠a:=by
   rcases ha with rfl | e
   ·exact fun z=>nl z.symm
   ·exact fun z=>nc _ _ e z.symm
  refine ⟨m,hn.sameBut qo na,fun h' fH=>⟨σ.set i0 (some (.ref D)),H',?_,q⟩⟩
  have u2:Un (cJ X.stack) [s3.heap.objs.size] H' H' eQ.heap h':=by
   refine ⟨fun b o e n hb hx=>(fH.2 b (by simpa using hx)).trans e,fun b o e n hb hx=>⟨o.slots,(fH.2 b (by simpa using hx)).trans e⟩,fun b o e n hx=>n,fun b o e hx=>⟨o,(fH.2 b (by simpa using hx)).trans e⟩,fun b xs z=>z,fun b o u z=>z,fun b ps z=>⟨#[],by simpa using z⟩⟩
  have qd:cj X.prog X.w H' h':=fun b u e=>by
   refine (qj.ay b u e).jt (fun c v hc z=>(fH.2 c fun y=>?_).trans z) (fun _ z=>z) fun _ _ z=>z
   have y':c=s3.heap.objs.size:=y
   rcases hc with hc | hc
   ·rw [←hc,y',JC] at e
    cases e
   ·rw [y',JC] at hc
    cases hc
  refine qj.n4 (s':={eQ with heap:=h'}) (ch:=[s3.heap.objs.size]) rfl u2 qd qj.bare fun b hb=>?_
  have eb:b=s3.heap.objs.size:=by simpa using hb
  subst eb
  refine ⟨.inr I3.sz,fun z=>nl z.symm,fun z c e=>nc z c e,fun p hp=>?_⟩
  exact qi _ _ (I3.pin p hp).1
 have fE:∀{H':Hp},(∀b∈fp,H' b=none)→∀b∈fp,k6 (X.hV N scope cl x s3 (upd H2 D (.lst [])) fp) [] H' b:=fun hn b hb=>by
  refine ⟨hn b hb,?_,?_,.inl hb,fun y c e z=>?sc,fun p hp=>nomatch hp⟩
  case sc=>
   rcases lk y c e with ⟨rfl,rfl⟩ | ⟨_,e⟩
   ·rw [←z] at hb
    exact absurd (GO _ hb) (Nat.not_lt.mpr (iE _))
   ·exact (f2 b hb).2.2.2.2.1 y c (cV y c e) z
  ·obtain ⟨o,e,_⟩:=gF b hb
   exact below b o (fi b o e)
  ·exact eC.nX b hb
 have loop:∀tk:Nat,codeAny (model X.prog X.w) X.A (.compLoop (.ListComp elt [⟨.Name x px,iter,ifs,0⟩] scope pos) 0 (.ref it) (.ref D) (compEnvC scope ((x,s3.heap.objs.size+1)::cl) s3.heap.objs.size X.env))
   (compPost (model X.prog X.w) X.A X.xe (some (assign (.Name y py) X.env)) (fun _ s'=>SP X pins D0 .next s') (.ref D) s3.heap.objs.size) {s3 with heap:=h₁,toks:=tk}:=fun tk=>by
  refine Bu (fun n s'=>∃i ys o H',Inv (X.hV N scope cl x s3 (upd H2 D (.lst [])) fp) [] (o::ρ σ) H' s'∧tn i s'.heap∧(∀b∈fp,H' b=none)∧W i n ys H') ?_ m0
   ⟨0,[],none,_,IB tk,T.keep _ _ _ fZ fun b hb o e=>dC _ _ (fi _ _ e),fun b hb=>by rw [aP (qb b hb)];exact (f2 b hb).1,w0⟩
  rintro n s4 ⟨i,ys,o,H4,I4,j6,j7,w4⟩
  obtain ⟨Cj,qe⟩:=turn i n ys H4 w4
  rcases qe with ⟨stop,qn⟩ | ⟨go,step⟩
  ·refine bC (T.done (X.hV N scope cl x s3 (upd H2 D (.lst [])) fp) rfl rfl rfl hc i [] s4 _ H4 (fun _ _=>False) I4 (fE j7) j6 stop) (fun r s5 ⟨hr,I5⟩=>?_) fun _ _ z=>z.elim
   subst hr
   exact fin I5 qn
  ·refine bC (T.item (X.hV N scope cl x s3 (upd H2 D (.lst [])) fp) rfl rfl rfl hc i [] s4 _ H4 (fun _ _=>False) I4 (fE j7) j6 go) (fun r s5 ⟨u,hr,h5⟩=>?_) fun _ _ z=>z.elim
   subst hr
   have z:letOwnedTupleGo (.Name x px) (.ref it) u=pure ():=rfl
   rw [z] at h5
   show wpAny _ _ ((pure ():Sem Unit) >>= fun _=>assign (.Name x px) (compEnvC scope ((x,s3.heap.objs.size+1)::cl) s3.heap.objs.size X.env) u) _ _ s5
   refine aC (bC h5 (fun _ s5 ⟨y,H5,I5,r5,y5,fF,mI⟩=>?_) fun _ _ z=>z.elim)
   have mJ:=I5.pinned (fE mI) (T.obj _ _ fF)
   have pg:PG (X.hV N scope cl x s3 (upd H2 D (.lst [])) fp) (.Name x px) (aO 0):=cy (i:=0) B.nd B.n0 (.inr B.OQ) (.inl (by show (x == x)=true;simp))
   have again:∀{σ7:St} {H7:Hp} {s7:Shared},Inv (X.hV N scope cl x s3 (upd H2 D (.lst [])) fp) ([]++jv fp s5.heap) σ7 H7 s7→Inv (X.hV N scope cl x s3 (upd H2 D (.lst [])) fp) [] σ7 H7 s7∧tn (i+1) s7.heap∧∀b∈fp,H7 b=none:=fun{σ7 H7 s7} I7=>by
    refine ⟨I7.pX,T.keep _ _ _ fF fun b hb o e=>(I7.pin (b,o) (dI _ (dI _ (k8 hb e)))).1,fun b hb=>?_⟩
    obtain ⟨o,e,d⟩:=T.obj _ _ fF b hb
    exact (I7.pin (b,o) (dI _ (dI _ (k8 hb e)))).2.1
   refine bC (pg _ s5 _ H5 y u (fun σ2 H6=>σ2=some y::ρ σ∧H6=H5) mJ r5 ⟨rfl,rfl⟩) (fun _ s6 ⟨σ6,H6,I6,q6⟩=>?_) fun _ _ z=>z.elim
   obtain ⟨rfl,rfl⟩:=q6
   have qf:=step y _ y5
   have tests:∀{hJ:TT},lG (X.hV N scope cl x s3 (upd H2 D (.lst [])) fp) ifs hJ→∀{R:Bool→Hp→Prop},hJ (some y::ρ σ) H6 R→wpAny (model X.prog X.w) X.A
     (forIn ifs true fun c r=>if r=true then do let ok ←isTrue c (compEnvC scope ((x,s3.heap.objs.size+1)::cl) s3.heap.objs.size X.env) (eval c (compEnvC scope ((x,s3.heap.objs.size+1)::cl) s3.heap.objs.size X.env));pure (ForInStep.yield ok) else pure (ForInStep.yield r))
     (fun ok s7=>∃H7,Inv (X.hV N scope cl x s3 (upd H2 D (.lst [])) fp) ([]++jv fp s5.heap) (some y::ρ σ) H7 s7∧R ok H7) (fun _ _=>False) s6:=fun{hJ} p {R} hR=>by
    cases p with
    | nil=>exact yo ⟨_,I6,hR⟩
    | one p=>exact yp (p _ s6 _ _ _ I6 hR)
   refine bC (tests (ht s3 _ fp) qf) (fun ok s7 ⟨H7,I7,q7⟩=>?_) fun _ _ z=>z.elim
   cases ok with
   | false=>
    obtain ⟨m',eE,w7⟩:=q7
    obtain ⟨a1,a2,a3⟩:=again I7
    exact ⟨m',eE,i+1,ys,_,H7,a1,a2,a3,w7⟩
   | true=>
    refine bC (he s3 _ fp _ s7 _ H7 _ I7 q7) (fun ev s8 ⟨z,H8,I8,r8,qg,hz,m',eE,w8⟩=>?_) fun _ _ z=>z.elim
    refine bC (gC (X:=X.hV N scope cl x s3 (upd H2 D (.lst [])) fp) _ s8 _ H8 (.ref D) [z] (.ref D) [ev] (fun _ H9=>H9=upd H8 D (.lst (ys++[z]))) I8 rfl (.cons r8 .nil) ⟨D,ys,z,rfl,rfl,qg,hz,rfl⟩) (fun _ s9 ⟨_,H9,I9,_,q9⟩=>?_) fun _ _ z=>z.elim
    subst q9
    obtain ⟨a1,a2,a3⟩:=again I9
    exact ⟨m',eE,i+1,ys++[z],_,_,a1,a2,a3,w8⟩
 have start:=loop s3.toks
 have es:({s3 with heap:=h₁,toks:=s3.toks}:Shared)={s2 with heap:=h₁}:=by rw [←hG]
 rw [es] at start
 exact yq start (T.self _ 0 _ _ _ (T.keep _ _ _ fZ fun b hb o e=>dC _ _ (fi _ _ e)) start)
end
theorem ou(d6:∀R:It→Hp→Prop,(∀J H1,aj H H1→j8 J xs H1→R J H1)→wi σ H R)(hn:xs.length<sizeLine)
  (P:Addr→Nat→V→Hp→Prop) (mono:∀D i y H H' ys,P D i y H→H D=some (.lst ys)→(∀b o,b≠D→H b=some o→H' b=some o)→P D i y H')
  (step:∀D i x,xs[i]?=some x→∀(Hc:Hp) (R:VK),aj H Hc→(∃ys,Hc D=some (.lst ys))→(∀y H3,aj Hc H3→P D i y H3→R y H3)→te (some x::ρ σ) Hc R)
  (fin:∀D ys Hc,H D=none→aj H Hc→ys.length=xs.length→(∀(i:Nat) (y:V),ys[i]?=some y→P D i y Hc)→Hc D=some (.lst ys)→Q (.ref D) Hc):gD wi ρ (fun _ H Q=>Q true H) te σ H Q:=by
 refine d6 _ fun J H1 s1 js=>?_;intro D nD;have hD:H D=none:=by
  cases e:H D with
  | none=>rfl
  | some o=>rw [s1 _ _ e] at nD;cases nD
 exact GG (ρσ:=ρ σ) (te:=te) (Q:=Q) js nD hn (P D) (mono D) (fun i x hx Hc R sc=>step D i x hx Hc R (s1.trans sc)) (fun ys Hc sc=>fin D ys Hc hD (s1.trans sc))
section
variable {X:Cx} {K:aH}
theorem OV(hK:X.K=K:=by rfl):tG X (Gf K):=by subst hK;exact dN
theorem zo(hK:X.K=K:=by rfl):tG X (Ge K):=by subst hK;exact cL
def OW(K:aH):List V→Hp→VK→Prop:=fun xs H Q=>∃p ys,xs=[.ref p]∧(bt K H p ys∨dU K H p ys)∧Q (.int (ys.length:Int)) H
theorem OX(hK:X.K=K:=by rfl):e_ X (.builtin "len") (OW K):=by subst hK;exact gA
theorem OY{tg l:Expr}{tl:TE}(hl:PE X l tl)(hK:X.K=K:=by rfl):PI X tg l (FF K tl):=by subst hK;exact dM hl
end
end L2
namespace My
open PySem L2
variable {te:TE} {σ:St} {H:Hp} {Q:VK}
theorem qq{r:List V→Hp→VK→Prop}(h:te σ H fun x H1=>r [x] H1 Q):wg r (tE te wd) σ H Q:=h
theorem wO{D:Ends}(h:te σ H D.rt):FA te D σ H:=h
theorem OZ{c:TT}{t u:TS}{D:Ends}(h:c σ H fun b H1=>if b=true then t D σ H1 else u D σ H1):yO c t u D σ H:=h
theorem O0{vs:List V}{b:Bool}(h:∀(i:Nat) (v:V),vs[i]?=some v→v=.bl b):vs=(List.replicate vs.length b).map V.bl:=by
 refine List.ext_getElem? fun i=>?_;rw [bP];by_cases hi:i<vs.length
 ·rw [show vs[i]?=some vs[i] by simp [hi],h i vs[i] (by simp [hi])]
  simp [hi]
 ·rw [Bv (by omega),Bv (by simp;omega)]
  rfl
theorem O1(n:Nat):(List.replicate n true).all id=true:=by simp
variable {i:Nat}
theorem O2{n:Nat}{v:V}(h:((List.range n).map fun i:Nat=>V.int (0+(i:Int)))[i]?=some v):i<n∧v=.int (i:Int):=by
 have aV:i<n:=by have:=(bM.mp h).1;simpa using this
 refine ⟨aV,?_⟩;rw [bP] at h;simp [aV] at h;exact h.symm
variable {H':Hp} {b:Addr}
theorem none_of(s:aj H H')(h:H' b=none):H b=none:=by
 cases e:H b with
 | none=>rfl
 | some o=>rw [s _ _ e] at h;cases h
theorem getD_at{α:Type}{xs:List α}{d:α}(hi:i<xs.length):xs.getD i d=xs[i]:=by
 rw [dB,show xs[i]?=some xs[i] by simp [hi]]
 rfl
def er(P:Addr)(H:Hp):Hp:=fun b=>if b=P then none else H b
variable {P:Addr}
theorem zp:aj (er P H) H:=fun b o e=>by
 unfold er at e
 split at e
 ·cases e
 ·exact e
theorem eR(h:b≠P):er P H b=H b:=aa h
variable {o:HO}
theorem Cq(h:b≠P)(e:H b=some o):er P H b=some o:=by rw [eR h];exact e
theorem zq(s:aj H H'):aj (er P H) (er P H'):=fun b o e=>by
 unfold er at e ⊢
 split at e
 ·cases e
 ·rename_i h
  rw [aa h];exact s _ _ e
theorem GQ:er P (upd H P o)=er P H:=funext fun b=>by
 unfold er
 split
 ·rfl
 ·rename_i h
  exact aP h
def bO(H:Hp)(P a:Addr):Prop:=∃x y:Int,H P=some (.lst [.ref a,.int x,.int y])∧0≤x∧0≤y
variable {a:Addr}
theorem bO.mono(h:bO H P a)(s:aj H H'):bO H' P a:=by obtain ⟨x,y,e,h1,h2⟩:=h;exact ⟨x,y,s _ _ e,h1,h2⟩
variable {D:Addr}
theorem bO.upd(h:bO H P a)(n:D≠P):bO (L2.upd H D o) P a:=by obtain ⟨x,y,e,h1,h2⟩:=h;exact ⟨x,y,by rw [aP n.symm];exact e,h1,h2⟩
theorem bO.ne(h:bO H P a)(n:H D=none):D≠P:=fun z=>by obtain ⟨x,y,e,_⟩:=h;rw [z,e] at n;cases n
def aF(P:Addr)(H H':Hp):Prop:=aj (er P H) (er P H')
theorem aF.refl(H:Hp):aF P H H:=aj.refl _
theorem aF.trans{H2:Hp}(s:aF P H H')(t:aF P H' H2):aF P H H2:=aj.trans s t
theorem aF.of(s:aj H H'):aF P H H':=zq s
theorem aF.lJ:aF P H (upd H P o):=by unfold aF;rw [GQ];exact aj.refl _
theorem aF.but(s:aF P H H')(n:H D=none):aF P H (upd H' D o):=fun b u e=>by
 have e0:=s b u e;have nb:b≠P:=fun z=>by unfold er at e;rw [ae z] at e;cases e
 rw [eR nb] at e e0 ⊢;rw [aP (kX e n)];exact e0
theorem aF.at(s:aF P H H')(nb:b≠P)(e:H b=some o):H' b=some o:=by have z:=s b o (Cq nb e);rw [eR nb] at z;exact z
theorem O3{wi:TI}{ρ:St→St}{N:Nat}(hN:N<sizeLine)
  (d6:∀R:It→Hp→Prop,(∀(n:Nat) (H1:Hp),n≤N→aF P H H1→bO H1 P a→R (mH 0 n) H1)→wi σ H R)
  (Pr:Addr→Nat→V→Hp→Prop) (mono:∀D i y Hc H' ys,Pr D i y Hc→Hc D=some (.lst ys)→D≠P→(∀b o,b≠D→b≠P→Hc b=some o→H' b=some o)→Pr D i y H')
  (step:∀(D:Addr) (i:Nat),i<N→∀(Hc:Hp) (R:VK),aF P H Hc→bO Hc P a→(∃ys,Hc D=some (.lst ys))→D≠P→(∀y H3,aF P Hc H3→bO H3 P a→Pr D i y H3→R y H3)→te (some (.int (0+(i:Int)))::ρ σ) Hc R)
  (fin:∀(D:Addr) (ys:List V) (Hc:Hp),D≠P→er P H D=none→aF P H Hc→bO Hc P a→ys.length≤N→(∀(i:Nat) (y:V),ys[i]?=some y→Pr D i y Hc)→Hc D=some (.lst ys)→Q (.ref D) Hc):gD wi ρ (fun _ H Q=>Q true H) te σ H Q:=by
 refine d6 _ fun n H1 hn s1 p1=>?_;intro D nD;have nP:=p1.ne nD;refine ⟨fun i m ys Hc=>m=n-i∧i≤n∧Hc D=some (.lst ys)∧aF P H1 Hc∧bO Hc P a∧ys.length=i∧∀j y,ys[j]?=some y→Pr D j y Hc,⟨_,rfl,ba _,au,(aF.refl H1).but nD,p1.upd nP,rfl,fun j y e=>by simp at e⟩,?_⟩
 rintro i m ys Hc ⟨rfl,hi,eD,sH,pc,el,hP⟩;refine ⟨eD,?_⟩;by_cases aU:i<n
 ·refine .inr ⟨aU,fun x H' hy=>?_⟩
  obtain ⟨rfl,rfl⟩:=hy;rw [ae rfl];refine step D i (by omega) _ _ (s1.trans sH) pc ⟨ys,eD⟩ nP fun y H3 s3 p3 hp=>?_
  have e3:=s3.at nP eD;refine ⟨e3,by omega,n-(i+1),by omega,rfl,aU,au,(sH.trans s3).but nD,p3.upd nP,by simp [el],fun j y' e=>?_⟩
  have b8:∀b o,b≠D→b≠P→H3 b=some o→upd H3 D (.lst (ys++[y])) b=some o:=fun b o nb _ e=>by rw [aP nb];exact e
  by_cases hj:j<i
  ·have e':ys[j]?=some y':=by rw [gW (by omega)] at e;exact e
   refine mono D j y' H' _ ys (hP j y' e') eD nP fun b o nb np e=>?_;exact b8 b o nb np (s3.at np e)
  ·have hj:j=i:=by have:=(bM.mp e).1;simp at this;omega
   subst hj;have e':y'=y:=by rw [gU (by omega),el,pb] at e;simpa using e.symm
   subst e';exact mono D _ _ H3 _ ys hp e3 nP b8
 ·have e:i=n:=by omega
  subst e;have hD:er P H D=none:=by
   cases z:er P H D with
   | none=>rfl
   | some o=>have z2:=s1 _ _ z;rw [eR nP,nD] at z2;cases z2
  exact .inl ⟨ax _,fin D ys Hc nP hD (s1.trans sH) pc (by omega) hP eD⟩
end My
namespace L2
open PySem PySem.Spec PyProof.Rows
end L2
namespace My
open PySem L2
def O4:Sp:=fun vs H Q _=>∃c a:Int,vs=[.int c,.int a]∧0≤a∧∀r:Int,0≤r→Q (.int r) H
def O5(K:aH):Sp:=fun vs H Q _=>∃(P a:Addr) (ns:List Int) (many:Int),vs=[.ref P,.int many]∧bO H P a∧bt K (er P H) a (ns.map V.int)∧1≤many∧fR many∧∀(r:Int) (H':Hp),0≤r→r<many→aF P H H'→bO H' P a→Q (.int r) H'
end My
namespace L2
open PySem PySem.Spec PyProof.Rows
end L2
namespace My
open PySem L2
end My
namespace L2
open PySem PySem.Spec PyProof.Rows
def wQ(K:aH)(l:Addr):It:=
  ⟨fun i H=>∃xs x,bt K H l xs∧xs[i]?=some x,
   fun i H v H'=>∃T x,H T=none∧v=.ref T∧H'=upd H T (.tup [.int (i:Int),x])∧∀xs,bt K H l xs→xs[i]?=some x,
   fun i H=>∃xs,bt K H l xs∧xs.length≤i⟩
variable {K:aH} {l:Addr}
theorem O6{P:Program}{w:World}{elts:List Expr}{k:Nat}{pos:Pos}{e it:Addr}(GR:e≠it):Turn P w K (.Tuple elts k pos) (wQ K l) [e,it] e
  (fun i h=>(∃old,IsEnum h e it (i:Int) old)∧h.IsListIter it l i) where
 mem:=by simp
 obj:=fun i h st b hb=>by
  obtain ⟨⟨old,he⟩,h1⟩:=st;simp only [cf,ph,or_false] at hb;rcases hb with rfl | rfl;·exact ⟨_,he,fun v z=>by cases z⟩
  ·obtain ⟨o,e,c,d⟩:=h1
   exact ⟨o,e,fun v z=>by rw [d] at z;cases z⟩
 keep:=fun i h h' st k=>by obtain ⟨⟨old,he⟩,h1⟩:=st;exact ⟨⟨old,k _ (by simp) _ he⟩,h1.at fun o e=>k _ (by simp) o e⟩
 item:=by
  intro X hP hw hK hc i pins s σ H E I hf st hg;subst hP hw hK;obtain ⟨⟨old,he⟩,h1⟩:=st;obtain ⟨xs,x,tT,hx⟩:=hg;obtain ⟨ak,rv,p,_⟩:=I.list tT;obtain ⟨u,hu,ru⟩:=rv.get hx;refine wpAny_pyNext_enum_item he h1 p.isList (x:=u) (by simpa using hu) GR fun h' g1 g2 g3 g4 g5=>⟨_,rfl,?_⟩
  refine wpAny_letOwnedTupleGo_enum g1 fun zr q1 sb=>?_;have tU:H s.heap.objs.size=none:=I.ay.fresh (ax _);have lt:∀b o,s.heap.get? b=some o→b≠s.heap.objs.size:=fun b o e=>bL (aT e);have keep:∀b o,b∉[e,it]→s.heap.get? b=some o→zr.get? b=some o:=fun b o nb e=>by simp only [cf,ph,or_false,not_or] at nb;exact sb.extBut _ _ nb.1 (g5 b o nb.1 nb.2 e)
  have elt:e≠s.heap.objs.size:=lt _ _ he;have pT:=sb.extBut _ _ elt.symm g3;have wR:∀{b:Addr} {o:HO} (e:H b=some o),upd H s.heap.objs.size (.tup [.int (i:Int),x]) b=some o:=fun e=>by rw [aP (kX e tU)];exact e
  have ay:cj X.prog X.w (upd H s.heap.objs.size (.tup [.int (i:Int),x])) zr:=fun b o e=>by
   by_cases hb:b=s.heap.objs.size
   ·subst hb
    rw [au] at e;cases e;exact ⟨by show 2≤sizeLine;decide,[.int i s.toks,u],.cons ⟨_,rfl⟩ (.cons ru .nil),⟨_,pT,rfl,_,rfl⟩⟩
   ·rw [aP hb] at e
    refine (I.ay b o e).jt (fun c v e9 q=>keep c v (fun m=>?_) q) (fun c q=>wR q) fun c xs q=>wR q;have nn:=(hf c m).1;rcases e9 with rfl | e9;·rw [nn] at e;cases e
    ·rw [nn] at e9;cases e9
  have u1:Un (cJ X.stack) [e,it] H (upd H s.heap.objs.size (.tup [.int (i:Int),x])) s.heap zr:=
   ⟨fun b o e n _ hx=>keep b o hx e,fun b o e n _ hx=>⟨o.slots,keep b o hx e⟩,fun b o e n hx=>by rw [aP (lt b o e)];exact n,fun b o e hx=>⟨o,keep b o hx e⟩,fun b xs e=>wR e,fun b o u e=>wR e,fun b ps e=>⟨#[],by rw [wR e];simp⟩⟩
  refine ⟨.ref s.heap.objs.size,upd H s.heap.objs.size (.tup [.int (i:Int),x]),I.n4 (s':={s with heap:=zr,toks:=s.toks+1}) (ch:=[e,it]) rfl u1 ay I.bare (fun b hb=>?_),rfl,⟨_,x,tU,rfl,rfl,fun as ha=>by rw [I.Fz ha tT];exact hx⟩,?_,fun b hb=>?_⟩
  ·obtain ⟨f0,f1,f2,f3,f4,f5⟩:=hf b hb
   exact ⟨f3,f1,f4,f5⟩
  ·refine ⟨⟨u,?_⟩,g2.extBut sb.extBut GR.symm⟩
   have z:((i+1:Nat):Int)=(i:Int)+1:=by omega
   rw [z];exact q1
  ·have nb:b≠s.heap.objs.size:=by
    simp only [cf,ph,or_false] at hb;rcases hb with rfl | rfl;·exact lt _ _ he
    ·obtain ⟨o,e,_⟩:=h1;exact lt _ _ e
   rw [aP nb];exact (hf b hb).1
 done:=by
  intro X hP hw hK hc i pins s σ H E I hf st hg;subst hP hw hK;obtain ⟨⟨old,he⟩,h1⟩:=st;obtain ⟨xs,tT,hx⟩:=hg;obtain ⟨ak,rv,p,_⟩:=I.list tT;have hl:=rv.length;refine wpAny_pyNext_enum_end (I.ok.hd hc) he h1 p.isList (by simp;omega) fun h' g=>⟨rfl,?_⟩
  have keep:∀b o,b∉[e,it]→s.heap.get? b=some o→h'.get? b=some o:=fun b o nb e=>by simp only [cf,ph,or_false,not_or] at nb;exact g b o nb.2 e
  have ay:cj X.prog X.w H h':=fun b o e=>by
   refine (I.ay b o e).jt (fun c v e9 q=>keep c v (fun m=>?_) q) (fun c q=>q) fun c xs q=>q;have nn:=(hf c m).1;rcases e9 with rfl | e9;·rw [nn] at e;cases e
   ·rw [nn] at e9;cases e9
  have u1:Un (cJ X.stack) [e,it] H H s.heap h':=
   ⟨fun b o e n _ hx=>keep b o hx e,fun b o e n _ hx=>⟨o.slots,keep b o hx e⟩,fun b o e n hx=>n,fun b o e hx=>⟨o,keep b o hx e⟩,fun b xs e=>e,fun b o u e=>e,fun b ps e=>⟨#[],by rw [e];simp⟩⟩
  refine I.n4 (s':={s with heap:=h'}) (ch:=[e,it]) rfl u1 ay I.bare fun b hb=>?_;obtain ⟨f0,f1,f2,f3,f4,f5⟩:=hf b hb;exact ⟨f3,f1,f4,f5⟩
 self:=fun _ _ _ _ _ st h=>by obtain ⟨⟨old,he⟩,_⟩:=st;exact wpAny_pyIter_enum he h
theorem boot_enumerate:bootBuiltins "enumerate"=some (.type "enumerate"):=by decide +kernel
def O7(K:aH)(ta:TA):TI:=fun σ H R=>ta σ H fun vs H1=>∃l,vs=[.ref l]∧(∃xs,bt K H1 l xs)∧R (wQ K l) H1
section
variable {X:Cx}
theorem O8{elts:List Expr}{k:Nat}{yW:Pos}{a:Expr}{ta:TA}{p pos:Pos}(hg:Gl X "enumerate")(hm:X.mg "enumerate"=none)(ha:PA X [a] ta)(hs:starEach [a] X.env=[(false,eval a X.env)]:=by rfl) :
  PI X (.Tuple elts k yW) (.Call (.Name "enumerate" p) [a] [] pos) (O7 X.K ta):=by
 intro pins s σ H R I h;refine Call_ (mF I hg hm boot_enumerate (yl (aM (ha pos pins s σ H _ I h) fun us s1 ⟨vs,H1,I1,r1,q1⟩=>?_) hs rfl));obtain ⟨l,e,⟨xs,tT⟩,q⟩:=q1;subst e;obtain ⟨u,rfl,ru⟩:=vals1 r1;cases ru;obtain ⟨ak,rv,p1,_⟩:=I1.list tT;refine call_enumerate_list p1.isList fun h' z1 z2 z3 z4=>?_;refine wpAny_pyIter_enum (s:={s1 with heap:=h'}) z1 ?_;refine ⟨_,_,_,_,H1,rfl,I1.kept (t':=s1.toks) z4,O6 (Nat.succ_ne_self _),⟨⟨_,z1⟩,z2⟩,fun b hb=>?_,q⟩;have le:s1.heap.objs.size≤b:=by
  simp only [cf,ph,or_false] at hb;rcases hb with rfl | rfl;·exact Nat.le_add_right ..
  ·exact ax _
 exact I1.wa le (I1.ay.fresh le)
end
theorem O9{xs:List V}{g:TG}{tb:TS}{D:Ends}{σ:St}{H:Hp}(Pv:Nat→St→Hp→Prop)(h0:Pv 0 σ H)(hl:∀i σ H,Pv i σ H→bt K H l xs)
  (hs:∀(i:Nat) (x:V) σ H T,xs[i]?=some x→Pv i σ H→H T=none→g (.ref T) σ (upd H T (.tup [.int (i:Int),x])) fun σ2 H2=>tb {D with nx:=Pv (i+1),ct:=Pv (i+1),bk:=D.nx} σ2 H2) (hd:∀σ H,Pv xs.length σ H→D.nx σ H) :
  ∃W:Nat→Nat→St→Hp→Prop,(∃m,W 0 m σ H)∧∀i m σ H,W i m σ H→
   ((wQ K l).stop i H∧D.nx σ H)∨((wQ K l).go i H∧∃N:St→Hp→Prop,(∀σ' H',N σ' H'→∃m',m'<m∧W (i+1) m' σ' H')∧∀x H',(wQ K l).dW i H x H'→g x σ H' fun σ2 H2=>tb {D with nx:=N,ct:=N,bk:=D.nx} σ2 H2):=by
 refine ⟨fun i m σ H=>m=xs.length-i∧i≤xs.length∧Pv i σ H,⟨xs.length,by simp,ba _,h0⟩,?_⟩
 rintro i m σ H ⟨rfl,hi,p⟩;have q1:=hl i σ H p;by_cases aU:i<xs.length
 ·refine .inr ⟨⟨xs,xs[i],q1,by simp [aU]⟩,Pv (i+1),fun σ' H' p'=>⟨xs.length-(i+1),by omega,rfl,aU,p'⟩,fun v H' hy=>?_⟩
  obtain ⟨T,x,nT,rfl,rfl,hx⟩:=hy;exact hs i x σ H T (hx xs q1) p nT
 ·have e:i=xs.length:=by omega
  subst e;exact .inl ⟨⟨xs,q1,ax _⟩,hd σ H p⟩
end L2
namespace My
open PySem L2
end My
namespace L2
open PySem PySem.Spec PyProof.Rows
section
variable {X:Cx} {tg:Expr}
end
section
variable {X:Cx} {e:Expr} {te:TE} {pos p2:Pos}
end
end L2
namespace My
open PySem L2
theorem Cr{wi:TI}{ρ:St→St}{te:TE}{σ:St}{H:Hp}{Q:VK}{xs:List V}{n:Nat}(hl:xs.length=n)(d6:∀R:It→Hp→Prop,(∀J H1,aj H H1→j8 J xs H1→R J H1)→wi σ H R)(hn:n<sizeLine)
  (P:Addr→Nat→Addr→Hp→Prop) (mono:∀D i y H H' ys,P D i y H→y≠D→H D=some (.lst ys)→(∀b o,b≠D→H b=some o→H' b=some o)→P D i y H')
  (step:∀D (i:Nat) (x:V),xs[i]?=some x→∀(Hc:Hp) (R:VK),aj H Hc→(∃ys,Hc D=some (.lst ys))→(∀y H3,aj Hc H3→Hc y=none→(∃o,H3 y=some o)→P D i y H3→R (.ref y) H3)→te (some x::ρ σ) Hc R)
  (fin:∀D (A:Nat→Addr) Hc,H D=none→aj H Hc→(∀i j,i<n→j<n→A i=A j→i=j)→(∀i,i<n→P D i (A i) Hc∧A i≠D)→Hc D=some (.lst ((List.range n).map fun i=>V.ref (A i)))→Q (.ref D) Hc):gD wi ρ (fun _ H Q=>Q true H) te σ H Q:=by
 refine d6 _ fun J H1 s1 js=>?_;intro D nD;have hD:H D=none:=by
  cases e:H D with
  | none=>rfl
  | some o=>rw [s1 _ _ e] at nD;cases nD
 refine ⟨fun i m ys Hc=>m=n-i∧i≤n∧Hc D=some (.lst ys)∧aj H1 Hc∧∃A:Nat→Addr,ys=(List.range i).map (fun j=>V.ref (A j))∧(∀a b,a<i→b<i→A a=A b→a=b)∧∀j,j<i→P D j (A j) Hc∧A j≠D∧∃o,Hc (A j)=some o,⟨_,rfl,ba _,au,d7 (aj.refl H1) nD,fun _=>D,rfl,(fun a b h=>by omega),fun j h=>by omega⟩,?_⟩
 rintro i m ys Hc ⟨rfl,hi,eD,sH,A,rfl,inj,hA⟩;refine ⟨eD,?_⟩;by_cases aU:i<n
 ·refine .inr ⟨js.go i Hc sH (by omega),fun x H' hy=>?_⟩
  obtain ⟨rfl,hx⟩:=js.dW i Hc x H' sH hy;rw [ae rfl];refine step D i x (hx (by omega)) _ _ (s1.trans sH) ⟨_,eD⟩ fun y H3 s3 ny ⟨o,ho⟩ hp=>?_
  have e3:=s3 _ _ eD;have yD:y≠D:=fun e=>by rw [e,eD] at ny;cases ny
  have b8:∀b o,b≠D→H3 b=some o→upd H3 D (.lst ((List.range i).map (fun j=>V.ref (A j))++[.ref y])) b=some o:=fun b o nb e=>by rw [aP nb];exact e
  have nA:∀j,j<i→A j≠y:=fun j hj e=>by obtain ⟨_,_,o',h'⟩:=hA j hj;rw [e,ny] at h';cases h'
  refine ⟨e3,by simp;omega,n-(i+1),by omega,rfl,aU,au,d7 (sH.trans s3) nD,fun j=>if j=i then y else A j,?_,fun a b ha hb e=>?_,fun j hj=>?_⟩
  ·rw [List.range_succ,eN]
   congr 1
   ·refine iF fun j hj=>?_
    dsimp only;rw [aa (by have:=b7.mp hj;omega)]
   ·simp
  ·dsimp only at e
   by_cases z1:a=i
   ·by_cases z2:b=i
    ·omega
    ·rw [ae z1,aa z2] at e
     exact absurd e.symm (nA b (by omega))
   ·by_cases z2:b=i
    ·rw [aa z1,ae z2] at e
     exact absurd e (nA a (by omega))
    ·rw [aa z1,aa z2] at e
     exact inj a b (by omega) (by omega) e
  ·dsimp only
   by_cases z:j=i
   ·rw [ae z,z]
    exact ⟨mono D i y H3 _ _ hp yD e3 b8,yD,o,b8 _ _ yD ho⟩
   ·rw [aa z]
    obtain ⟨h1,h2,o',h3⟩:=hA j (by omega)
    exact ⟨mono D j (A j) H' _ _ h1 h2 eD (fun b o nb e=>b8 b o nb (s3 _ _ e)),h2,o',b8 _ _ h2 (s3 _ _ h3)⟩
 ·have e:i=n:=by omega
  subst e;exact .inl ⟨js.stop _ Hc sH (by omega),fin D A Hc hD (s1.trans sH) inj (fun j hj=>⟨(hA j hj).1,(hA j hj).2.1⟩) eD⟩
end My
namespace L2
open PySem PySem.Spec PyProof.Rows
def O_(K:aH):R2:=fun x y H Q=>∃(a b:Addr) (xs ys:List Int),x=.ref a∧y=.ref b∧bt K H a (xs.map V.int)∧bt K H b (ys.map V.int)∧Q (.bl (!decide (xs=ys))) H
theorem GS{xs ys:List Int}(h:xs.length=ys.length):((List.range xs.length).all fun j=>i6 (.int (xs.getD j 0)) (.int (ys.getD j 0)))=decide (xs=ys):=by
 by_cases e:xs=ys
 ·subst e
  rw [bQ rfl,mf];intro j _;exact GK rfl
 ·rw [bW e]
  cases z:((List.range xs.length).all fun j=>i6 (.int (xs.getD j 0)) (.int (ys.getD j 0))) with
  | false=>rfl
  | true=>refine absurd (gY h fun j h1 h2=>?_) e;have:=mf.mp z j (b7.mpr h1);have this:(xs.getD j 0 == ys.getD j 0)=true:=this;rw [beq_iff_eq,dB,dB] at this;simpa [h1,h2] using this
theorem Pa{X:Cx}(hu:X.A.units+64<cLine):cK X (compareOp .NotEq) (O_ X.K):=by
 intro pins s σ H x y v u Q I rx ry h;obtain ⟨a,b,xs,ys,rfl,rfl,h1,h2,q⟩:=h;cases rx;cases ry;obtain ⟨us,r1,t1,_⟩:=I.list h1;obtain ⟨vs,r2,t2,_⟩:=I.list h2;have l1:=r1.length;have l2:=r2.length;rw [aD] at l1 l2;by_cases hl:xs.length=ys.length
 ·refine SeqAt.RcNeAt.lists (e:=fun j=>i6 (.int (xs.getD j 0)) (.int (ys.getD j 0))) t1.isList t2.isList (by simp;omega) (by omega) (fun j z1 z2=>?_) _ _ _ _ ?_
  ·have wU:j<us.length:=by simpa using z1
   have Pb:j<vs.length:=by simpa using z2
   have ex:(xs.map V.int)[j]?=some (.int (xs.getD j 0)):=by rw [bP,dB];simp [show j<xs.length by omega]
   have ey:(ys.map V.int)[j]?=some (.int (ys.getD j 0)):=by rw [bP,dB];simp [show j<ys.length by omega]
   obtain ⟨x',vW,rx⟩:=r1.get ex;obtain ⟨y',Cs,ry⟩:=r2.get ey;have e1:us.toArray[j]=x':=by simpa using (bM.mp vW).2
   have e2:vs.toArray[j]=y':=by simpa using (bM.mp Cs).2
   rw [e1,e2];exact B1 rx ry rfl rfl
  ·rw [show us.toArray.size=xs.length by simp;omega,GS hl]
   exact ⟨.bl (!decide (xs=ys)),H,I,rfl,q⟩
 ·rw [bW (fun e=>hl (by rw [e]))] at q
  refine SeqAt.RcNeAt.lists_lengths t1.isList t2.isList ?_ (by omega) _ _ _ _ ⟨.bl true,H,I,rfl,q⟩
  simp;omega
end L2
namespace My
open PySem L2
end My
namespace L2
open PySem PySem.Spec PyProof.Rows
theorem GU{X:Cx}{K:aH}(hK:X.K=K:=by rfl):BZ X (Gg K):=by subst hK;exact B0
end L2
namespace My
open PySem L2
end My
namespace L2
open PySem PySem.Spec PyProof.Rows
section
variable {X:Cx}
end
end L2
namespace My
open PySem L2
end My
namespace L2
open PySem PySem.Spec PyProof.Rows
end L2
namespace My
open PySem L2
end My
namespace L2
open PySem PySem.Spec PyProof.Rows
section
variable {X:Cx} {N:List Str} {scope:Scope} {cl:List (Str×Addr)} {x y:Str} {px py pos tp:Pos} {wN:Nat} {iter elt:Expr} {ifs:List Expr} {wi:TI} {ρ:St→St} {tt:TT} {te:TE}
end
section
variable {X:Cx} {pins:aQ} {σ:St} {H:Hp} {s:Shared}
end
end L2
namespace My
open PySem PySem.W PyProof.Rows
section
variable {n:Nat} {c:Nat→Int}
def lK(n:Nat)(p:Array Nat):Prop:=p.Perm (List.toArray (List.range n))
theorem lK.size{p:Array Nat}(h:lK n p):p.size=n:=by rw [Array.Perm.size_eq h];simp
def vN(c:Nat→Int)(p:Array Nat)(i:Nat):Int:=c (p.getD i 0)
def oz(c:Nat→Int)(p:Array Nat)(k:Nat):Prop:=∀a b,a≤b→b<k→vN c p a≤vN c p b
end
end My
namespace Tm
open PySem PySem.W PyProof.Rows
def oA:Bool→Keyed→Array Keyed→Nat→Nat→Nat→StateT SortSt Sem (Option Nat):=sortPriv% PySem.Builtin.gallop
def wV:Nat→StateT SortSt Sem Unit:=sortPriv% PySem.Builtin.setMinGallop
def Ct:Array Keyed→Array Keyed→StateT SortSt Sem (Array Keyed):=sortPriv% PySem.Builtin.mergeLo
def Cu:Array Keyed→Array Keyed→StateT SortSt Sem (Array Keyed):=sortPriv% PySem.Builtin.mergeHi
def qr(left:Bool)(key:Keyed)(arr:Array Keyed)(base i:Nat):StateT SortSt Sem (Option Bool):=do
 let x ←elem' arr (base+i)
 if left then lt' x key else return (←lt' key x).map (!·)
theorem Pc(left:Bool)(key:Keyed)(arr:Array Keyed)(base n hint:Nat):oA left key arr base n hint=(do
 let mut zt:=0
 let mut bw:=1
 let mut lo:=0
 let mut hi:=0
 let some right ←qr left key arr base hint | return none
 if right then
  let wX:=n-hint
  for _ in [0:n] do
   if bw≥wX then break
   let some more ←qr left key arr base (hint+bw) | return none
   if !more then break
   zt:=bw
   bw:=2*bw+1
  lo:=hint+zt+1
  hi:=hint+min bw wX
 else
  let wX:=hint+1
  for _ in [0:n] do
   if bw≥wX then break
   let some found ←qr left key arr base (hint-bw) | return none
   if found then break
   zt:=bw
   bw:=2*bw+1
  lo:=hint+1-min bw wX
  hi:=hint-zt
 for _ in [0:n] do
  if lo≥hi then break
  let m:=lo+(hi-lo) / 2
  let some more ←qr left key arr base m | return none
  if more then lo:=m+1 else hi:=m
 return some hi):=rfl
section
variable {prog:Program} {w:World} {A:Around} {E:aK} {s:Shared} {κ:SortKind} {key:Keyed→Int} {Ok:Keyed→Prop}
def i7(prog:Program)(w:World)(A:Around)(s:Shared)(κ:SortKind)(key:Keyed→Int)(Ok:Keyed→Prop):Prop:=
 ∀x y,Ok x→Ok y→∀C:Bool→Shared→Prop,C (decide (key x<key y)) s→wpAny (model prog w) A (keyLt' κ x.1 y.1) C (fun _ _=>False) s
variable {st:SortSt} {Q:Option Bool→SortSt→Prop}
theorem wY(h:i7 prog w A s κ key Ok){x y:Keyed}(ox:Ok x)(oy:Ok y)(hk:kindOf st=κ)(q:Q (some (decide (key x<key y))) st):wpS (model prog w) A E s (lt' x y) Q st:=by rw [lt'_eq];refine ar (iY ?_);rw [hk];refine ar (wpS_lift (wpAny_attempt (bC (h x y ox oy (fun c s'=>s'=s∧wpS (model prog w) A E s (pure (some c)) Q st) ⟨rfl,aq q⟩) (fun c s' hc=>?_) fun _ _ hF=>hF.elim)));exact hc
def nn:Keyed:=(Value.none,Value.none)
variable {arr:Array Keyed} {i:Nat}
theorem bA(hi:i<arr.size){Q:Keyed→SortSt→Prop}(q:Q (arr.getD i nn) st):wpS (model prog w) A E s (elem' arr i) Q st:=by
 rw [elem'_eq];have e:arr[i]?=some (arr.getD i nn):=by simp [Array.getD,hi]
 rw [e];exact aq q
def fj(Ok:Keyed→Prop)(arr:Array Keyed):Prop:=∀i,i<arr.size→Ok (arr.getD i nn)
def bB(left:Bool)(k a:Int):Bool:=if left=true then decide (a<k) else !decide (k<a)
variable {left:Bool} {kx:Keyed} {base:Nat}
theorem iQ(h:i7 prog w A s κ key Ok)(hi:base+i<arr.size)(ha:fj Ok arr)(ox:Ok kx)(hk:kindOf st=κ)(q:Q (some (bB left (key kx) (key (arr.getD (base+i) nn)))) st):wpS (model prog w) A E s (qr left kx arr base i) Q st:=by
 unfold qr;refine ar (bA hi ?_);unfold bB at q;cases left with
 | true=>rw [ae rfl] at q ⊢;exact wY h (ha _ hi) ox hk q
 | false=>
  rw [aa (by simp)] at q ⊢
  exact ar (wY h ox (ha _ hi) hk (aq q))
theorem iR{n hint:Nat}{f:Nat→Bool}
  (hb:∀i,i<n→∀Q:Option Bool→SortSt→Prop,Q (some (f i)) st→wpS (model prog w) A E s (qr left kx arr base i) Q st)
  (hh:hint<n) (mono:∀i j,i≤j→j<n→f j=true→f i=true) {Q:Option Nat→SortSt→Prop}
  (k:∀m,m≤n→(∀i,i<m→f i=true)→(∀i,m≤i→i<n→f i=false)→Q (some m) st):wpS (model prog w) A E s (oA left kx arr base n hint) Q st:=by
 rw [Pc];refine ar (hb hint hh _ ?_);dsimp only;have Cv:∀i j,i≤j→j<n→f i=false→f j=false:=fun i j h1 h2 h3=>by
  cases e:f j with
  | false=>rfl
  | true=>rw [mono i j h1 h2 e] at h3;cases h3
 have bs:∀(lo hi:Nat) (body:Nat→Option (Option Nat)×Nat×Nat→StateT SortSt Sem (ForInStep (Option (Option Nat)×Nat×Nat))) (R:Option (Option Nat)×Nat×Nat→SortSt→Prop),lo≤hi→hi≤n→(∀i,i<lo→f i=true)→(∀i,hi≤i→i<n→f i=false)→
   (∀x lo hi (R:ForInStep (Option (Option Nat)×Nat×Nat)→SortSt→Prop),lo≥hi→R (.done (none,lo,hi)) st→wpS (model prog w) A E s (body x (none,lo,hi)) R st)→
   (∀x lo hi (R:ForInStep (Option (Option Nat)×Nat×Nat)→SortSt→Prop),lo<hi→hi≤n→R (.yield (if f (lo+(hi-lo) / 2)=true then (none,lo+(hi-lo) / 2+1,hi) else (none,lo,lo+(hi-lo) / 2))) st→wpS (model prog w) A E s (body x (none,lo,hi)) R st)→
   (∀m,m≤n→(∀i,i<m→f i=true)→(∀i,m≤i→i<n→f i=false)→R (none,m,m) st)→
   wpS (model prog w) A E s (forIn [0:n] (none,lo,hi) body) R st:=fun lo hi body R h1 h2 h3 h4 b1 b2 kk=>by
  refine fK (I:=fun x c av=>av=st∧∃lo hi,c=(none,lo,hi)∧lo≤hi∧hi≤n∧hi-lo+x≤n∧(∀i,i<lo→f i=true)∧(∀i,hi≤i→i<n→f i=false)) ?_ ?_ ⟨rfl,lo,hi,rfl,h1,h2,by omega,h3,h4⟩
  ·rintro x c av _ hx ⟨rfl,lo,hi,rfl,g1,g2,g3,g4,g5⟩
   by_cases z:lo≥hi
   ·refine b1 x lo hi _ z ?_
    obtain rfl:lo=hi:=by omega
    exact kk lo g2 g4 g5
   ·refine b2 x lo hi _ (by omega) g2 ?_
    cases e:f (lo+(hi-lo) / 2) with
    | true=>rw [ae rfl];exact ⟨rfl,_,_,rfl,by omega,g2,by omega,fun i aV=>mono i (lo+(hi-lo) / 2) (by omega) (by omega) e,g5⟩
    | false=>
     rw [aa (by simp)]
     exact ⟨rfl,_,_,rfl,by omega,by omega,by omega,g4,fun i h1 h2=>Cv (lo+(hi-lo) / 2) i h1 h2 e⟩
  ·rintro c av ⟨rfl,lo,hi,rfl,g1,g2,g3,g4,g5⟩
   have:lo=hi:=by
    have:max 0 n=n:=by omega
    omega
   subst this;exact kk lo g2 g4 g5
 cases e:f hint with
 | true=>
  rw [ae rfl]
  refine ar (fW (fK (I:=fun x c av=>av=st∧∃la bw,c=(none,la,bw)∧x+1≤bw∧la<bw∧la<n-hint∧f (hint+la)=true)
   (Q:=fun c av=>av=st∧∃la bw,c=(none,la,bw)∧la<bw∧la<n-hint∧f (hint+la)=true∧(bw≥n-hint∨f (hint+bw)=false)) ?_ ?_ ⟨rfl,0,1,rfl,ax _,by omega,by omega,by simpa using e⟩) ?_)
  ·rintro x c av _ hx ⟨rfl,la,bw,rfl,g1,g2,g3,g4⟩
   dsimp only;by_cases z:bw≥n-hint
   ·rw [ae z]
    exact aq ⟨rfl,la,bw,rfl,g2,g3,g4,.inl z⟩
   ·rw [aa z]
    refine ar (hb _ (by omega) _ ?_)
    dsimp only;cases e':f (hint+bw) with
    | true=>
     rw [aa (by simp)]
     exact aq ⟨rfl,_,_,rfl,by omega,by omega,by omega,e'⟩
    | false=>
     rw [ae (by simp)]
     exact aq ⟨rfl,la,bw,rfl,g2,g3,g4,.inr e'⟩
  ·rintro c av ⟨rfl,la,bw,rfl,g1,g2,g3,g4⟩
   have:max 0 n=n:=by omega
   exact ⟨rfl,la,bw,rfl,g2,g3,g4,.inl (by omega)⟩
  ·rintro c av ⟨rfl,la,bw,rfl,g2,g3,g4,g5⟩
   refine ar (bs (hint+la+1) (hint+min bw (n-hint)) _ _ (by omega) (by omega) (fun i hi=>mono i (hint+la) (by omega) (by omega) g4) (fun i h1 h2=>?_) ?_ ?_ ?_)
   ·rcases g5 with g5 | g5
    ·omega
    ·by_cases z:bw≥n-hint
     ·omega
     ·exact Cv (hint+bw) i (by omega) h2 g5
   ·intro x lo hi R z hR
    dsimp only;rw [ae z];exact aq hR
   ·intro x lo hi R z z2 hR
    dsimp only;rw [aa (by omega)]
    refine ar (hb _ (by omega) _ ?_)
    dsimp only;cases e:f (lo+(hi-lo) / 2) with
    | true=>rw [e,ae rfl] at hR;rw [ae rfl];exact aq hR
    | false=>
     rw [e,aa (by simp)] at hR
     rw [aa (by simp)]
     exact aq hR
   ·exact fun m m1 m2 m3=>aq (k m m1 m2 m3)
 | false=>
  rw [aa (by simp)]
  refine ar (fW (fK (I:=fun x c av=>av=st∧∃la bw,c=(none,la,bw)∧x+1≤bw∧la<bw∧la≤hint∧f (hint-la)=false)
   (Q:=fun c av=>av=st∧∃la bw,c=(none,la,bw)∧la<bw∧la≤hint∧f (hint-la)=false∧(bw≥hint+1∨f (hint-bw)=true)) ?_ ?_ ⟨rfl,0,1,rfl,ax _,by omega,by omega,by simpa using e⟩) ?_)
  ·rintro x c av _ hx ⟨rfl,la,bw,rfl,g1,g2,g3,g4⟩
   dsimp only;by_cases z:bw≥hint+1
   ·rw [ae z]
    exact aq ⟨rfl,la,bw,rfl,g2,g3,g4,.inl z⟩
   ·rw [aa z]
    refine ar (hb _ (by omega) _ ?_)
    dsimp only;cases e':f (hint-bw) with
    | true=>rw [ae rfl];exact aq ⟨rfl,la,bw,rfl,g2,g3,g4,.inr e'⟩
    | false=>
     rw [aa (by simp)]
     exact aq ⟨rfl,_,_,rfl,by omega,by omega,by omega,e'⟩
  ·rintro c av ⟨rfl,la,bw,rfl,g1,g2,g3,g4⟩
   have:max 0 n=n:=by omega
   exact ⟨rfl,la,bw,rfl,g2,g3,g4,.inl (by omega)⟩
  ·rintro c av ⟨rfl,la,bw,rfl,g2,g3,g4,g5⟩
   refine ar (bs (hint+1-min bw (hint+1)) (hint-la) _ _ (by omega) (by omega) (fun i hi=>?_) (fun i h1 h2=>Cv (hint-la) i (by omega) h2 g4) ?_ ?_ ?_)
   ·rcases g5 with g5 | g5
    ·omega
    ·by_cases z:bw≥hint+1
     ·omega
     ·exact mono i (hint-bw) (by omega) (by omega) g5
   ·intro x lo hi R z hR
    dsimp only;rw [ae z];exact aq hR
   ·intro x lo hi R z z2 hR
    dsimp only;rw [aa (by omega)]
    refine ar (hb _ (by omega) _ ?_)
    dsimp only;cases e:f (lo+(hi-lo) / 2) with
    | true=>rw [e,ae rfl] at hR;rw [ae rfl];exact aq hR
    | false=>
     rw [e,aa (by simp)] at hR
     rw [aa (by simp)]
     exact aq hR
   ·exact fun m m1 m2 m3=>aq (k m m1 m2 m3)
end
def bg(K:Keyed→Int)(l:List Keyed):Prop:=l.Pairwise fun x y=>K x≤K y
variable {K:Keyed→Int} {l:List Keyed}
theorem bg.take(h:bg K l)(k:Nat):bg K (l.take k):=List.Pairwise.sublist (List.take_sublist k l) h
theorem bg.drop(h:bg K l)(k:Nat):bg K (l.drop k):=List.Pairwise.sublist (List.drop_sublist k l) h
variable {m:List Keyed}
theorem bg.app(h:bg K l)(h':bg K m)(k:∀x∈l,∀y∈m,K x≤K y):bg K (l++m):=vP.mpr ⟨h,h',k⟩
structure MI (K:Keyed→Int) (A B O:List Keyed) (i j:Nat):Prop where
 pm:O.Perm (A.take i++B.take j)
 so:bg K O
 ca:∀x∈O,∀y∈A.drop i,K x≤K y
 cb:∀x∈O,∀y∈B.drop j,K x≤K y
variable {A B O:List Keyed} {i j:Nat}
theorem MI.flip(h:MI K A B O i j):MI K B A O j i:=⟨h.pm.trans pj,h.so,h.cb,h.ca⟩
theorem MI.zu(h:MI K A B O i j)(sA:bg K A)(k:Nat)(hk:∀x∈(A.drop i).take k,∀y∈B.drop j,K x≤K y):MI K A B (O++(A.drop i).take k) (i+k) j:=by
 have e:A.take (i+k)=A.take i++(A.drop i).take k:=List.take_add;have d:A.drop (i+k)=(A.drop i).drop k:=by rw [List.drop_drop]
 have sd:=sA.drop i;have sp:(A.drop i).take k++(A.drop i).drop k=A.drop i:=pA ..;have cr:∀x∈(A.drop i).take k,∀y∈(A.drop i).drop k,K x≤K y:=by have:=sd;rw [←sp] at this;exact (vP.mp this).2.2
 refine ⟨?_,h.so.app (sd.take k) fun x hx y hy=>h.ca x hx y (List.mem_of_mem_take hy),fun x hx y hy=>?_,fun x hx y hy=>?_⟩
 ·rw [e]
  refine (h.pm.append_right _).trans ?_;rw [gm,gm];exact yu _ pj
 ·rw [d] at hy
  rcases dg.mp hx with hx | hx;·exact h.ca x hx y (List.mem_of_mem_drop hy)
  ·exact cr x hx y hy
 ·rcases dg.mp hx with hx | hx
  ·exact h.cb x hx y hy
  ·exact hk x hx y hy
theorem MI.Cw(h:MI K A B O i j)(sB:bg K B)(k:Nat)(hk:∀x∈(B.drop j).take k,∀y∈A.drop i,K x≤K y):MI K A B (O++(B.drop j).take k) i (j+k):=(h.flip.zu sB k hk).flip
theorem MI.done(h:MI K A B O i j)(sA:bg K A)(sB:bg K B)(k:∀x∈A.drop i,∀y∈B.drop j,K x≤K y):(O++A.drop i++B.drop j).Perm (A++B)∧bg K (O++A.drop i++B.drop j):=by
 refine ⟨?_,(h.so.app (sA.drop i) h.ca).app (sB.drop j) fun x hx y hy=>?_⟩
 ·have e1:A.take i++A.drop i=A:=pA ..
  have e2:B.take j++B.drop j=B:=pA ..;have:(A.take i++B.take j++A.drop i++B.drop j).Perm ((A.take i++A.drop i)++(B.take j++B.drop j)):=by rw [gm,gm,gm];refine yu _ ?_;rw [←gm,←gm];exact List.Perm.append_right _ pj
  rw [e1,e2] at this;exact ((h.pm.append_right _).append_right _).trans this
 ·rcases dg.mp hx with hx | hx
  ·exact h.cb x hx y hy
  ·exact k x hx y hy
theorem MI.GV(h:MI K A B O i j)(sA:bg K A)(sB:bg K B)(k:∀x∈A.drop i,∀y∈B.drop j,K y≤K x):(O++B.drop j++A.drop i).Perm (A++B)∧bg K (O++B.drop j++A.drop i):=by have:=h.flip.done sB sA fun x hx y hy=>k y hy x hx;exact ⟨this.1.trans pj,this.2⟩
theorem Pd(a b:Array Keyed):Ct a b=(do
 rule "list.sort.merge-lo"
 let total:=a.size+b.size
 let done (out:Array Keyed) (ia ib:Nat):=out++a.extract ia a.size++b.extract ib b.size
 let zv (out:Array Keyed) (ia ib:Nat):=out++b.extract ib b.size++a.extract ia a.size
 let mut out:Array Keyed:=#[←elem' b 0]
 let mut ia:=0
 let mut ib:=1
 if ib == b.size then return done out ia ib
 if ia+1 == a.size then return zv out ia ib
 let mut minGallop:=gallopOf (←get)
 for _ in [0:total] do
  let mut i8:=0
  let mut i9:=0
  for _ in [0:total] do
   let some Pe ←lt' (←elem' b ib) (←elem' a ia) | return done out ia ib
   if Pe then
    out:=out.push (←elem' b ib);ib:=ib+1;i9:=i9+1;i8:=0
    if ib == b.size then return done out ia ib
    if i9≥minGallop then break
   else
    out:=out.push (←elem' a ia);ia:=ia+1;i8:=i8+1;i9:=0
    if ia+1 == a.size then return zv out ia ib
    if i8≥minGallop then break
  rule "list.sort.gallop"
  minGallop:=minGallop+1
  for _ in [0:total] do
   if minGallop>1 then minGallop:=minGallop-1
   wV minGallop
   let some k ←oA false (←elem' b ib) a ia (a.size-ia) 0 | return done out ia ib
   i8:=k
   if k>0 then
    out:=out++a.extract ia (ia+k);ia:=ia+k
    if ia+1 == a.size then return zv out ia ib
    if ia == a.size then return done out ia ib
   out:=out.push (←elem' b ib);ib:=ib+1
   if ib == b.size then return done out ia ib
   let some k ←oA true (←elem' a ia) b ib (b.size-ib) 0 | return done out ia ib
   i9:=k
   if k>0 then
    out:=out++b.extract ib (ib+k);ib:=ib+k
    if ib == b.size then return done out ia ib
   out:=out.push (←elem' a ia);ia:=ia+1
   if ia+1 == a.size then return zv out ia ib
   if i8<7 && i9<7 then break
  minGallop:=minGallop+1
  wV minGallop
 unsupported "internal:list.sort.merge-bound"):=rfl
section
variable {prog:Program} {w:World} {A:Around} {E:aK} {s:Shared} {κ:SortKind} {key:Keyed→Int} {Ok:Keyed→Prop}
def setG(st:SortSt)(g:Nat):SortSt:=SortSt.mk' (kindOf st) (arrOf st) (pendingOf st) g (failedOf st)
variable {a:Array Keyed}
theorem wZ(hi:i<a.size):(a.toList.drop i).take 1=[a.getD i nn]:=by
 have hl:i<a.toList.length:=by simpa using hi
 rw [List.drop_eq_getElem_cons hl];simp [Array.getD,hi]
theorem jC(a:Array Keyed)(i j:Nat):(a.extract i j).toList=(a.toList.drop i).take (j-i):=by rw [Array.toList_extract,List.extract_eq_take_drop]
theorem zw(a:Array Keyed)(i:Nat):(a.extract i a.size).toList=a.toList.drop i:=by rw [jC];refine sM ?_;simp
variable {x:Keyed}
theorem qt(h:x∈a.toList.drop i):∃j,i≤j∧j<a.size∧x=a.getD j nn:=by
 obtain ⟨j,hj,rfl⟩:=sN h;have dY:i+j<a.size:=by simp at hj;omega
 refine ⟨i+j,by omega,dY,?_⟩
 rw [List.getElem_drop];simp [Array.getD,dY]
theorem Cy{k:Nat}(h:x∈(a.toList.drop i).take k):∃j,j<k∧i+j<a.size∧x=a.getD (i+j) nn:=by
 obtain ⟨j,hj,rfl⟩:=sN h;have dY:i+j<a.size∧j<k:=by simp at hj;omega
 refine ⟨j,dY.2,dY.1,?_⟩;rw [List.getElem_take,List.getElem_drop];simp [Array.getD,dY.1]
theorem fS(h:bg key a.toList)(w5:i≤j)(hj:j<a.size):key (a.getD i nn)≤key (a.getD j nn):=by
 have hi:i<a.size:=by omega
 by_cases e:i=j;·subst e;exact jl _
 ·have:=mh.mp h i j (by simpa using hi) (by simpa using hj) (by omega)
  simpa [Array.getD,hi,hj] using this
variable {st:SortSt}
theorem eU{c:Prop}[Decidable c]{α:Type}{m1 m2:StateT SortSt Sem α}{Q:α→SortSt→Prop}(h1:c→wpS (model prog w) A E s m1 Q st)(h2:¬c→wpS (model prog w) A E s m2 Q st):wpS (model prog w) A E s (if c then m1 else m2) Q st:=by
 by_cases h:c;·rw [ae h];exact h1 h
 ·rw [aa h];exact h2 h
theorem tV{g:Nat}{Q:Unit→SortSt→Prop}(q:Q () (setG st g)):wpS (model prog w) A E s (wV g) Q st:=jT q
variable {k:Int}
theorem h_{a:Int}(h:bB true k a=true):a<k:=fz h
theorem iS{a:Int}(h:bB true k a=false):k≤a:=Int.not_lt.mp (of_decide_eq_false h)
theorem lN{a:Int}(h:bB false k a=true):a≤k:=by have:(!decide (k<a))=true:=h;simpa using this
theorem oB{a:Int}(h:bB false k a=false):k<a:=by have:(!decide (k<a))=false:=h;simpa using this
variable {b:Array Keyed} {o:Nat}
theorem oC(sb:bg key b.toList):∀i j,i≤j→j<b.size-o→bB true k (key (b.getD (o+j) nn))=true→bB true k (key (b.getD (o+i) nn))=true:=fun i j h1 h2 h3=>bQ (Int.lt_of_le_of_lt (fS sb (by omega) (by omega)) (h_ h3))
theorem zA(sb:bg key b.toList):∀i j,i≤j→j<b.size-o→bB false k (key (b.getD (o+j) nn))=true→bB false k (key (b.getD (o+i) nn))=true:=fun i j h1 h2 h3=>by
 have:key (b.getD (o+i) nn)≤k:=dq (fS sb (by omega) (by omega)) (lN h3)
 show (!decide (k<key (b.getD (o+i) nn)))=true;simpa using this
section
variable {a b:Array Keyed} (sa:bg key a.toList) (sb:bg key b.toList) {out:Array Keyed} {ia ib:Nat}
include sa sb
theorem tW(m:MI key a.toList b.toList out.toList ia ib)(hb:ib<b.size)(k:∀j,ia≤j→j<a.size→key (b.getD ib nn)≤key (a.getD j nn)):MI key a.toList b.toList (out.push (b.getD ib nn)).toList ia (ib+1):=by
 have:=m.Cw sb 1 fun x hx y hy=>by rw [wZ hb,bY] at hx;subst hx;obtain ⟨j,h1,h2,rfl⟩:=qt hy;exact k j h1 h2
 rw [wZ hb] at this;rw [nJ];exact this
theorem mQ(m:MI key a.toList b.toList out.toList ia ib)(ha:ia<a.size)(k:∀j,ib≤j→j<b.size→key (a.getD ia nn)≤key (b.getD j nn)):MI key a.toList b.toList (out.push (a.getD ia nn)).toList (ia+1) ib:=by
 have:=m.zu sa 1 fun x hx y hy=>by rw [wZ ha,bY] at hx;subst hx;obtain ⟨j,h1,h2,rfl⟩:=qt hy;exact k j h1 h2
 rw [wZ ha] at this;rw [nJ];exact this
variable {n:Nat}
theorem GW(m:MI key a.toList b.toList out.toList ia ib)(k:∀i j,i<n→ia+i<a.size→ib≤j→j<b.size→key (a.getD (ia+i) nn)≤key (b.getD j nn)):MI key a.toList b.toList (out++a.extract ia (ia+n)).toList (ia+n) ib:=by
 have:=m.zu sa n fun x hx y hy=>by obtain ⟨i,h3,h4,rfl⟩:=Cy hx;obtain ⟨j,h1,h2,rfl⟩:=qt hy;exact k i j h3 h4 h1 h2
 rw [kO,jC,show ia+n-ia=n by omega]
 exact this
theorem zB(m:MI key a.toList b.toList out.toList ia ib)(k:∀i j,i<n→ib+i<b.size→ia≤j→j<a.size→key (b.getD (ib+i) nn)≤key (a.getD j nn)):MI key a.toList b.toList (out++b.extract ib (ib+n)).toList ia (ib+n):=by
 have:=m.Cw sb n fun x hx y hy=>by obtain ⟨i,h3,h4,rfl⟩:=Cy hx;obtain ⟨j,h1,h2,rfl⟩:=qt hy;exact k i j h3 h4 h1 h2
 rw [kO,jC,show ib+n-ib=n by omega]
 exact this
theorem jD(m:MI key a.toList b.toList out.toList ia ib)(e:ib=b.size∨ia=a.size):(out++a.extract ia a.size++b.extract ib b.size).toList.Perm (a.toList++b.toList)∧bg key (out++a.extract ia a.size++b.extract ib b.size).toList:=by rw [kO,kO,zw,zw];refine m.done sa sb fun x hx y hy=>?_;obtain ⟨i,h1,h2,_⟩:=qt hx;obtain ⟨j,h3,h4,_⟩:=qt hy;omega
theorem jE(m:MI key a.toList b.toList out.toList ia ib)(hl:∀y∈b.toList,key y≤key (a.getD (a.size-1) nn))(e:ia+1=a.size):(out++b.extract ib b.size++a.extract ia a.size).toList.Perm (a.toList++b.toList)∧bg key (out++b.extract ib b.size++a.extract ia a.size).toList:=by
 rw [kO,kO,zw,zw];refine m.GV sa sb fun x hx y hy=>?_;obtain ⟨i,h1,h2,rfl⟩:=qt hx;have:=hl y (List.mem_of_mem_drop hy);rw [show i=a.size-1 by omega]
 exact this
end
theorem Pf(h:i7 prog w A s κ key Ok)(oa:fj Ok a)(ob:fj Ok b)(sa:bg key a.toList)(sb:bg key b.toList)(a1:1≤a.size)(b1:1≤b.size)
  (h0:∀x∈a.toList,key (b.getD 0 nn)≤key x) (hl:∀y∈b.toList,key y≤key (a.getD (a.size-1) nn)) (hk:kindOf st=κ) {Q:Array Keyed→SortSt→Prop}
  (q:∀m g,m.toList.Perm (a.toList++b.toList)→bg key m.toList→Q m (setG st g)):wpS (model prog w) A E s (Ct a b) Q st:=by
 rw [Pd];refine ar (wpS_lift (kP ⟨rfl,?_⟩));refine ar (bA (by omega) ?_)
 dsimp only;have m0:MI key a.toList b.toList (#[b.getD 0 nn]:Array Keyed).toList 0 1:=by
  have:MI key a.toList b.toList (#[]:Array Keyed).toList 0 0:=⟨by simp,List.Pairwise.nil,fun x hx=>by simp at hx,fun x hx=>by simp at hx⟩
  exact tW sa sb this (by omega) fun j _ hj=>h0 _ (by simp [Array.getD,hj])
 have cP:∀g,kindOf (setG st g)=κ:=fun _=>hk;by_cases e1:(1 == b.size)=true
 ·rw [ae e1]
  have:=jD sa sb m0 (.inl (eq_of_beq e1));exact aq (q _ (gallopOf st) this.1 this.2)
 rw [aa e1];by_cases e2:(0+1 == a.size)=true
 ·rw [ae e2]
  have:=jE sa sb m0 hl (eq_of_beq e2);exact aq (q _ (gallopOf st) this.1 this.2)
 rw [aa e2];have b2:1<b.size:=by
  have:1≠b.size:=fun e=>e1 (by simp [←e])
  omega
 have a2:0+1<a.size:=by
  have:0+1≠a.size:=fun e=>e2 (by simp [←e])
  omega
 refine ar (iY ?_)
 refine ar (fW (fK (I:=fun x c av=>∃out ia ib mg g,c=(none,out,ia,ib,mg)∧av=setG st g∧MI key a.toList b.toList out.toList ia ib∧ia+1<a.size∧ib<b.size∧x≤ia+ib)
  (Q:=fun c av=>∃m g,c.1=some m∧av=setG st g∧m.toList.Perm (a.toList++b.toList)∧bg key m.toList) ?_ ?_ ⟨_,_,_,_,gallopOf st,rfl,rfl,m0,a2,b2,ba _⟩) ?_)
 ·rintro x c av _ hx ⟨out,ia,ib,mg,g,rfl,rfl,mi,ha,hb,Cz⟩
  dsimp only
  refine ar (fW (fK (I:=fun y c av=>∃out gH ic ac bc,c=(none,out,gH,ic,ac,bc)∧av=setG st g∧MI key a.toList b.toList out.toList gH ic∧gH+1<a.size∧ic<b.size∧ia+ib+y≤gH+ic)
   (Q:=fun c av=>av=setG st g∧((∃m,c.1=some m∧m.toList.Perm (a.toList++b.toList)∧bg key m.toList)∨∃out gH ic ac bc,c=(none,out,gH,ic,ac,bc)∧MI key a.toList b.toList out.toList gH ic∧gH+1<a.size∧ic<b.size∧ia+ib+1≤gH+ic)) ?_ ?_ ⟨_,_,_,_,_,rfl,rfl,mi,ha,hb,ax _⟩) ?_)
  ·rintro y c av _ hy ⟨out,gH,ic,ac,bc,rfl,rfl,mi,ha,hb,ie⟩
   dsimp only;refine ar (bA hb (ar (bA (by omega) (ar (wY h (ob _ hb) (oa gH (by omega)) (cP _) ?_)))))
   dsimp only;by_cases z:key (b.getD ic nn)<key (a.getD gH nn)
   ·rw [bQ z,ae rfl]
    refine ar (bA hb ?_);have ig:=tW sa sb mi hb fun j h1 h2=>dq (dm z) (fS sa h1 h2);by_cases z1:(ic+1 == b.size)=true
    ·rw [ae z1]
     exact aq ⟨rfl,.inl ⟨_,rfl,jD sa sb ig (.inl (eq_of_beq z1))⟩⟩
    ·rw [aa z1]
     have wU:ic+1≠b.size:=fun e=>z1 (by simp [←e])
     by_cases z2:bc+1≥mg
     ·rw [ae z2]
      exact aq ⟨rfl,.inr ⟨_,_,_,_,_,rfl,ig,ha,by omega,by omega⟩⟩
     ·rw [aa z2]
      exact aq ⟨_,_,_,_,_,rfl,rfl,ig,ha,by omega,by omega⟩
   ·rw [bW z,aa (by simp)]
    refine ar (bA (by omega) ?_)
    have ig:=mQ sa sb mi (by omega) fun j h1 h2=>dq (Int.not_lt.mp z) (fS sb h1 h2)
    by_cases z1:(gH+1+1 == a.size)=true
    ·rw [ae z1]
     exact aq ⟨rfl,.inl ⟨_,rfl,jE sa sb ig hl (eq_of_beq z1)⟩⟩
    ·rw [aa z1]
     have wU:gH+1+1≠a.size:=fun e=>z1 (by simp [←e])
     by_cases z2:ac+1≥mg
     ·rw [ae z2]
      exact aq ⟨rfl,.inr ⟨_,_,_,_,_,rfl,ig,by omega,hb,by omega⟩⟩
     ·rw [aa z2]
      exact aq ⟨_,_,_,_,_,rfl,rfl,ig,by omega,hb,by omega⟩
  ·rintro c av ⟨out,gH,ic,ac,bc,rfl,rfl,mi,ha,hb,ie⟩
   exact ⟨rfl,.inr ⟨_,_,_,_,_,rfl,mi,ha,hb,by omega⟩⟩
  ·rintro c av ⟨rfl,⟨m,e,pm⟩ | ⟨out,gH,ic,ac,bc,rfl,mi,ha,hb,ie⟩⟩
   ·obtain ⟨c1,c2⟩:=c
    dsimp only at e;subst e;exact aq ⟨m,g,rfl,rfl,pm⟩
   ·dsimp only
    refine ar (wpS_lift (kP ⟨rfl,?_⟩))
    refine ar (fW (fK (I:=fun y c av=>∃out i j mg ac bc g,c=(none,out,i,j,mg,ac,bc)∧av=setG st g∧MI key a.toList b.toList out.toList i j∧i+1<a.size∧j<b.size∧x+1≤i+j)
     (Q:=fun c av=>(∃m g,c.1=some m∧av=setG st g∧m.toList.Perm (a.toList++b.toList)∧bg key m.toList)∨∃out i j mg ac bc g,c=(none,out,i,j,mg,ac,bc)∧av=setG st g∧MI key a.toList b.toList out.toList i j∧i+1<a.size∧j<b.size∧x+1≤i+j) ?_ ?_ ⟨_,_,_,_,_,_,g,rfl,rfl,mi,ha,hb,by omega⟩) ?_)
    ·clear mi ha hb ie
     rintro y c av _ hy ⟨out,ia,ib,mg,ac,bc,g,rfl,rfl,mi,ha,hb,ie⟩;dsimp only;rcases Nat.lt_or_ge 1 mg with zm | zm
     ·rw [ae zm]
      refine ar (tV ?_);refine ar (bA hb (ar (iR (f:=fun i=>bB false (key (b.getD ib nn)) (key (a.getD (ia+i) nn))) (fun i hi Q q=>iQ h (by omega) oa (ob _ hb) (cP _) q) (by omega) (zA sa) fun k k1 k2 k3=>?_)))
      dsimp only;by_cases zk:k>0
      ·rw [ae zk]
       have ir:=GW sa sb mi (n:=k) fun i j hi aV hj dY=>dq (lN (k2 i hi)) (fS sb hj dY);by_cases w1:(ia+k+1 == a.size)=true
       ·rw [ae w1]
        exact aq (.inl ⟨_,_,rfl,rfl,jE sa sb ir hl (eq_of_beq w1)⟩)
       ·rw [aa w1]
        have CA:ia+k+1≠a.size:=fun e=>w1 (by simp [←e])
        by_cases w2:(ia+k == a.size)=true
        ·rw [ae w2]
         exact aq (.inl ⟨_,_,rfl,rfl,jD sa sb ir (.inr (eq_of_beq w2))⟩)
        ·rw [aa w2]
         have Pg:ia+k≠a.size:=fun e=>w2 (by simp [←e])
         refine ar (bA hb ?_);have cG:=tW sa sb ir hb fun j h1 h2=>by have:=oB (k3 (j-ia) (by omega) (by omega));rw [show ia+(j-ia)=j by omega] at this;exact dm this
         by_cases x1:(ib+1 == b.size)=true
         ·rw [ae x1]
          exact aq (.inl ⟨_,_,rfl,rfl,jD sa sb cG (.inl (eq_of_beq x1))⟩)
         ·rw [aa x1]
          have qu:ib+1≠b.size:=fun e=>x1 (by simp [←e])
          refine ar (bA (by omega) (ar (iR (f:=fun i=>bB true (key (a.getD (ia+k) nn)) (key (b.getD (ib+1+i) nn))) (fun i hi Q q=>iQ h (by omega) ob (oa _ (by omega)) (cP _) q) (by omega) (oC sb) fun k' q1 q2 q3=>?_)))
          dsimp only;by_cases en:k'>0
          ·rw [ae en]
           have dD:=zB sa sb cG (n:=k') fun i j hi aV hj dY=>dq (dm (h_ (q2 i hi))) (fS sa hj dY);by_cases x2:(ib+1+k' == b.size)=true
           ·rw [ae x2]
            exact aq (.inl ⟨_,_,rfl,rfl,jD sa sb dD (.inl (eq_of_beq x2))⟩)
           ·rw [aa x2]
            have qv:ib+1+k'≠b.size:=fun e=>x2 (by simp [←e])
            refine ar (bA (by omega) ?_)
            have aX:=mQ sa sb dD (by omega) fun j h1 h2=>by have:=iS (q3 (j-(ib+1)) (by omega) (by omega));rwa [show ib+1+(j-(ib+1))=j by omega] at this
            by_cases y1:(ia+k+1+1 == a.size)=true
            ·rw [ae y1]
             exact aq (.inl ⟨_,_,rfl,rfl,jE sa sb aX hl (eq_of_beq y1)⟩)
            ·rw [aa y1]
             have iu:ia+k+1+1≠a.size:=fun e=>y1 (by simp [←e])
             exact eU (fun _=>aq (.inr ⟨_,_,_,_,_,_,_,rfl,rfl,aX,by omega,by omega,by omega⟩)) (fun _=>aq ⟨_,_,_,_,_,_,_,rfl,rfl,aX,by omega,by omega,by omega⟩)
          ·rw [aa en]
           obtain rfl:k'=0:=by omega
           refine ar (bA (by omega) ?_)
           have aX:=mQ sa sb cG (by omega) fun j h1 h2=>by have:=iS (q3 (j-(ib+1)) (by omega) (by omega));rwa [show ib+1+(j-(ib+1))=j by omega] at this
           by_cases y1:(ia+k+1+1 == a.size)=true
           ·rw [ae y1]
            exact aq (.inl ⟨_,_,rfl,rfl,jE sa sb aX hl (eq_of_beq y1)⟩)
           ·rw [aa y1]
            have iu:ia+k+1+1≠a.size:=fun e=>y1 (by simp [←e])
            exact eU (fun _=>aq (.inr ⟨_,_,_,_,_,_,_,rfl,rfl,aX,by omega,by omega,by omega⟩)) (fun _=>aq ⟨_,_,_,_,_,_,_,rfl,rfl,aX,by omega,by omega,by omega⟩)
      ·rw [aa zk]
       obtain rfl:k=0:=by omega
       refine ar (bA hb ?_);have cG:=tW sa sb mi hb fun j h1 h2=>by have:=oB (k3 (j-ia) (by omega) (by omega));rw [show ia+(j-ia)=j by omega] at this;exact dm this
       by_cases x1:(ib+1 == b.size)=true
       ·rw [ae x1]
        exact aq (.inl ⟨_,_,rfl,rfl,jD sa sb cG (.inl (eq_of_beq x1))⟩)
       ·rw [aa x1]
        have qu:ib+1≠b.size:=fun e=>x1 (by simp [←e])
        refine ar (bA (by omega) (ar (iR (f:=fun i=>bB true (key (a.getD (ia) nn)) (key (b.getD (ib+1+i) nn))) (fun i hi Q q=>iQ h (by omega) ob (oa _ (by omega)) (cP _) q) (by omega) (oC sb) fun k' q1 q2 q3=>?_)))
        dsimp only;by_cases en:k'>0
        ·rw [ae en]
         have dD:=zB sa sb cG (n:=k') fun i j hi aV hj dY=>dq (dm (h_ (q2 i hi))) (fS sa hj dY);by_cases x2:(ib+1+k' == b.size)=true
         ·rw [ae x2]
          exact aq (.inl ⟨_,_,rfl,rfl,jD sa sb dD (.inl (eq_of_beq x2))⟩)
         ·rw [aa x2]
          have qv:ib+1+k'≠b.size:=fun e=>x2 (by simp [←e])
          refine ar (bA (by omega) ?_)
          have aX:=mQ sa sb dD (by omega) fun j h1 h2=>by have:=iS (q3 (j-(ib+1)) (by omega) (by omega));rwa [show ib+1+(j-(ib+1))=j by omega] at this
          by_cases y1:(ia+1+1 == a.size)=true
          ·rw [ae y1]
           exact aq (.inl ⟨_,_,rfl,rfl,jE sa sb aX hl (eq_of_beq y1)⟩)
          ·rw [aa y1]
           have iu:ia+1+1≠a.size:=fun e=>y1 (by simp [←e])
           exact eU (fun _=>aq (.inr ⟨_,_,_,_,_,_,_,rfl,rfl,aX,by omega,by omega,by omega⟩)) (fun _=>aq ⟨_,_,_,_,_,_,_,rfl,rfl,aX,by omega,by omega,by omega⟩)
        ·rw [aa en]
         obtain rfl:k'=0:=by omega
         refine ar (bA (by omega) ?_)
         have aX:=mQ sa sb cG (by omega) fun j h1 h2=>by have:=iS (q3 (j-(ib+1)) (by omega) (by omega));rwa [show ib+1+(j-(ib+1))=j by omega] at this
         by_cases y1:(ia+1+1 == a.size)=true
         ·rw [ae y1]
          exact aq (.inl ⟨_,_,rfl,rfl,jE sa sb aX hl (eq_of_beq y1)⟩)
         ·rw [aa y1]
          have iu:ia+1+1≠a.size:=fun e=>y1 (by simp [←e])
          exact eU (fun _=>aq (.inr ⟨_,_,_,_,_,_,_,rfl,rfl,aX,by omega,by omega,by omega⟩)) (fun _=>aq ⟨_,_,_,_,_,_,_,rfl,rfl,aX,by omega,by omega,by omega⟩)
     ·rw [aa (by omega)]
      refine ar (tV ?_);refine ar (bA hb (ar (iR (f:=fun i=>bB false (key (b.getD ib nn)) (key (a.getD (ia+i) nn))) (fun i hi Q q=>iQ h (by omega) oa (ob _ hb) (cP _) q) (by omega) (zA sa) fun k k1 k2 k3=>?_)))
      dsimp only;by_cases zk:k>0
      ·rw [ae zk]
       have ir:=GW sa sb mi (n:=k) fun i j hi aV hj dY=>dq (lN (k2 i hi)) (fS sb hj dY);by_cases w1:(ia+k+1 == a.size)=true
       ·rw [ae w1]
        exact aq (.inl ⟨_,_,rfl,rfl,jE sa sb ir hl (eq_of_beq w1)⟩)
       ·rw [aa w1]
        have CA:ia+k+1≠a.size:=fun e=>w1 (by simp [←e])
        by_cases w2:(ia+k == a.size)=true
        ·rw [ae w2]
         exact aq (.inl ⟨_,_,rfl,rfl,jD sa sb ir (.inr (eq_of_beq w2))⟩)
        ·rw [aa w2]
         have Pg:ia+k≠a.size:=fun e=>w2 (by simp [←e])
         refine ar (bA hb ?_);have cG:=tW sa sb ir hb fun j h1 h2=>by have:=oB (k3 (j-ia) (by omega) (by omega));rw [show ia+(j-ia)=j by omega] at this;exact dm this
         by_cases x1:(ib+1 == b.size)=true
         ·rw [ae x1]
          exact aq (.inl ⟨_,_,rfl,rfl,jD sa sb cG (.inl (eq_of_beq x1))⟩)
         ·rw [aa x1]
          have qu:ib+1≠b.size:=fun e=>x1 (by simp [←e])
          refine ar (bA (by omega) (ar (iR (f:=fun i=>bB true (key (a.getD (ia+k) nn)) (key (b.getD (ib+1+i) nn))) (fun i hi Q q=>iQ h (by omega) ob (oa _ (by omega)) (cP _) q) (by omega) (oC sb) fun k' q1 q2 q3=>?_)))
          dsimp only;by_cases en:k'>0
          ·rw [ae en]
           have dD:=zB sa sb cG (n:=k') fun i j hi aV hj dY=>dq (dm (h_ (q2 i hi))) (fS sa hj dY);by_cases x2:(ib+1+k' == b.size)=true
           ·rw [ae x2]
            exact aq (.inl ⟨_,_,rfl,rfl,jD sa sb dD (.inl (eq_of_beq x2))⟩)
           ·rw [aa x2]
            have qv:ib+1+k'≠b.size:=fun e=>x2 (by simp [←e])
            refine ar (bA (by omega) ?_)
            have aX:=mQ sa sb dD (by omega) fun j h1 h2=>by have:=iS (q3 (j-(ib+1)) (by omega) (by omega));rwa [show ib+1+(j-(ib+1))=j by omega] at this
            by_cases y1:(ia+k+1+1 == a.size)=true
            ·rw [ae y1]
             exact aq (.inl ⟨_,_,rfl,rfl,jE sa sb aX hl (eq_of_beq y1)⟩)
            ·rw [aa y1]
             have iu:ia+k+1+1≠a.size:=fun e=>y1 (by simp [←e])
             exact eU (fun _=>aq (.inr ⟨_,_,_,_,_,_,_,rfl,rfl,aX,by omega,by omega,by omega⟩)) (fun _=>aq ⟨_,_,_,_,_,_,_,rfl,rfl,aX,by omega,by omega,by omega⟩)
          ·rw [aa en]
           obtain rfl:k'=0:=by omega
           refine ar (bA (by omega) ?_)
           have aX:=mQ sa sb cG (by omega) fun j h1 h2=>by have:=iS (q3 (j-(ib+1)) (by omega) (by omega));rwa [show ib+1+(j-(ib+1))=j by omega] at this
           by_cases y1:(ia+k+1+1 == a.size)=true
           ·rw [ae y1]
            exact aq (.inl ⟨_,_,rfl,rfl,jE sa sb aX hl (eq_of_beq y1)⟩)
           ·rw [aa y1]
            have iu:ia+k+1+1≠a.size:=fun e=>y1 (by simp [←e])
            exact eU (fun _=>aq (.inr ⟨_,_,_,_,_,_,_,rfl,rfl,aX,by omega,by omega,by omega⟩)) (fun _=>aq ⟨_,_,_,_,_,_,_,rfl,rfl,aX,by omega,by omega,by omega⟩)
      ·rw [aa zk]
       obtain rfl:k=0:=by omega
       refine ar (bA hb ?_);have cG:=tW sa sb mi hb fun j h1 h2=>by have:=oB (k3 (j-ia) (by omega) (by omega));rw [show ia+(j-ia)=j by omega] at this;exact dm this
       by_cases x1:(ib+1 == b.size)=true
       ·rw [ae x1]
        exact aq (.inl ⟨_,_,rfl,rfl,jD sa sb cG (.inl (eq_of_beq x1))⟩)
       ·rw [aa x1]
        have qu:ib+1≠b.size:=fun e=>x1 (by simp [←e])
        refine ar (bA (by omega) (ar (iR (f:=fun i=>bB true (key (a.getD (ia) nn)) (key (b.getD (ib+1+i) nn))) (fun i hi Q q=>iQ h (by omega) ob (oa _ (by omega)) (cP _) q) (by omega) (oC sb) fun k' q1 q2 q3=>?_)))
        dsimp only;by_cases en:k'>0
        ·rw [ae en]
         have dD:=zB sa sb cG (n:=k') fun i j hi aV hj dY=>dq (dm (h_ (q2 i hi))) (fS sa hj dY);by_cases x2:(ib+1+k' == b.size)=true
         ·rw [ae x2]
          exact aq (.inl ⟨_,_,rfl,rfl,jD sa sb dD (.inl (eq_of_beq x2))⟩)
         ·rw [aa x2]
          have qv:ib+1+k'≠b.size:=fun e=>x2 (by simp [←e])
          refine ar (bA (by omega) ?_)
          have aX:=mQ sa sb dD (by omega) fun j h1 h2=>by have:=iS (q3 (j-(ib+1)) (by omega) (by omega));rwa [show ib+1+(j-(ib+1))=j by omega] at this
          by_cases y1:(ia+1+1 == a.size)=true
          ·rw [ae y1]
           exact aq (.inl ⟨_,_,rfl,rfl,jE sa sb aX hl (eq_of_beq y1)⟩)
          ·rw [aa y1]
           have iu:ia+1+1≠a.size:=fun e=>y1 (by simp [←e])
           exact eU (fun _=>aq (.inr ⟨_,_,_,_,_,_,_,rfl,rfl,aX,by omega,by omega,by omega⟩)) (fun _=>aq ⟨_,_,_,_,_,_,_,rfl,rfl,aX,by omega,by omega,by omega⟩)
        ·rw [aa en]
         obtain rfl:k'=0:=by omega
         refine ar (bA (by omega) ?_)
         have aX:=mQ sa sb cG (by omega) fun j h1 h2=>by have:=iS (q3 (j-(ib+1)) (by omega) (by omega));rwa [show ib+1+(j-(ib+1))=j by omega] at this
         by_cases y1:(ia+1+1 == a.size)=true
         ·rw [ae y1]
          exact aq (.inl ⟨_,_,rfl,rfl,jE sa sb aX hl (eq_of_beq y1)⟩)
         ·rw [aa y1]
          have iu:ia+1+1≠a.size:=fun e=>y1 (by simp [←e])
          exact eU (fun _=>aq (.inr ⟨_,_,_,_,_,_,_,rfl,rfl,aX,by omega,by omega,by omega⟩)) (fun _=>aq ⟨_,_,_,_,_,_,_,rfl,rfl,aX,by omega,by omega,by omega⟩)
    ·rintro c av ⟨out,i,j,mg,ac,bc,g,rfl,rfl,mi,ha,hb,ie⟩
     exact .inr ⟨_,_,_,_,_,_,_,rfl,rfl,mi,ha,hb,ie⟩
    ·rintro c av (⟨m,g,e,rfl,pm⟩ | ⟨out,i,j,mg,ac,bc,g,rfl,rfl,mi,ha,hb,ie⟩)
     ·obtain ⟨c1,c2⟩:=c
      dsimp only at e;subst e;exact aq ⟨m,g,rfl,rfl,pm⟩
     ·dsimp only
      exact ar (tV (aq ⟨_,_,_,_,_,rfl,rfl,mi,ha,hb,by omega⟩))
 ·rintro c av ⟨out,ia,ib,mg,g,rfl,rfl,mi,ha,hb,Cz⟩
  exfalso
  omega
 ·rintro c av ⟨m,g,e,rfl,pm,sm⟩
  obtain ⟨c1,c2⟩:=c;dsimp only at e;subst e;exact aq (q m g pm sm)
end
theorem Ph(a b:Array Keyed):Cu a b=(do
 rule "list.sort.merge-hi"
 let total:=a.size+b.size
 let done (out:Array Keyed) (na nb:Nat):=a.extract 0 na++b.extract 0 nb++out.reverse
 let zC (out:Array Keyed) (na nb:Nat):=b.extract 0 nb++a.extract 0 na++out.reverse
 let mut na:=a.size-1
 let mut nb:=b.size
 let mut out:Array Keyed:=#[←elem' a na]
 if na == 0 then return done out na nb
 if nb == 1 then return zC out na nb
 let mut minGallop:=gallopOf (←get)
 for _ in [0:total] do
  let mut i8:=0
  let mut i9:=0
  for _ in [0:total] do
   let some Pj ←lt' (←elem' b (nb-1)) (←elem' a (na-1)) | return done out na nb
   if Pj then
    na:=na-1;out:=out.push (←elem' a na);i8:=i8+1;i9:=0
    if na == 0 then return done out na nb
    if i8≥minGallop then break
   else
    nb:=nb-1;out:=out.push (←elem' b nb);i9:=i9+1;i8:=0
    if nb == 1 then return zC out na nb
    if i9≥minGallop then break
  rule "list.sort.gallop"
  minGallop:=minGallop+1
  for _ in [0:total] do
   if minGallop>1 then minGallop:=minGallop-1
   wV minGallop
   let some at_ ←oA false (←elem' b (nb-1)) a 0 na (na-1) | return done out na nb
   let k:=na-at_
   i8:=k
   if k>0 then
    out:=out++(a.extract at_ na).reverse;na:=at_
    if na == 0 then return done out na nb
   nb:=nb-1;out:=out.push (←elem' b nb)
   if nb == 1 then return zC out na nb
   let some at_ ←oA true (←elem' a (na-1)) b 0 nb (nb-1) | return done out na nb
   let k:=nb-at_
   i9:=k
   if k>0 then
    out:=out++(b.extract at_ nb).reverse;nb:=at_
    if nb == 1 then return zC out na nb
    if nb == 0 then return done out na nb
   na:=na-1;out:=out.push (←elem' a na)
   if na == 0 then return done out na nb
   if i8<7 && i9<7 then break
  minGallop:=minGallop+1
  wV minGallop
 unsupported "internal:list.sort.merge-bound"):=rfl
section
variable {key:Keyed→Int}
theorem tX(h:bg key l):bg (fun x=>-key x) l.reverse:=by unfold bg;rw [Bw];exact List.Pairwise.imp (fun h=>Int.neg_le_neg h) h
theorem GX(h:bg (fun x=>-key x) l):bg key l.reverse:=by unfold bg;rw [Bw];exact List.Pairwise.imp (fun h=>Int.le_of_neg_le_neg h) h
variable {a:Array Keyed} {n:Nat}
theorem j9(h:n≤a.size):a.toList.reverse.drop (a.size-n)=(a.extract 0 n).toList.reverse:=by rw [List.drop_reverse,jC,List.drop_zero,Nat.sub_zero,eA,show a.size-(a.size-n)=n by omega]
theorem zD{m:Nat}(h:n≤a.size)(hm:m≤n):(a.toList.reverse.drop (a.size-n)).take (n-m)=(a.extract m n).reverse.toList:=by rw [j9 h,sO,jC,jC,List.drop_zero,Nat.sub_zero,List.take_reverse,me,eA,show min n a.size-(n-m)=m by omega,List.drop_take]
theorem mR{m:Nat}(h:n≤a.size){x:Keyed}(hx:x∈(a.extract m n).toList):∃j,m≤j∧j<n∧x=a.getD j nn:=by rw [jC] at hx;obtain ⟨j,h1,h2,rfl⟩:=Cy hx;exact ⟨m+j,by omega,by omega,rfl⟩
theorem GY(h:n≤a.size)(h1:1≤n):(a.extract (n-1) n).reverse.toList=[a.getD (n-1) nn]:=by
 rw [sO,jC,show n-(n-1)=1 by omega,wZ (by omega)]
 rfl
def MH(key:Keyed→Int)(a b out:Array Keyed)(na nb:Nat):Prop:=MI (fun x=>-key x) a.toList.reverse b.toList.reverse out.toList (a.size-na) (b.size-nb)∧na≤a.size∧nb≤b.size
variable {a b:Array Keyed} (sa:bg key a.toList) (sb:bg key b.toList) {out:Array Keyed} {na nb:Nat}
include sa sb
variable {k:Nat}
theorem CB(m:MH key a b out na nb)(hk:k≤na)(c:∀i j,k≤i→i<na→j<nb→key (b.getD j nn)≤key (a.getD i nn)):MH key a b (out++(a.extract k na).reverse) k nb:=by
 obtain ⟨m,ha,hb⟩:=m;refine ⟨?_,by omega,hb⟩
 have:=m.zu (tX sa) (na-k) fun x hx y hy=>by rw [zD ha hk,sO,nK] at hx;rw [j9 hb,nK] at hy;obtain ⟨i,i1,i2,rfl⟩:=mR ha hx;obtain ⟨j,j1,j2,rfl⟩:=mR hb hy;have:=c i j i1 i2 j2;omega
 rw [zD ha hk,show a.size-na+(na-k)=a.size-k by omega] at this
 rw [kO];exact this
theorem w6(m:MH key a b out na nb)(hk:k≤nb)(c:∀i j,k≤i→i<nb→j<na→key (a.getD j nn)≤key (b.getD i nn)):MH key a b (out++(b.extract k nb).reverse) na k:=by
 obtain ⟨m,ha,hb⟩:=m;refine ⟨?_,ha,by omega⟩
 have:=m.Cw (tX sb) (nb-k) fun x hx y hy=>by rw [zD hb hk,sO,nK] at hx;rw [j9 ha,nK] at hy;obtain ⟨i,i1,i2,rfl⟩:=mR hb hx;obtain ⟨j,j1,j2,rfl⟩:=mR ha hy;have:=c i j i1 i2 j2;omega
 rw [zD hb hk,show b.size-nb+(nb-k)=b.size-k by omega] at this
 rw [kO];exact this
theorem lO(m:MH key a b out na nb)(h1:1≤na)(c:∀j,j<nb→key (b.getD j nn)≤key (a.getD (na-1) nn)):MH key a b (out.push (a.getD (na-1) nn)) (na-1) nb:=by
 have:=CB sa sb m (k:=na-1) (by omega) fun i j i1 i2 j1=>by
  rw [show i=na-1 by omega]
  exact c j j1
 have e:out++(a.extract (na-1) na).reverse=out.push (a.getD (na-1) nn):=by apply Array.toList_inj.mp;rw [kO,GY m.2.1 h1,nJ]
 rw [e] at this;exact this
theorem w9(m:MH key a b out na nb)(h1:1≤nb)(c:∀j,j<na→key (a.getD j nn)≤key (b.getD (nb-1) nn)):MH key a b (out.push (b.getD (nb-1) nn)) na (nb-1):=by
 have:=w6 sa sb m (k:=nb-1) (by omega) fun i j i1 i2 j1=>by
  rw [show i=nb-1 by omega]
  exact c j j1
 have e:out++(b.extract (nb-1) nb).reverse=out.push (b.getD (nb-1) nn):=by apply Array.toList_inj.mp;rw [kO,GY m.2.2 h1,nJ]
 rw [e] at this;exact this
theorem gJ(m:MH key a b out na nb)(e:na=0∨nb=0):(a.extract 0 na++b.extract 0 nb++out.reverse).toList.Perm (a.toList++b.toList)∧bg key (a.extract 0 na++b.extract 0 nb++out.reverse).toList:=by
 obtain ⟨m,ha,hb⟩:=m;have:=m.GV (tX sa) (tX sb) fun x hx y hy=>by rw [j9 ha,nK] at hx;rw [j9 hb,nK] at hy;obtain ⟨i,i1,i2,_⟩:=mR ha hx;obtain ⟨j,j1,j2,_⟩:=mR hb hy;omega
 rw [j9 ha,j9 hb] at this;have er:(a.extract 0 na++b.extract 0 nb++out.reverse).toList=(out.toList++(b.extract 0 nb).toList.reverse++(a.extract 0 na).toList.reverse).reverse:=by simp
 rw [er];refine ⟨(nM _).trans (this.1.trans ?_),GX this.2⟩;exact (nM _).append (nM _)
theorem lQ(m:MH key a b out na nb)(h0:∀x∈a.toList,key (b.getD 0 nn)≤key x)(e:nb=1):(b.extract 0 nb++a.extract 0 na++out.reverse).toList.Perm (a.toList++b.toList)∧bg key (b.extract 0 nb++a.extract 0 na++out.reverse).toList:=by
 obtain ⟨m,ha,hb⟩:=m;have:=m.done (tX sa) (tX sb) fun x hx y hy=>by
  rw [j9 ha,nK] at hx;rw [j9 hb,nK] at hy;obtain ⟨i,i1,i2,rfl⟩:=mR ha hx;obtain ⟨j,j1,j2,rfl⟩:=mR hb hy;have:=h0 (a.getD i nn) (by simp [Array.getD,show i<a.size by omega])
  rw [show j=0 by omega]
  omega
 rw [j9 ha,j9 hb] at this;have er:(b.extract 0 nb++a.extract 0 na++out.reverse).toList=(out.toList++(a.extract 0 na).toList.reverse++(b.extract 0 nb).toList.reverse).reverse:=by simp
 rw [er];refine ⟨(nM _).trans (this.1.trans ?_),GX this.2⟩;exact (nM _).append (nM _)
end
section
variable {prog:Program} {w:World} {A:Around} {E:aK} {s:Shared} {κ:SortKind} {key:Keyed→Int} {Ok:Keyed→Prop}
theorem Pk(h:i7 prog w A s κ key Ok){a b:Array Keyed}(oa:fj Ok a)(ob:fj Ok b)(sa:bg key a.toList)(sb:bg key b.toList)(a1:1≤a.size)(b1:1≤b.size)
  (h0:∀x∈a.toList,key (b.getD 0 nn)≤key x) (hl:∀y∈b.toList,key y≤key (a.getD (a.size-1) nn)) {st:SortSt} (hk:kindOf st=κ) {Q:Array Keyed→SortSt→Prop}
  (q:∀m g,m.toList.Perm (a.toList++b.toList)→bg key m.toList→Q m (setG st g)):wpS (model prog w) A E s (Cu a b) Q st:=by
 rw [Ph];refine ar (wpS_lift (kP ⟨rfl,?_⟩));refine ar (bA (by omega) ?_)
 dsimp only;have m0:MH key a b (#[a.getD (a.size-1) nn]:Array Keyed) (a.size-1) b.size:=by
  have:MH key a b (#[]:Array Keyed) a.size b.size:=⟨⟨by simp,List.Pairwise.nil,fun x hx=>by simp at hx,fun x hx=>by simp at hx⟩,ax _,ax _⟩
  exact lO sa sb this a1 fun j hj=>hl _ (by simp [Array.getD,hj])
 have cP:∀g,kindOf (setG st g)=κ:=fun _=>hk;by_cases e1:(a.size-1 == 0)=true
 ·rw [ae e1]
  have:=gJ sa sb m0 (.inl (eq_of_beq e1));exact aq (q _ (gallopOf st) this.1 this.2)
 rw [aa e1];by_cases e2:(b.size == 1)=true
 ·rw [ae e2]
  have:=lQ sa sb m0 h0 (eq_of_beq e2);exact aq (q _ (gallopOf st) this.1 this.2)
 rw [aa e2];have a2:1≤a.size-1:=by
  have:a.size-1≠0:=fun e=>e1 (by simp [e])
  omega
 have b2:2≤b.size:=by
  have:b.size≠1:=fun e=>e2 (by simp [e])
  omega
 refine ar (iY ?_)
 refine ar (fW (fK (I:=fun x c av=>∃(out:Array Keyed) (na nb mg g:Nat),c=(none,na,nb,out,mg)∧av=setG st g∧MH key a b out na nb∧1≤na∧2≤nb∧x+na+nb≤a.size+b.size)
  (Q:=fun c av=>∃(m:Array Keyed) (g:Nat),c.1=some m∧av=setG st g∧m.toList.Perm (a.toList++b.toList)∧bg key m.toList) ?_ ?_ ⟨_,a.size-1,b.size,_,gallopOf st,rfl,rfl,m0,a2,b2,show 0+(a.size-1)+b.size≤a.size+b.size by omega⟩) ?_)
 ·rintro x c av _ hx ⟨out,na,nb,mg,g,rfl,rfl,mi,ha,hb,Cz⟩
  dsimp only
  refine ar (fW (fK (I:=fun y c av=>∃(out:Array Keyed) (bu b9 ac bc:Nat),c=(none,bu,b9,out,ac,bc)∧av=setG st g∧MH key a b out bu b9∧1≤bu∧2≤b9∧y+bu+b9≤na+nb)
   (Q:=fun c av=>av=setG st g∧((∃m:Array Keyed,c.1=some m∧m.toList.Perm (a.toList++b.toList)∧bg key m.toList)∨∃(out:Array Keyed) (bu b9 ac bc:Nat),c=(none,bu,b9,out,ac,bc)∧MH key a b out bu b9∧1≤bu∧2≤b9∧1+bu+b9≤na+nb)) ?_ ?_ ⟨_,na,nb,_,_,rfl,rfl,mi,ha,hb,show 0+na+nb≤na+nb by omega⟩) ?_)
  ·rintro y c av _ hy ⟨out,bu,b9,ac,bc,rfl,rfl,mi,ha,hb,ie⟩
   have w_:=mi.2.1;have p9:=mi.2.2;dsimp only;refine ar (bA (by omega) (ar (bA (by omega) (ar (wY h (ob (b9-1) (by omega)) (oa (bu-1) (by omega)) (cP _) ?_)))))
   dsimp only;by_cases z:key (b.getD (b9-1) nn)<key (a.getD (bu-1) nn)
   ·rw [bQ z,ae rfl]
    refine ar (bA (by omega) ?_)
    have ig:=lO sa sb mi ha fun j hj=>dq (fS sb (by omega) (by omega)) (dm z)
    by_cases z1:(bu-1 == 0)=true
    ·rw [ae z1]
     exact aq ⟨rfl,.inl ⟨_,rfl,gJ sa sb ig (.inl (eq_of_beq z1))⟩⟩
    ·rw [aa z1]
     have wU:bu-1≠0:=fun e=>z1 (by simp [e])
     exact eU (fun _=>aq ⟨rfl,.inr ⟨_,_,_,_,_,rfl,ig,by omega,hb,by omega⟩⟩) (fun _=>aq ⟨_,_,_,_,_,rfl,rfl,ig,by omega,hb,by omega⟩)
   ·rw [bW z,aa (by simp)]
    refine ar (bA (by omega) ?_)
    have ig:=w9 sa sb mi (by omega) fun j hj=>dq (fS sa (by omega) (by omega)) (Int.not_lt.mp z)
    by_cases z1:(b9-1 == 1)=true
    ·rw [ae z1]
     exact aq ⟨rfl,.inl ⟨_,rfl,lQ sa sb ig h0 (eq_of_beq z1)⟩⟩
    ·rw [aa z1]
     have wU:b9-1≠1:=fun e=>z1 (by simp [e])
     exact eU (fun _=>aq ⟨rfl,.inr ⟨_,_,_,_,_,rfl,ig,ha,by omega,by omega⟩⟩) (fun _=>aq ⟨_,_,_,_,_,rfl,rfl,ig,ha,by omega,by omega⟩)
  ·rintro c av ⟨out,bu,b9,ac,bc,rfl,rfl,mi,ha,hb,ie⟩
   exact ⟨rfl,.inr ⟨_,_,_,_,_,rfl,mi,ha,hb,by omega⟩⟩
  ·rintro c av ⟨rfl,⟨m,e,pm⟩ | ⟨out,bu,b9,ac,bc,rfl,mi,ha,hb,ie⟩⟩
   ·obtain ⟨c1,c2⟩:=c
    dsimp only at e;subst e;exact aq ⟨m,g,rfl,rfl,pm⟩
   ·dsimp only
    refine ar (wpS_lift (kP ⟨rfl,?_⟩))
    refine ar (fW (fK (I:=fun y c av=>∃(out:Array Keyed) (i j mg ac bc g:Nat),c=(none,i,j,out,mg,ac,bc)∧av=setG st g∧MH key a b out i j∧1≤i∧2≤j∧x+1+i+j≤a.size+b.size)
     (Q:=fun c av=>(∃(m:Array Keyed) (g:Nat),c.1=some m∧av=setG st g∧m.toList.Perm (a.toList++b.toList)∧bg key m.toList)∨∃(out:Array Keyed) (i j mg ac bc g:Nat),c=(none,i,j,out,mg,ac,bc)∧av=setG st g∧MH key a b out i j∧1≤i∧2≤j∧x+1+i+j≤a.size+b.size) ?_ ?_ ⟨_,bu,b9,_,_,_,g,rfl,rfl,mi,ha,hb,by omega⟩) ?_)
    ·clear mi ha hb ie
     rintro y c av _ hy ⟨out,na,nb,mg,ac,bc,g,rfl,rfl,mi,ha,hb,ie⟩;have w_:=mi.2.1;have p9:=mi.2.2;dsimp only;rcases Nat.lt_or_ge 1 mg with zm | zm
     ·rw [ae zm]
      refine ar (tV ?_);refine ar (bA (by omega) (ar (iR (f:=fun i=>bB false (key (b.getD (nb-1) nn)) (key (a.getD (0+i) nn))) (fun i hi Q q=>iQ h (by omega) oa (ob _ (by omega)) (cP _) q) (by omega) (fun i j h1 h2 h3=>zA sa (o:=0) i j h1 (by omega) h3) fun k k1 k2 k3=>?_)))
      dsimp only;by_cases zk:na-k>0
      ·rw [ae zk]
       have ir:=CB sa sb mi (k:=k) k1 fun i j hi aV hj=>by have:=oB (k3 i hi aV);rw [d9] at this;exact dq (fS sb (by omega) (by omega)) (dm this)
       by_cases w1:(k == 0)=true
       ·rw [ae w1]
        exact aq (.inl ⟨_,_,rfl,rfl,gJ sa sb ir (.inl (eq_of_beq w1))⟩)
       ·rw [aa w1]
        have CA:k≠0:=fun e=>w1 (by simp [e])
        refine ar (bA (by have:=ir.2.2;omega) ?_)
        have cG:=w9 sa sb ir (by omega) fun j h1=>by have:=lN (k2 j h1);rw [d9] at this;exact this
        by_cases x1:(nb-1 == 1)=true
        ·rw [ae x1]
         exact aq (.inl ⟨_,_,rfl,rfl,lQ sa sb cG h0 (eq_of_beq x1)⟩)
        ·rw [aa x1]
         have qu:nb-1≠1:=fun e=>x1 (by simp [e])
         have p9:=cG.2.2;refine ar (bA (by omega) (ar (iR (f:=fun i=>bB true (key (a.getD (k-1) nn)) (key (b.getD (0+i) nn))) (fun i hi Q q=>iQ h (by omega) ob (oa _ (by omega)) (cP _) q) (by omega) (fun i j h1 h2 h3=>oC sb (o:=0) i j h1 (by omega) h3) fun k' q1 q2 q3=>?_)))
         dsimp only;by_cases en:nb-1-k'>0
         ·rw [ae en]
          have dD:=w6 sa sb cG (k:=k') q1 fun i j hi aV hj=>by have:=iS (q3 i hi aV);rw [d9] at this;exact dq (fS sa (by omega) (by omega)) this
          by_cases x2:(k' == 1)=true
          ·rw [ae x2]
           exact aq (.inl ⟨_,_,rfl,rfl,lQ sa sb dD h0 (eq_of_beq x2)⟩)
          ·rw [aa x2]
           have qv:k'≠1:=fun e=>x2 (by simp [e])
           by_cases x3:(k' == 0)=true
           ·rw [ae x3]
            exact aq (.inl ⟨_,_,rfl,rfl,gJ sa sb dD (.inr (eq_of_beq x3))⟩)
           ·rw [aa x3]
            have CD:k'≠0:=fun e=>x3 (by simp [e])
            refine ar (bA (by omega) ?_)
            have aX:=lO sa sb dD (by omega) fun j h1=>by have:=h_ (q2 j h1);rw [d9] at this;exact dm this
            by_cases y1:(k-1 == 0)=true
            ·rw [ae y1]
             exact aq (.inl ⟨_,_,rfl,rfl,gJ sa sb aX (.inl (eq_of_beq y1))⟩)
            ·rw [aa y1]
             have iu:k-1≠0:=fun e=>y1 (by simp [e])
             exact eU (fun _=>aq (.inr ⟨_,_,_,_,_,_,_,rfl,rfl,aX,by omega,by omega,by omega⟩)) (fun _=>aq ⟨_,_,_,_,_,_,_,rfl,rfl,aX,by omega,by omega,by omega⟩)
         ·rw [aa en]
          obtain rfl:k'=nb-1:=by omega
          refine ar (bA (by omega) ?_)
          have aX:=lO sa sb cG (by omega) fun j h1=>by have:=h_ (q2 j h1);rw [d9] at this;exact dm this
          by_cases y1:(k-1 == 0)=true
          ·rw [ae y1]
           exact aq (.inl ⟨_,_,rfl,rfl,gJ sa sb aX (.inl (eq_of_beq y1))⟩)
          ·rw [aa y1]
           have iu:k-1≠0:=fun e=>y1 (by simp [e])
           exact eU (fun _=>aq (.inr ⟨_,_,_,_,_,_,_,rfl,rfl,aX,by omega,by omega,by omega⟩)) (fun _=>aq ⟨_,_,_,_,_,_,_,rfl,rfl,aX,by omega,by omega,by omega⟩)
      ·rw [aa zk]
       obtain rfl:k=na:=by omega
       refine ar (bA (by have:=mi.2.2;omega) ?_)
       have cG:=w9 sa sb mi (by omega) fun j h1=>by have:=lN (k2 j h1);rw [d9] at this;exact this
       by_cases x1:(nb-1 == 1)=true
       ·rw [ae x1]
        exact aq (.inl ⟨_,_,rfl,rfl,lQ sa sb cG h0 (eq_of_beq x1)⟩)
       ·rw [aa x1]
        have qu:nb-1≠1:=fun e=>x1 (by simp [e])
        have p9:=cG.2.2;refine ar (bA (by omega) (ar (iR (f:=fun i=>bB true (key (a.getD (k-1) nn)) (key (b.getD (0+i) nn))) (fun i hi Q q=>iQ h (by omega) ob (oa _ (by omega)) (cP _) q) (by omega) (fun i j h1 h2 h3=>oC sb (o:=0) i j h1 (by omega) h3) fun k' q1 q2 q3=>?_)))
        dsimp only;by_cases en:nb-1-k'>0
        ·rw [ae en]
         have dD:=w6 sa sb cG (k:=k') q1 fun i j hi aV hj=>by have:=iS (q3 i hi aV);rw [d9] at this;exact dq (fS sa (by omega) (by omega)) this
         by_cases x2:(k' == 1)=true
         ·rw [ae x2]
          exact aq (.inl ⟨_,_,rfl,rfl,lQ sa sb dD h0 (eq_of_beq x2)⟩)
         ·rw [aa x2]
          have qv:k'≠1:=fun e=>x2 (by simp [e])
          by_cases x3:(k' == 0)=true
          ·rw [ae x3]
           exact aq (.inl ⟨_,_,rfl,rfl,gJ sa sb dD (.inr (eq_of_beq x3))⟩)
          ·rw [aa x3]
           have CD:k'≠0:=fun e=>x3 (by simp [e])
           refine ar (bA (by omega) ?_)
           have aX:=lO sa sb dD (by omega) fun j h1=>by have:=h_ (q2 j h1);rw [d9] at this;exact dm this
           by_cases y1:(k-1 == 0)=true
           ·rw [ae y1]
            exact aq (.inl ⟨_,_,rfl,rfl,gJ sa sb aX (.inl (eq_of_beq y1))⟩)
           ·rw [aa y1]
            have iu:k-1≠0:=fun e=>y1 (by simp [e])
            exact eU (fun _=>aq (.inr ⟨_,_,_,_,_,_,_,rfl,rfl,aX,by omega,by omega,by omega⟩)) (fun _=>aq ⟨_,_,_,_,_,_,_,rfl,rfl,aX,by omega,by omega,by omega⟩)
        ·rw [aa en]
         obtain rfl:k'=nb-1:=by omega
         refine ar (bA (by omega) ?_)
         have aX:=lO sa sb cG (by omega) fun j h1=>by have:=h_ (q2 j h1);rw [d9] at this;exact dm this
         by_cases y1:(k-1 == 0)=true
         ·rw [ae y1]
          exact aq (.inl ⟨_,_,rfl,rfl,gJ sa sb aX (.inl (eq_of_beq y1))⟩)
         ·rw [aa y1]
          have iu:k-1≠0:=fun e=>y1 (by simp [e])
          exact eU (fun _=>aq (.inr ⟨_,_,_,_,_,_,_,rfl,rfl,aX,by omega,by omega,by omega⟩)) (fun _=>aq ⟨_,_,_,_,_,_,_,rfl,rfl,aX,by omega,by omega,by omega⟩)
     ·rw [aa (by omega)]
      refine ar (tV ?_);refine ar (bA (by omega) (ar (iR (f:=fun i=>bB false (key (b.getD (nb-1) nn)) (key (a.getD (0+i) nn))) (fun i hi Q q=>iQ h (by omega) oa (ob _ (by omega)) (cP _) q) (by omega) (fun i j h1 h2 h3=>zA sa (o:=0) i j h1 (by omega) h3) fun k k1 k2 k3=>?_)))
      dsimp only;by_cases zk:na-k>0
      ·rw [ae zk]
       have ir:=CB sa sb mi (k:=k) k1 fun i j hi aV hj=>by have:=oB (k3 i hi aV);rw [d9] at this;exact dq (fS sb (by omega) (by omega)) (dm this)
       by_cases w1:(k == 0)=true
       ·rw [ae w1]
        exact aq (.inl ⟨_,_,rfl,rfl,gJ sa sb ir (.inl (eq_of_beq w1))⟩)
       ·rw [aa w1]
        have CA:k≠0:=fun e=>w1 (by simp [e])
        refine ar (bA (by have:=ir.2.2;omega) ?_)
        have cG:=w9 sa sb ir (by omega) fun j h1=>by have:=lN (k2 j h1);rw [d9] at this;exact this
        by_cases x1:(nb-1 == 1)=true
        ·rw [ae x1]
         exact aq (.inl ⟨_,_,rfl,rfl,lQ sa sb cG h0 (eq_of_beq x1)⟩)
        ·rw [aa x1]
         have qu:nb-1≠1:=fun e=>x1 (by simp [e])
         have p9:=cG.2.2;refine ar (bA (by omega) (ar (iR (f:=fun i=>bB true (key (a.getD (k-1) nn)) (key (b.getD (0+i) nn))) (fun i hi Q q=>iQ h (by omega) ob (oa _ (by omega)) (cP _) q) (by omega) (fun i j h1 h2 h3=>oC sb (o:=0) i j h1 (by omega) h3) fun k' q1 q2 q3=>?_)))
         dsimp only;by_cases en:nb-1-k'>0
         ·rw [ae en]
          have dD:=w6 sa sb cG (k:=k') q1 fun i j hi aV hj=>by have:=iS (q3 i hi aV);rw [d9] at this;exact dq (fS sa (by omega) (by omega)) this
          by_cases x2:(k' == 1)=true
          ·rw [ae x2]
           exact aq (.inl ⟨_,_,rfl,rfl,lQ sa sb dD h0 (eq_of_beq x2)⟩)
          ·rw [aa x2]
           have qv:k'≠1:=fun e=>x2 (by simp [e])
           by_cases x3:(k' == 0)=true
           ·rw [ae x3]
            exact aq (.inl ⟨_,_,rfl,rfl,gJ sa sb dD (.inr (eq_of_beq x3))⟩)
           ·rw [aa x3]
            have CD:k'≠0:=fun e=>x3 (by simp [e])
            refine ar (bA (by omega) ?_)
            have aX:=lO sa sb dD (by omega) fun j h1=>by have:=h_ (q2 j h1);rw [d9] at this;exact dm this
            by_cases y1:(k-1 == 0)=true
            ·rw [ae y1]
             exact aq (.inl ⟨_,_,rfl,rfl,gJ sa sb aX (.inl (eq_of_beq y1))⟩)
            ·rw [aa y1]
             have iu:k-1≠0:=fun e=>y1 (by simp [e])
             exact eU (fun _=>aq (.inr ⟨_,_,_,_,_,_,_,rfl,rfl,aX,by omega,by omega,by omega⟩)) (fun _=>aq ⟨_,_,_,_,_,_,_,rfl,rfl,aX,by omega,by omega,by omega⟩)
         ·rw [aa en]
          obtain rfl:k'=nb-1:=by omega
          refine ar (bA (by omega) ?_)
          have aX:=lO sa sb cG (by omega) fun j h1=>by have:=h_ (q2 j h1);rw [d9] at this;exact dm this
          by_cases y1:(k-1 == 0)=true
          ·rw [ae y1]
           exact aq (.inl ⟨_,_,rfl,rfl,gJ sa sb aX (.inl (eq_of_beq y1))⟩)
          ·rw [aa y1]
           have iu:k-1≠0:=fun e=>y1 (by simp [e])
           exact eU (fun _=>aq (.inr ⟨_,_,_,_,_,_,_,rfl,rfl,aX,by omega,by omega,by omega⟩)) (fun _=>aq ⟨_,_,_,_,_,_,_,rfl,rfl,aX,by omega,by omega,by omega⟩)
      ·rw [aa zk]
       obtain rfl:k=na:=by omega
       refine ar (bA (by have:=mi.2.2;omega) ?_)
       have cG:=w9 sa sb mi (by omega) fun j h1=>by have:=lN (k2 j h1);rw [d9] at this;exact this
       by_cases x1:(nb-1 == 1)=true
       ·rw [ae x1]
        exact aq (.inl ⟨_,_,rfl,rfl,lQ sa sb cG h0 (eq_of_beq x1)⟩)
       ·rw [aa x1]
        have qu:nb-1≠1:=fun e=>x1 (by simp [e])
        have p9:=cG.2.2;refine ar (bA (by omega) (ar (iR (f:=fun i=>bB true (key (a.getD (k-1) nn)) (key (b.getD (0+i) nn))) (fun i hi Q q=>iQ h (by omega) ob (oa _ (by omega)) (cP _) q) (by omega) (fun i j h1 h2 h3=>oC sb (o:=0) i j h1 (by omega) h3) fun k' q1 q2 q3=>?_)))
        dsimp only;by_cases en:nb-1-k'>0
        ·rw [ae en]
         have dD:=w6 sa sb cG (k:=k') q1 fun i j hi aV hj=>by have:=iS (q3 i hi aV);rw [d9] at this;exact dq (fS sa (by omega) (by omega)) this
         by_cases x2:(k' == 1)=true
         ·rw [ae x2]
          exact aq (.inl ⟨_,_,rfl,rfl,lQ sa sb dD h0 (eq_of_beq x2)⟩)
         ·rw [aa x2]
          have qv:k'≠1:=fun e=>x2 (by simp [e])
          by_cases x3:(k' == 0)=true
          ·rw [ae x3]
           exact aq (.inl ⟨_,_,rfl,rfl,gJ sa sb dD (.inr (eq_of_beq x3))⟩)
          ·rw [aa x3]
           have CD:k'≠0:=fun e=>x3 (by simp [e])
           refine ar (bA (by omega) ?_)
           have aX:=lO sa sb dD (by omega) fun j h1=>by have:=h_ (q2 j h1);rw [d9] at this;exact dm this
           by_cases y1:(k-1 == 0)=true
           ·rw [ae y1]
            exact aq (.inl ⟨_,_,rfl,rfl,gJ sa sb aX (.inl (eq_of_beq y1))⟩)
           ·rw [aa y1]
            have iu:k-1≠0:=fun e=>y1 (by simp [e])
            exact eU (fun _=>aq (.inr ⟨_,_,_,_,_,_,_,rfl,rfl,aX,by omega,by omega,by omega⟩)) (fun _=>aq ⟨_,_,_,_,_,_,_,rfl,rfl,aX,by omega,by omega,by omega⟩)
        ·rw [aa en]
         obtain rfl:k'=nb-1:=by omega
         refine ar (bA (by omega) ?_)
         have aX:=lO sa sb cG (by omega) fun j h1=>by have:=h_ (q2 j h1);rw [d9] at this;exact dm this
         by_cases y1:(k-1 == 0)=true
         ·rw [ae y1]
          exact aq (.inl ⟨_,_,rfl,rfl,gJ sa sb aX (.inl (eq_of_beq y1))⟩)
         ·rw [aa y1]
          have iu:k-1≠0:=fun e=>y1 (by simp [e])
          exact eU (fun _=>aq (.inr ⟨_,_,_,_,_,_,_,rfl,rfl,aX,by omega,by omega,by omega⟩)) (fun _=>aq ⟨_,_,_,_,_,_,_,rfl,rfl,aX,by omega,by omega,by omega⟩)
    ·rintro c av ⟨out,i,j,mg,ac,bc,g,rfl,rfl,mi,ha,hb,ie⟩
     exact .inr ⟨_,_,_,_,_,_,_,rfl,rfl,mi,ha,hb,ie⟩
    ·rintro c av (⟨m,g,e,rfl,pm⟩ | ⟨out,i,j,mg,ac,bc,g,rfl,rfl,mi,ha,hb,ie⟩)
     ·obtain ⟨c1,c2⟩:=c
      dsimp only at e;subst e;exact aq ⟨m,g,rfl,rfl,pm⟩
     ·dsimp only
      exact ar (tV (aq ⟨_,_,_,_,_,rfl,rfl,mi,ha,hb,by omega⟩))
 ·rintro c av ⟨out,ia,ib,mg,g,rfl,rfl,mi,ha,hb,Cz⟩
  exfalso
  omega
 ·rintro c av ⟨m,g,e,rfl,pm,sm⟩
  obtain ⟨c1,c2⟩:=c;dsimp only at e;subst e;exact aq (q m g pm sm)
end
section
variable {prog:Program} {w:World} {A:Around} {E:aK} {s:Shared} {κ:SortKind} {key:Keyed→Int} {Ok:Keyed→Prop}
def vA(key:Keyed→Int)(arr:Array Keyed)(i:Nat):Int:=key (arr.getD i nn)
def cW(key:Keyed→Int)(arr:Array Keyed)(lo hi:Nat):Prop:=∀i j,lo≤i→i≤j→j<hi→vA key arr i≤vA key arr j
def jF(key:Keyed→Int)(arr:Array Keyed)(lo hi:Nat):Prop:=∀i j,lo≤i→i≤j→j<hi→vA key arr j≤vA key arr i
structure Rl (arr aR:Array Keyed) (lo hi:Nat):Prop where
 pm:aR.Perm arr
 out:∀k,k<lo∨hi≤k→aR[k]?=arr[k]?
theorem Rl.refl(arr:Array Keyed)(lo hi:Nat):Rl arr arr lo hi:=⟨Array.Perm.refl _,fun _ _=>rfl⟩
variable {arr aR:Array Keyed} {lo hi:Nat}
theorem Rl.trans{aI:Array Keyed}(h:Rl arr aR lo hi)(h':Rl aR aI lo hi):Rl arr aI lo hi:=⟨h'.pm.trans h.pm,fun k hk=>(h'.out k hk).trans (h.out k hk)⟩
theorem Rl.size(h:Rl arr aR lo hi):aR.size=arr.size:=h.pm.size_eq
theorem Rl.wide{CF aV:Nat}(h:Rl arr aR lo hi)(h1:CF≤lo)(h2:hi≤aV):Rl arr aR CF aV:=⟨h.pm,fun k hk=>h.out k (by omega)⟩
theorem j_(arr:Array Keyed)(i:Nat):arr.getD i nn=arr[i]?.getD nn:=by by_cases z:i<arr.size <;> simp [Array.getD,z]
variable {k:Nat}
theorem Rl.v(h:Rl arr aR lo hi)(hk:k<lo∨hi≤k):vA key aR k=vA key arr k:=by unfold vA;rw [j_,j_,h.out k hk]
theorem tY(h:fj Ok arr)(p:aR.Perm arr):fj Ok aR:=fun i hi=>by
 have e:aR.getD i nn=aR[i]:=by simp [Array.getD,hi]
 rw [e];have m:aR[i]∈arr:=(Array.Perm.mem_iff p).mp (Array.getElem_mem hi);obtain ⟨j,hj,ej⟩:=Array.getElem_of_mem m;rw [←ej];have:=h j hj;simpa [Array.getD,hj] using this
theorem Rl.ok(h:Rl arr aR lo hi)(ok:fj Ok arr):fj Ok aR:=tY ok h.pm
theorem kd(hj:j≤arr.size):Rl arr (mirror arr i j ((j-i) / 2)) i j:=⟨mirror_perm ..,fun k hk=>by rw [getElem?_mirror_all hj,aa (by omega)]⟩
theorem zE(hj:j≤arr.size)(h1:i≤k)(h2:k<j):vA key (mirror arr i j ((j-i) / 2)) k=vA key arr (i+j-1-k):=by unfold vA;rw [j_,j_,getElem?_mirror_all hj,ae ⟨h1,h2⟩]
abbrev a8 (κ:SortKind) (arr:Array Keyed) (pend:Array (Nat×Nat×Nat)) (g:Nat):SortSt:=SortSt.mk' κ arr pend g none
variable {arr:Array Keyed} {pend:Array (Nat×Nat×Nat)} {g:Nat}
theorem ke(h:i7 prog w A s κ key Ok)(ok:fj Ok arr)(hi:i<arr.size)(hj:j<arr.size){Q:Option Bool→SortSt→Prop}(q:Q (some (decide (vA key arr i<vA key arr j))) (a8 κ arr pend g)):wpS (model prog w) A E s (ltAt' i j) Q (a8 κ arr pend g):=by rw [ltAt'_eq];refine ar (iY ?_);exact ar (bA hi (ar (bA hj (wY h (ok _ hi) (ok _ hj) rfl q))))
theorem mS{Q:Unit→SortSt→Prop}(q:Q () (a8 κ (mirror arr i j ((j-i) / 2)) pend g)):wpS (model prog w) A E s (reverseSlice' i j) Q (a8 κ arr pend g):=by rw [reverseSlice'_eq];exact jT q
variable {n:Nat}
theorem cW.more(h:cW key arr lo (lo+n))(n1:1≤n)(c:vA key arr (lo+n-1)≤vA key arr (lo+n)):cW key arr lo (lo+(n+1)):=fun i j h1 h2 h3=>by
 by_cases z:j<lo+n;·exact h i j h1 h2 z
 ·obtain rfl:j=lo+n:=by omega
  by_cases y:i=lo+n;·rw [y];exact jl _
  ·exact dq (h i (lo+n-1) h1 (by omega) (by omega)) c
theorem jF.more(h:jF key arr lo (lo+n))(n1:1≤n)(c:vA key arr (lo+n)≤vA key arr (lo+n-1)):jF key arr lo (lo+(n+1)):=fun i j h1 h2 h3=>by
 by_cases z:j<lo+n;·exact h i j h1 h2 z
 ·obtain rfl:j=lo+n:=by omega
  by_cases y:i=lo+n;·rw [y];exact jl _
  ·exact dq c (h i (lo+n-1) h1 (by omega) (by omega))
def xb(key:Keyed→Int)(arr:Array Keyed)(lo n q:Nat):Prop:=q+1≤n∧∀i,lo+n-(q+1)≤i→i<lo+n→vA key arr i=vA key arr (lo+n-1)
theorem zF{q:Nat}(hz:lo+n≤arr.size)(d:jF key arr lo (lo+n))(e:xb key arr lo n q):jF key (mirror arr (lo+n-(q+1)) (lo+n) ((lo+n-(lo+n-(q+1))) / 2)) lo (lo+n)∧∀k,vA key (mirror arr (lo+n-(q+1)) (lo+n) ((lo+n-(lo+n-(q+1))) / 2)) k=vA key arr k:=by
 have hv:∀k,vA key (mirror arr (lo+n-(q+1)) (lo+n) ((lo+n-(lo+n-(q+1))) / 2)) k=vA key arr k:=fun k=>by
  by_cases z:lo+n-(q+1)≤k∧k<lo+n;·rw [zE hz z.1 z.2,e.2 _ (by have:=e.1;omega) (by omega),e.2 k z.1 z.2]
  ·exact (kd hz).v (by omega)
 refine ⟨fun i j h1 h2 h3=>?_,hv⟩;rw [hv,hv];exact d i j h1 h2 h3
theorem zG(hz:lo+n≤arr.size)(d:jF key arr lo (lo+n)):cW key (mirror arr lo (lo+n) ((lo+n-lo) / 2)) lo (lo+n):=fun i j h1 h2 h3=>by
 rw [zE hz h1 (by omega),zE hz (by omega) h3]
 exact d _ _ (by omega) (by omega) (by omega)
end
section
variable {prog:Program} {w:World} {A:Around} {E:aK} {s:Shared} {κ:SortKind} {key:Keyed→Int} {Ok:Keyed→Prop} {arr:Array Keyed} {pend:Array (Nat×Nat×Nat)} {g:Nat}
variable {lo cH:Nat}
theorem xc(h:i7 prog w A s κ key Ok)(ok:fj Ok arr){m:Nat}(hz:lo+cH≤arr.size)(m1:1≤m)(mn:m≤cH)(sg:cW key arr lo (lo+m)){body:Nat→Option (Option Nat)×Nat→StateT SortSt Sem (ForInStep (Option (Option Nat)×Nat))}{R:Option (Option Nat)×Nat→SortSt→Prop}
  (hb:∀x n (R:ForInStep (Option (Option Nat)×Nat)→SortSt→Prop),1≤n→n<cH→R (if vA key arr (lo+n)<vA key arr (lo+n-1) then .done (none,n) else .yield (none,n+1)) (a8 κ arr pend g)→wpS (model prog w) A E s (body x (none,n)) R (a8 κ arr pend g))
  (k:∀n,m≤n→n≤cH→cW key arr lo (lo+n)→(n<cH→vA key arr (lo+n)<vA key arr (lo+n-1))→R (none,n) (a8 κ arr pend g)) :
  wpS (model prog w) A E s (forIn [m:cH] (none,m) body) R (a8 κ arr pend g):=by
 refine fK (I:=fun x c av=>av=a8 κ arr pend g∧c=(none,x)∧m≤x∧x≤cH∧cW key arr lo (lo+x)) ?_ ?_ ⟨rfl,rfl,ax _,mn,sg⟩
 ·rintro x c av _ hx ⟨rfl,rfl,g1,g2,g3⟩
  refine hb x x _ (by omega) hx ?_
  by_cases z:vA key arr (lo+x)<vA key arr (lo+x-1)
  ·rw [ae z]
   exact k x g1 g2 g3 fun _=>z
  ·rw [aa z]
   exact ⟨rfl,rfl,by omega,by omega,g3.more (by omega) (Int.not_lt.mp z)⟩
 ·rintro c av ⟨rfl,rfl,g1,g2,g3⟩
  have e:max m cH=cH:=by omega
  rw [e] at g3 ⊢;exact k cH mn (ax _) g3 fun z=>absurd z (dG _)
theorem Pl(h:i7 prog w A s κ key Ok)(ok:fj Ok arr)(hz:lo+cH≤arr.size)(n1:1≤cH){Q:Option Nat→SortSt→Prop}
  (k:∀n aR,1≤n→n≤cH→Rl arr aR lo (lo+cH)→cW key aR lo (lo+n)→Q (some n) (a8 κ aR pend g)):wpS (model prog w) A E s (countRun' lo cH) Q (a8 κ arr pend g):=by
 rw [countRun'_eq];refine ar (xc h ok hz (ax 1) n1 (fun i j h1 h2 h3=>by rw [show i=j by omega];exact jl _) ?_ fun n m1 mn sg br=>?_)
 ·intro x n R a1 a2 r
  dsimp only;refine ar (ke h ok (by omega) (by omega) ?_)
  dsimp only;by_cases z:vA key arr (lo+n)<vA key arr (lo+n-1)
  ·rw [ae z] at r
   rw [bQ z,ae rfl];exact aq r
  ·rw [aa z] at r
   rw [bW z,aa (by simp)]
   exact aq r
 dsimp only;by_cases e1:(n == cH)=true
 ·rw [ae e1]
  exact aq (k n arr m1 mn (Rl.refl ..) sg)
 rw [aa e1];have aU:n<cH:=by
  have:n≠cH:=fun e=>e1 (by simp [e])
  omega
 have GZ:=br aU;by_cases e2:n>1
 ·rw [ae e2]
  refine ar (ke h ok (by omega) (by omega) ?_)
  dsimp only;by_cases z:vA key arr lo<vA key arr (lo+n-1)
  ·rw [bQ z,ae rfl]
   exact aq (k n arr m1 mn (Rl.refl ..) sg)
  ·rw [bW z,aa (by simp)]
   refine ar (mS ?_);have ev:∀i,lo≤i→i<lo+n→vA key arr i=vA key arr (lo+n-1):=fun i h1 h2=>by
    have a1:=sg lo i (ax _) h1 h2;have a2:=sg i (lo+n-1) h1 (by omega) (by omega)
    omega
   have hv:∀i,vA key (mirror arr lo (lo+n) ((lo+n-lo) / 2)) i=vA key arr i:=fun i=>by
    by_cases y:lo≤i∧i<lo+n;·rw [zE (by omega) y.1 y.2,ev _ (by omega) (by omega),ev i y.1 y.2]
    ·exact (kd (by omega)).v (by omega)
   have d1:jF key (mirror arr lo (lo+n) ((lo+n-lo) / 2)) lo (lo+n):=fun i j h1 h2 h3=>by
    rw [hv,hv,ev i h1 (by omega),ev j (by omega) h3]
    exact jl _
   have zH:Rl arr (mirror arr lo (lo+n) ((lo+n-lo) / 2)) lo (lo+cH):=(kd (by omega)).wide (ax _) (by omega)
   have G0:vA key (mirror arr lo (lo+n) ((lo+n-lo) / 2)) (lo+n)<vA key (mirror arr lo (lo+n) ((lo+n-lo) / 2)) (lo+n-1):=by rw [hv,hv];exact GZ
   generalize mirror arr lo (lo+n) ((lo+n-lo) / 2)=Pm at d1 zH G0 ⊢;refine ar (wpS_lift (kP ⟨rfl,?_⟩))
   refine ar (fW (fK (I:=fun x c av=>∃(aI:Array Keyed) (q:Nat),av=a8 κ aI pend g∧c=(none,x,q)∧Rl arr aI lo (lo+cH)∧jF key aI lo (lo+x)∧xb key aI lo x q∧x≤cH∧1≤x)
    (Q:=fun c av=>∃(aI:Array Keyed) (n q:Nat),av=a8 κ aI pend g∧c=(none,n,q)∧Rl arr aI lo (lo+cH)∧jF key aI lo (lo+n)∧xb key aI lo n q∧n≤cH∧1≤n) ?_ ?_ ⟨Pm,0,rfl,rfl,zH,d1.more (by omega) (dm G0),⟨by omega,fun i h1 h2=>by rw [show i=lo+(n+1)-1 by omega]⟩,by omega,by omega⟩) ?_)
   ·rintro x c av _ hx ⟨aI,q,rfl,rfl,dZ,d2,e2,x1,x2⟩
    have mT:=dZ.ok ok;have z2:=dZ.size;dsimp only;refine ar (ke h mT (by omega) (by omega) ?_)
    dsimp only;by_cases z:vA key aI (lo+x)<vA key aI (lo+x-1)
    ·rw [bQ z,ae rfl]
     by_cases y:q>0
     ·rw [ae y]
      refine ar (mS (aq ?_));obtain ⟨d3,hv⟩:=zF (by omega) d2 e2
      refine ⟨_,0,rfl,rfl,dZ.trans ((kd (by omega)).wide (by have:=e2.1;omega) (by omega)),d3.more (by omega) (by rw [hv,hv];exact dm z),⟨by omega,fun i h1 h2=>by rw [show i=lo+(x+1)-1 by omega]⟩,by omega,by omega⟩
     ·rw [aa y]
      exact aq ⟨_,0,rfl,rfl,dZ,d2.more (by omega) (dm z),⟨by omega,fun i h1 h2=>by rw [show i=lo+(x+1)-1 by omega]⟩,by omega,by omega⟩
    ·rw [bW z,aa (by simp)]
     refine ar (ke h mT (by omega) (by omega) ?_)
     dsimp only;by_cases y:vA key aI (lo+x-1)<vA key aI (lo+x)
     ·rw [bQ y,ae rfl]
      exact aq ⟨_,_,_,rfl,rfl,dZ,d2,e2,x1,x2⟩
     ·rw [bW y,aa (by simp)]
      have ev:vA key aI (lo+x)=vA key aI (lo+x-1):=by omega
      refine aq ⟨_,_,rfl,rfl,dZ,d2.more (by omega) (by omega),⟨by have:=e2.1;omega,fun i h1 h2=>?_⟩,by omega,by omega⟩
      rw [show lo+(x+1)-1=lo+x by omega]
      by_cases w:i=lo+x;·rw [w]
      ·rw [ev]
       exact e2.2 i (by omega) (by omega)
   ·rintro c av ⟨aI,q,rfl,rfl,dZ,d2,e2,x1,x2⟩
    exact ⟨aI,_,q,rfl,rfl,dZ,d2,e2,x1,x2⟩
   ·rintro c av ⟨aI,n2,q2,rfl,rfl,dZ,d2,e2,x1,x2⟩
    have z2:=dZ.size;dsimp only;by_cases y:q2>0
    ·rw [ae y]
     obtain ⟨d3,hv⟩:=zF (by omega) d2 e2
     refine ar (mS (ar (mS ?_)));have kg:=dZ.trans ((kd (arr:=aI) (i:=lo+n2-(q2+1)) (j:=lo+n2) (by omega)).wide (by have:=e2.1;omega) (show lo+n2≤lo+cH by omega))
     generalize mirror aI (lo+n2-(q2+1)) (lo+n2) _=cM at d3 kg ⊢;have z3:=kg.size;have f_:=zG (by omega) d3
     have bV:=kg.trans ((kd (arr:=cM) (i:=lo) (j:=lo+n2) (by omega)).wide (ax lo) (show lo+n2≤lo+cH by omega))
     generalize mirror cM lo (lo+n2) _=aY at f_ bV ⊢;have kh:=Rl.ok bV ok;have z4:=Rl.size bV;refine ar (xc h kh (by omega) (by omega) (by omega) f_ ?_ fun m m1 mn qw _=>aq (k m aY (by omega) mn bV qw))
     intro x n R a1 a2 r;dsimp only;refine ar (ke h kh (by omega) (by omega) ?_)
     dsimp only;by_cases z:vA key aY (lo+n)<vA key aY (lo+n-1)
     ·rw [ae z] at r
      rw [bQ z,ae rfl];exact aq r
     ·rw [aa z] at r
      rw [bW z,aa (by simp)]
      exact aq r
    ·rw [aa y]
     refine ar (mS ?_);have f_:=zG (by omega) d2
     have bV:=dZ.trans ((kd (arr:=aI) (i:=lo) (j:=lo+n2) (by omega)).wide (ax lo) (show lo+n2≤lo+cH by omega))
     generalize mirror aI lo (lo+n2) _=aY at f_ bV ⊢;have kh:=Rl.ok bV ok;have z4:=Rl.size bV;refine ar (xc h kh (by omega) (by omega) (by omega) f_ ?_ fun m m1 mn qw _=>aq (k m aY (by omega) mn bV qw))
     intro x n R a1 a2 r;dsimp only;refine ar (ke h kh (by omega) (by omega) ?_)
     dsimp only;by_cases z:vA key aY (lo+n)<vA key aY (lo+n-1)
     ·rw [ae z] at r
      rw [bQ z,ae rfl];exact aq r
     ·rw [aa z] at r
      rw [bW z,aa (by simp)]
      exact aq r
 ·rw [aa e2]
  have d1:jF key arr lo (lo+n):=fun i j h1 h2 h3=>by
   rw [show i=j by omega]
   exact jl _
  have zH:Rl arr arr lo (lo+cH):=Rl.refl ..;refine ar (wpS_lift (kP ⟨rfl,?_⟩))
  refine ar (fW (fK (I:=fun x c av=>∃(aI:Array Keyed) (q:Nat),av=a8 κ aI pend g∧c=(none,x,q)∧Rl arr aI lo (lo+cH)∧jF key aI lo (lo+x)∧xb key aI lo x q∧x≤cH∧1≤x)
   (Q:=fun c av=>∃(aI:Array Keyed) (n q:Nat),av=a8 κ aI pend g∧c=(none,n,q)∧Rl arr aI lo (lo+cH)∧jF key aI lo (lo+n)∧xb key aI lo n q∧n≤cH∧1≤n) ?_ ?_ ⟨arr,0,rfl,rfl,zH,d1.more (by omega) (dm GZ),⟨by omega,fun i h1 h2=>by rw [show i=lo+(n+1)-1 by omega]⟩,by omega,by omega⟩) ?_)
  ·rintro x c av _ hx ⟨aI,q,rfl,rfl,dZ,d2,e2,x1,x2⟩
   have mT:=dZ.ok ok;have z2:=dZ.size;dsimp only;refine ar (ke h mT (by omega) (by omega) ?_)
   dsimp only;by_cases z:vA key aI (lo+x)<vA key aI (lo+x-1)
   ·rw [bQ z,ae rfl]
    by_cases y:q>0
    ·rw [ae y]
     refine ar (mS (aq ?_));obtain ⟨d3,hv⟩:=zF (by omega) d2 e2
     refine ⟨_,0,rfl,rfl,dZ.trans ((kd (by omega)).wide (by have:=e2.1;omega) (by omega)),d3.more (by omega) (by rw [hv,hv];exact dm z),⟨by omega,fun i h1 h2=>by rw [show i=lo+(x+1)-1 by omega]⟩,by omega,by omega⟩
    ·rw [aa y]
     exact aq ⟨_,0,rfl,rfl,dZ,d2.more (by omega) (dm z),⟨by omega,fun i h1 h2=>by rw [show i=lo+(x+1)-1 by omega]⟩,by omega,by omega⟩
   ·rw [bW z,aa (by simp)]
    refine ar (ke h mT (by omega) (by omega) ?_)
    dsimp only;by_cases y:vA key aI (lo+x-1)<vA key aI (lo+x)
    ·rw [bQ y,ae rfl]
     exact aq ⟨_,_,_,rfl,rfl,dZ,d2,e2,x1,x2⟩
    ·rw [bW y,aa (by simp)]
     have ev:vA key aI (lo+x)=vA key aI (lo+x-1):=by omega
     refine aq ⟨_,_,rfl,rfl,dZ,d2.more (by omega) (by omega),⟨by have:=e2.1;omega,fun i h1 h2=>?_⟩,by omega,by omega⟩
     rw [show lo+(x+1)-1=lo+x by omega]
     by_cases w:i=lo+x;·rw [w]
     ·rw [ev]
      exact e2.2 i (by omega) (by omega)
  ·rintro c av ⟨aI,q,rfl,rfl,dZ,d2,e2,x1,x2⟩
   exact ⟨aI,_,q,rfl,rfl,dZ,d2,e2,x1,x2⟩
  ·rintro c av ⟨aI,n2,q2,rfl,rfl,dZ,d2,e2,x1,x2⟩
   have z2:=dZ.size;dsimp only;by_cases y:q2>0
   ·rw [ae y]
    obtain ⟨d3,hv⟩:=zF (by omega) d2 e2
    refine ar (mS (ar (mS ?_)));have kg:=dZ.trans ((kd (arr:=aI) (i:=lo+n2-(q2+1)) (j:=lo+n2) (by omega)).wide (by have:=e2.1;omega) (show lo+n2≤lo+cH by omega))
    generalize mirror aI (lo+n2-(q2+1)) (lo+n2) _=cM at d3 kg ⊢;have z3:=kg.size;have f_:=zG (by omega) d3
    have bV:=kg.trans ((kd (arr:=cM) (i:=lo) (j:=lo+n2) (by omega)).wide (ax lo) (show lo+n2≤lo+cH by omega))
    generalize mirror cM lo (lo+n2) _=aY at f_ bV ⊢;have kh:=Rl.ok bV ok;have z4:=Rl.size bV;refine ar (xc h kh (by omega) (by omega) (by omega) f_ ?_ fun m m1 mn qw _=>aq (k m aY (by omega) mn bV qw))
    intro x n R a1 a2 r;dsimp only;refine ar (ke h kh (by omega) (by omega) ?_)
    dsimp only;by_cases z:vA key aY (lo+n)<vA key aY (lo+n-1)
    ·rw [ae z] at r
     rw [bQ z,ae rfl];exact aq r
    ·rw [aa z] at r
     rw [bW z,aa (by simp)]
     exact aq r
   ·rw [aa y]
    refine ar (mS ?_);have f_:=zG (by omega) d2
    have bV:=dZ.trans ((kd (arr:=aI) (i:=lo) (j:=lo+n2) (by omega)).wide (ax lo) (show lo+n2≤lo+cH by omega))
    generalize mirror aI lo (lo+n2) _=aY at f_ bV ⊢;have kh:=Rl.ok bV ok;have z4:=Rl.size bV;refine ar (xc h kh (by omega) (by omega) (by omega) f_ ?_ fun m m1 mn qw _=>aq (k m aY (by omega) mn bV qw))
    intro x n R a1 a2 r;dsimp only;refine ar (ke h kh (by omega) (by omega) ?_)
    dsimp only;by_cases z:vA key aY (lo+n)<vA key aY (lo+n-1)
    ·rw [ae z] at r
     rw [bQ z,ae rfl];exact aq r
    ·rw [aa z] at r
     rw [bW z,aa (by simp)]
     exact aq r
end
section
variable {prog:Program} {w:World} {A:Around} {E:aK} {s:Shared} {κ:SortKind} {key:Keyed→Int} {Ok:Keyed→Prop} {arr:Array Keyed} {pend:Array (Nat×Nat×Nat)} {g:Nat}
theorem Pn{Q:Unit→SortSt→Prop}(q:Q () (a8 κ (bubble arr i (i-j)) pend g)):wpS (model prog w) A E s (moveDown' i j) Q (a8 κ arr pend g):=by rw [moveDown'_eq];exact jT q
variable {d:Nat}
theorem G1{k:Nat}(hi:i<arr.size)(hd:d≤i):vA key (bubble arr i d) k=if k=i-d then vA key arr i else if i-d<k∧k≤i then vA key arr (k-1) else vA key arr k:=by
 unfold vA;rw [j_,getElem?_bubble hi d hd,j_ arr i,j_ arr (k-1),j_ arr k];by_cases a:k=i-d;·rw [ae a,ae a]
 ·rw [aa a,aa a]
  by_cases b:i-d<k∧k≤i;·rw [ae b,ae b]
  ·rw [aa b,aa b]
variable {lo:Nat}
theorem Po{hi:Nat}(h:i<arr.size)(hd:d≤i)(h1:lo≤i-d)(h2:i<hi):Rl arr (bubble arr i d) lo hi:=⟨bubble_perm ..,fun k hk=>by rw [getElem?_bubble h d hd,aa (by omega),aa (by omega)]⟩
theorem Pp(h:i7 prog w A s κ key Ok)(ok:fj Ok arr){n m:Nat}(hz:lo+n≤arr.size)(m1:1≤m)(mn:m≤n)(sg:cW key arr lo (lo+m)){Q:Bool→SortSt→Prop}
  (k:∀aR,Rl arr aR lo (lo+n)→cW key aR lo (lo+n)→Q true (a8 κ aR pend g)):wpS (model prog w) A E s (binarySort' lo n m) Q (a8 κ arr pend g):=by
 rw [binarySort'_eq];have em:max m 1=m:=by omega
 rw [em]
 refine ar (fW (fK (I:=fun x c av=>∃aI:Array Keyed,av=a8 κ aI pend g∧c=(none,())∧Rl arr aI lo (lo+n)∧cW key aI lo (lo+x)∧m≤x∧x≤n)
  (Q:=fun c av=>∃aI:Array Keyed,av=a8 κ aI pend g∧c=(none,())∧Rl arr aI lo (lo+n)∧cW key aI lo (lo+n)) ?_ ?_ ⟨arr,rfl,rfl,Rl.refl ..,sg,ax _,mn⟩) ?_)
 ·rintro x c av _ hx ⟨aI,rfl,rfl,rl,sg,x1,x2⟩
  have mT:=rl.ok ok;have z2:=rl.size;dsimp only
  refine ar (fW (fK (I:=fun y c av=>∃l r:Nat,av=a8 κ aI pend g∧c=(none,l,r)∧l≤r∧r≤x∧r-l+y≤x∧(∀i,i<l→vA key aI (lo+i)≤vA key aI (lo+x))∧(∀i,r≤i→i<x→vA key aI (lo+x)≤vA key aI (lo+i)))
   (Q:=fun c av=>∃l:Nat,av=a8 κ aI pend g∧c=(none,l,l)∧l≤x∧(∀i,i<l→vA key aI (lo+i)≤vA key aI (lo+x))∧(∀i,l≤i→i<x→vA key aI (lo+x)≤vA key aI (lo+i))) ?_ ?_ ⟨0,x,rfl,rfl,by omega,ax _,show x-0+0≤x by omega,fun i hi=>absurd hi (sP _),fun i h1 h2=>by omega⟩) ?_)
  ·rintro y c av _ hy ⟨l,r,rfl,rfl,g1,g2,g3,g4,g5⟩
   dsimp only;by_cases z:l≥r
   ·rw [ae z]
    obtain rfl:l=r:=by omega
    exact aq ⟨l,rfl,rfl,g2,g4,g5⟩
   ·rw [aa z]
    refine ar (ke h mT (by omega) (by omega) ?_)
    dsimp only;by_cases w:vA key aI (lo+x)<vA key aI (lo+(l+r) / 2)
    ·rw [bQ w,ae rfl]
     exact aq ⟨l,_,rfl,rfl,by omega,by omega,by omega,g4,fun i h1 h2=>dq (dm w) (sg _ _ (by omega) (by omega) (by omega))⟩
    ·rw [bW w,aa (by simp)]
     exact aq ⟨_,r,rfl,rfl,by omega,g2,by omega,fun i h1=>dq (sg _ _ (by omega) (by omega) (by omega)) (Int.not_lt.mp w),g5⟩
  ·rintro c av ⟨l,r,rfl,rfl,g1,g2,g3,g4,g5⟩
   have:max 0 x=x:=by omega
   obtain rfl:l=r:=by omega
   exact ⟨l,rfl,rfl,g2,g4,g5⟩
  ·rintro c av ⟨l,rfl,rfl,g2,g4,g5⟩
   dsimp only;refine ar (Pn (aq ?_));have ed:lo+x-(lo+l)=x-l:=by omega
   rw [ed];refine ⟨_,rfl,rfl,rl.trans (Po (by omega) (by omega) (by omega) (by omega)),fun i j h1 h2 h3=>?_,by omega,by omega⟩
   have e0:lo+x-(x-l)=lo+l:=by omega
   rw [G1 (by omega) (by omega),G1 (by omega) (by omega),e0]
   have f4:∀i,lo≤i→i<lo+l→vA key aI i≤vA key aI (lo+x):=fun i a b=>by have:=g4 (i-lo) (by omega);rwa [show lo+(i-lo)=i by omega] at this
   have f5:∀i,lo+l≤i→i<lo+x→vA key aI (lo+x)≤vA key aI i:=fun i a b=>by have:=g5 (i-lo) (by omega) (by omega);rwa [show lo+(i-lo)=i by omega] at this
   by_cases a1:i=lo+l
   ·rw [ae a1]
    by_cases b1:j=lo+l;·rw [ae b1];exact jl _
    ·rw [aa b1,ae (by omega)]
     exact f5 _ (by omega) (by omega)
   ·rw [aa a1]
    by_cases a2:lo+l<i∧i≤lo+x
    ·rw [ae a2,aa (by omega),ae (by omega)]
     exact sg _ _ (by omega) (by omega) (by omega)
    ·rw [aa a2]
     by_cases b1:j=lo+l
     ·rw [ae b1]
      exact f4 i h1 (by omega)
     ·rw [aa b1]
      by_cases b2:lo+l<j∧j≤lo+x
      ·rw [ae b2]
       exact dq (f4 i h1 (by omega)) (f5 _ (by omega) (by omega))
      ·rw [aa b2]
       exact sg _ _ (by omega) (by omega) (by omega)
 ·rintro c av ⟨aI,rfl,rfl,rl,sg,x1,x2⟩
  have:max m n=n:=by omega
  rw [this] at sg;exact ⟨aI,rfl,rfl,rl,sg⟩
 ·rintro c av ⟨aI,rfl,rfl,rl,sg⟩
  exact aq (k aI rl sg)
end
theorem Pq(i:Nat):mergeAt' i=(do
 let s ←get
 let (some (sa,na,power),some (sb,nb,_)):=((pendingOf s)[i]?,(pendingOf s)[i+1]?) | unsupported "internal:list.sort.pending"
 set (setPending s (((pendingOf s).setIfInBounds i (sa,na+nb,power)).eraseIdxIfInBounds (i+1)))
 let some k ←oA false (←elem' (arrOf s) sb) (arrOf s) sa na 0 | return false
 let (sa,na):=(sa+k,na-k)
 if na == 0 then return true
 let some nb ←oA true (←elem' (arrOf s) (sa+na-1)) (arrOf s) sb nb (nb-1) | return false
 if nb == 0 then return true
 let x:=(arrOf s).extract sa sb
 let y:=(arrOf s).extract sb (sb+nb)
 let merged ←if na≤nb then Ct x y else Cu x y
 modify fun s=>setArr s (merged.toList.zipIdx.foldl (fun a (p,j)=>a.setIfInBounds (sa+j) p) (arrOf s))
 return (failedOf (←get)).isNone):=rfl
def putL(m:List Keyed)(o:Nat)(arr:Array Keyed)(n:Nat):Array Keyed:=(m.zipIdx n).foldl (fun a (p,j)=>a.setIfInBounds (o+j) p) arr
theorem G2(m:List Keyed)(o:Nat):∀(arr:Array Keyed) (n k:Nat),o+n+m.length≤arr.size→(putL m o arr n)[k]?=if o+n≤k∧k<o+n+m.length then m[k-(o+n)]? else arr[k]?:=by
 induction m with
 | nil=>
  intro arr n k _;rw [aa (by simp)]
  rfl
 | cons x m ih=>
  intro arr n k hz;rw [eB] at hz ⊢;show (putL m o (arr.setIfInBounds (o+n) x) (n+1))[k]?=_;rw [ih _ _ _ (by simp;omega)]
  by_cases a:o+(n+1)≤k∧k<o+(n+1)+m.length
  ·rw [ae a,ae (by omega),show k-(o+n)=(k-(o+(n+1)))+1 by omega]
   rfl
  ·rw [aa a]
   by_cases b:k=o+n
   ·subst b
    rw [ae (by omega),pb]
    simp [show o+n<arr.size by omega]
   ·rw [aa (by omega)]
    rw [Array.getElem?_setIfInBounds_ne (by omega)]
theorem Pt{o:Nat}{arr:Array Keyed}(hz:o+m.length≤arr.size):(putL m o arr 0).toList=arr.toList.take o++m++arr.toList.drop (o+m.length):=by
 refine List.ext_getElem? fun k=>?_;have e:(putL m o arr 0).toList[k]?=(putL m o arr 0)[k]?:=by simp
 rw [e,G2 m o arr 0 k (by omega),vQ]
 by_cases a:k<o
 ·rw [aa (by omega),gm,gW (by simp;omega),List.getElem?_take_of_lt a]
  simp
 ·by_cases b:k<o+m.length
  ·rw [ae (by omega),gm,gU (by simp;omega),gW (by simp;omega)]
   congr 1
   simp;omega
  ·rw [aa (by omega),gU (by simp;omega),List.getElem?_drop]
   have:o+m.length+(k-(arr.toList.take o++m).length)=k:=by simp;omega
   rw [this];simp
section
variable {prog:Program} {w:World} {A:Around} {E:aK} {s:Shared} {κ:SortKind} {key:Keyed→Int} {Ok:Keyed→Prop} {arr:Array Keyed} {pend:Array (Nat×Nat×Nat)} {g:Nat}
variable {lo hi:Nat}
theorem G3(h:cW key arr lo hi)(hz:hi≤arr.size):bg key (arr.extract lo hi).toList:=by
 unfold bg;rw [mh];intro i j aV hj w5;have h1:i<hi-lo∧j<hi-lo:=by simp at aV hj;omega
 have:=h (lo+i) (lo+j) (by omega) (by omega) (by omega)
 unfold vA at this;simpa [Array.getD,show lo+i<arr.size by omega,show lo+j<arr.size by omega] using this
theorem CG(hz:hi≤arr.size)(aV:lo+i<hi):(arr.extract lo hi).getD i nn=arr.getD (lo+i) nn:=by simp [Array.getD,show lo+i<arr.size by omega,show i<min hi arr.size-lo by omega]
theorem G4(ok:fj Ok arr)(hz:hi≤arr.size):fj Ok (arr.extract lo hi):=fun i aV=>by
 have:lo+i<hi:=by simp at aV;omega
 rw [CG hz this];exact ok _ (by omega)
theorem ext_mem(hz:hi≤arr.size){x:Keyed}(hx:x∈(arr.extract lo hi).toList):∃j,lo≤j∧j<hi∧x=arr.getD j nn:=mR hz hx
theorem Pu{σ:Type}{st av:σ}{Q:PUnit→σ→Prop}{M:Model}(q:Q ⟨⟩ av):wpS M A E s (set av:StateT σ Sem PUnit) Q st:=by unfold wpS;rw [StateT.run_set];exact bE ⟨rfl,q⟩
variable {sa na nb:Nat}
theorem Pw{sb bu b9:Nat}{m:Array Keyed}(hz:sb+nb≤arr.size)(h0:sa+na=sb)(hk:bu≤na)(hb:b9≤nb)(pm:m.toList.Perm ((arr.extract (sa+bu) sb).toList++(arr.extract sb (sb+b9)).toList))(sm:bg key m.toList)
  (s1:cW key arr sa sb) (s2:cW key arr sb (sb+nb)) (xf:bu<na) (G5:1≤nb)
  (c1:∀i,i<bu→vA key arr (sa+i)≤vA key arr sb) (c2:∀i,b9≤i→i<nb→vA key arr (sb-1)≤vA key arr (sb+i)) :
  Rl arr (putL m.toList (sa+bu) arr 0) sa (sb+nb)∧cW key (putL m.toList (sa+bu) arr 0) sa (sb+nb):=by
 have lm:m.toList.length=(na-bu)+b9:=by rw [pm.length_eq,dh,jC,jC];simp;omega
 have hsz:sa+bu+m.toList.length≤arr.size:=by omega
 have at':=G2 m.toList (sa+bu) arr 0;have rl:Rl arr (putL m.toList (sa+bu) arr 0) sa (sb+nb):=by
  refine ⟨nN.mpr ?_,fun k cP=>?_⟩
  ·rw [Pt hsz]
   have e:arr.toList=arr.toList.take (sa+bu)++((arr.extract (sa+bu) sb).toList++(arr.extract sb (sb+b9)).toList)++arr.toList.drop (sa+bu+m.toList.length):=by
    rw [jC,jC,show sa+bu+m.toList.length=sb+b9 by omega,show sb+b9-sb=b9 by omega]
    have t1:arr.toList.drop (sa+bu)=(arr.toList.drop (sa+bu)).take (sb-(sa+bu))++arr.toList.drop sb:=by
     have:=(pA (sb-(sa+bu)) (arr.toList.drop (sa+bu))).symm;rw [List.drop_drop,show sa+bu+(sb-(sa+bu))=sb by omega] at this
     exact this
    have t2:arr.toList.drop sb=(arr.toList.drop sb).take b9++arr.toList.drop (sb+b9):=by have:=(pA b9 (arr.toList.drop sb)).symm;rw [List.drop_drop] at this;exact this
    have t0:=(pA (sa+bu) arr.toList).symm;rw [t1,t2] at t0;rw [gm,gm];exact t0
   refine List.Perm.trans ?_ (List.Perm.of_eq e.symm);exact List.Perm.append_right _ (yu _ pm)
  ·rw [at' k (by omega),aa (by omega)]
 have vo:∀k,k<sa+bu∨sb+b9≤k→vA key (putL m.toList (sa+bu) arr 0) k=vA key arr k:=fun k cP=>by unfold vA;rw [j_,at' k (by omega),aa (by omega),j_]
 have vm:∀k,sa+bu≤k→k<sb+b9→∃hj:k-(sa+bu)<m.toList.length,vA key (putL m.toList (sa+bu) arr 0) k=key (m.toList[k-(sa+bu)]'hj):=fun k h1 h2=>by
  have hj:k-(sa+bu)<m.toList.length:=by omega
  refine ⟨hj,?_⟩;unfold vA;rw [j_,at' k (by omega),ae (by omega),vQ,bx hj]
  rfl
 have vq:∀k,sa+bu≤k→k<sb+b9→∃q,sa+bu≤q∧q<sb+b9∧vA key (putL m.toList (sa+bu) arr 0) k=vA key arr q:=fun k h1 h2=>by
  obtain ⟨hj,e⟩:=vm k h1 h2;have mm:=pm.mem_iff.mp (cS hj);rcases dg.mp mm with mm | mm
  ·obtain ⟨q,q1,q2,eq⟩:=ext_mem (by omega) mm
   exact ⟨q,q1,by omega,by rw [e,eq];rfl⟩
  ·obtain ⟨q,q1,q2,eq⟩:=ext_mem (by omega) mm
   exact ⟨q,by omega,q2,by rw [e,eq];rfl⟩
 have d1:∀i,sa≤i→i<sa+bu→vA key arr i≤vA key arr sb:=fun i a b=>by
  have:=c1 (i-sa) (by omega)
  rwa [show sa+(i-sa)=i by omega] at this
 have d2:∀j,sb+b9≤j→j<sb+nb→vA key arr (sb-1)≤vA key arr j:=fun j a b=>by
  have:=c2 (j-sb) (by omega) (by omega)
  rwa [show sb+(j-sb)=j by omega] at this
 refine ⟨rl,fun i j h1 h2 h3=>?_⟩;by_cases i1:i<sa+bu
 ·rw [vo i (.inl i1)]
  by_cases j1:j<sa+bu
  ·rw [vo j (.inl j1)]
   exact s1 i j h1 h2 (by omega)
  ·by_cases j2:j<sb+b9
   ·obtain ⟨q,q1,q2,e⟩:=vq j (by omega) j2
    rw [e];by_cases q3:q<sb;·exact s1 i q h1 (by omega) q3
    ·exact dq (d1 i h1 i1) (s2 sb q (ax _) (by omega) (by omega))
   ·rw [vo j (.inr (by omega))]
    exact dq (d1 i h1 i1) (s2 sb j (ax _) (by omega) h3)
 ·by_cases i2:i<sb+b9
  ·by_cases j2:j<sb+b9
   ·obtain ⟨x1,e1⟩:=vm i (by omega) i2
    obtain ⟨x2,e2⟩:=vm j (by omega) j2
    rw [e1,e2];by_cases z:i=j;·subst z;exact jl _
    ·exact mh.mp sm _ _ x1 x2 (by omega)
   ·obtain ⟨q,q1,q2,e⟩:=vq i (by omega) i2
    rw [e,vo j (.inr (by omega))]
    by_cases q3:q<sb;·exact dq (s1 q (sb-1) (by omega) (by omega) (by omega)) (d2 j (by omega) h3)
    ·exact s2 q j (by omega) (by omega) h3
  ·rw [vo i (.inr (by omega)),vo j (.inr (by omega))]
   exact s2 i j (by omega) h2 h3
theorem Px(h:i7 prog w A s κ key Ok)(ok:fj Ok arr){pw mU:Nat}(e1:pend[i]?=some (sa,na,pw))(e2:pend[i+1]?=some (sa+na,nb,mU))(xf:1≤na)(G5:1≤nb)(hz:sa+na+nb≤arr.size)
  (s1:cW key arr sa (sa+na)) (s2:cW key arr (sa+na) (sa+na+nb)) {Q:Bool→SortSt→Prop}
  (k:∀aR g',Rl arr aR sa (sa+na+nb)→cW key aR sa (sa+na+nb)→Q true (a8 κ aR ((pend.setIfInBounds i (sa,na+nb,pw)).eraseIdxIfInBounds (i+1)) g')):wpS (model prog w) A E s (mergeAt' i) Q (a8 κ arr pend g):=by
 rw [Pq];refine ar (iY ?_);have lH:(pendingOf (a8 κ arr pend g))[i]?=some (sa,na,pw):=e1;have Py:(pendingOf (a8 κ arr pend g))[i+1]?=some (sa+na,nb,mU):=e2;rw [lH,Py];dsimp only;refine ar (Pu ?_);refine ar (bA (by show sa+na<arr.size;omega) ?_)
 refine ar (iR (f:=fun j=>bB false (vA key arr (sa+na)) (vA key arr (sa+j))) (fun j hj Q q=>iQ (κ:=κ) h (by show sa+j<arr.size;omega) ok (ok _ (by omega)) rfl q) (by omega) ?_ fun t t1 t2 t3=>?_)
 ·intro i j h1 h2 h3
  have:vA key arr (sa+i)≤vA key arr (sa+na):=dq (s1 _ _ (by omega) (by omega) (by omega)) (lN h3)
  show (!decide (vA key arr (sa+na)<vA key arr (sa+i)))=true;simpa using this
 dsimp only;by_cases z1:(na-t == 0)=true
 ·rw [ae z1]
  have tz:t=na:=by have:=eq_of_beq z1;omega
  subst tz;refine aq (k arr g (Rl.refl ..) fun i j h1 h2 h3=>?_);by_cases i1:i<sa+t
  ·by_cases j1:j<sa+t
   ·exact s1 i j h1 h2 j1
   ·have:=lN (t2 (i-sa) (by omega))
    rw [show sa+(i-sa)=i by omega] at this
    exact dq this (s2 _ _ (ax _) (by omega) (by omega))
  ·exact s2 i j (by omega) h2 (by omega)
 rw [aa z1];have tn:t<na:=by
  have:na-t≠0:=fun e=>z1 (by simp [e])
  omega
 refine ar (bA (by show sa+t+(na-t)-1<arr.size;omega) ?_)
 have el:sa+t+(na-t)-1=sa+na-1:=by omega
 rw [el];refine ar (iR (f:=fun j=>bB true (vA key arr (sa+na-1)) (vA key arr (sa+na+j))) (fun j hj Q q=>iQ (κ:=κ) h (by show sa+na+j<arr.size;omega) ok (ok _ (by omega)) rfl q) (by omega) ?_ fun u u1 u2 u3=>?_)
 ·intro i j h1 h2 h3
  exact bQ (Int.lt_of_le_of_lt (s2 _ _ (by omega) (by omega) (by omega)) (h_ h3))
 dsimp only;have Pz:=oB (t3 (na-1) (by omega) (by omega))
 rw [show sa+(na-1)=sa+na-1 by omega] at Pz
 by_cases z2:(u == 0)=true
 ·exfalso
  have:=iS (u3 0 (by have:=eq_of_beq z2;omega) (by omega))
  rw [vQ] at this;omega
 rw [aa z2];have un:1≤u:=by
  have:u≠0:=fun e=>z2 (by simp [e])
  omega
 have ox:=G4 ok (lo:=sa+t) (hi:=sa+na) (by omega)
 have oy:=G4 ok (lo:=sa+na) (hi:=sa+na+u) (by omega)
 have sx:bg key (arr.extract (sa+t) (sa+na)).toList:=G3 (fun i j h1 h2 h3=>s1 i j (by omega) h2 h3) (by omega)
 have sy:bg key (arr.extract (sa+na) (sa+na+u)).toList:=G3 (fun i j h1 h2 h3=>s2 i j h1 h2 (by omega)) (by omega)
 have zx:(arr.extract (sa+t) (sa+na)).size=na-t:=by simp;omega
 have zy:(arr.extract (sa+na) (sa+na+u)).size=u:=by simp;omega
 have h0:∀x∈(arr.extract (sa+t) (sa+na)).toList,key ((arr.extract (sa+na) (sa+na+u)).getD 0 nn)≤key x:=fun x hx=>by
  obtain ⟨j,j1,j2,rfl⟩:=ext_mem (by omega) hx
  rw [CG (by omega) (by omega),vQ]
  have:=oB (t3 (j-sa) (by omega) (by omega))
  rw [show sa+(j-sa)=j by omega] at this
  exact dm this
 have hl:∀y∈(arr.extract (sa+na) (sa+na+u)).toList,key y≤key ((arr.extract (sa+t) (sa+na)).getD ((arr.extract (sa+t) (sa+na)).size-1) nn):=fun y hy=>by
  obtain ⟨j,j1,j2,rfl⟩:=ext_mem (by omega) hy
  rw [zx,CG (by omega) (by omega),show sa+t+(na-t-1)=sa+na-1 by omega]
  have:=h_ (u2 (j-(sa+na)) (by omega))
  rw [show sa+na+(j-(sa+na))=j by omega] at this
  exact dm this
 have fin:∀(m:Array Keyed) (g':Nat),m.toList.Perm ((arr.extract (sa+t) (sa+na)).toList++(arr.extract (sa+na) (sa+na+u)).toList)→bg key m.toList→Q true (a8 κ (putL m.toList (sa+t) arr 0) ((pend.setIfInBounds i (sa,na+nb,pw)).eraseIdxIfInBounds (i+1)) g'):=fun m g' pm sm=>by obtain ⟨rl,sg⟩:=Pw (sb:=sa+na) hz rfl (ma tn) u1 pm sm s1 s2 tn G5 (fun i hi=>lN (t2 i hi)) (fun i h1 h2=>iS (u3 i h1 h2));exact k _ g' rl sg
 refine eU (fun _=>?_) (fun _=>?_)
 ·refine ar (Pf (κ:=κ) h ox oy sx sy (by omega) (by omega) h0 hl rfl fun m g' pm sm=>?_)
  exact ar (jT (ar (iY (aq (fin m g' pm sm)))))
 ·refine ar (Pk (κ:=κ) h ox oy sx sy (by omega) (by omega) h0 hl rfl fun m g' pm sm=>?_)
  exact ar (jT (ar (iY (aq (fin m g' pm sm)))))
end
def cQ(key:Keyed→Int)(arr:Array Keyed):List (Nat×Nat×Nat)→Nat→Nat→Prop
 | [],lo,hi=>lo=hi
 | p::r,lo,hi=>p.1=lo∧1≤p.2.1∧cW key arr lo (lo+p.2.1)∧cQ key arr r (lo+p.2.1) hi
section
variable {key:Keyed→Int} {arr aR:Array Keyed}
theorem cQ.le:∀{l:List (Nat×Nat×Nat)} {lo hi:Nat},cQ key arr l lo hi→lo+l.length≤hi
 | [],lo,hi,h=>by have:lo=hi:=h;simp;omega
 | p::r,lo,hi,h=>by have:=cQ.le h.2.2.2;have:=h.2.1;simp only [eB];omega
variable {hi:Nat}
theorem cW.b8{lo a b:Nat}(h:cW key arr lo hi)(rl:Rl arr aR a b)(d:hi≤a∨b≤lo):cW key aR lo hi:=fun i j h1 h2 h3=>by
 rw [rl.v (by omega),rl.v (by omega)]
 exact h i j h1 h2 h3
theorem cQ.b8:∀{l:List (Nat×Nat×Nat)} {lo hi a b:Nat},cQ key arr l lo hi→Rl arr aR a b→hi≤a∨b≤lo→cQ key aR l lo hi
 | [],lo,hi,a,b,h,_,_=>h
 | p::r,lo,hi,a,b,h,rl,d=>by have:=h.2.2.2.le;refine ⟨h.1,h.2.1,h.2.2.1.b8 rl (by omega),h.2.2.2.b8 rl (by omega)⟩
theorem cQ.snoc:∀{l:List (Nat×Nat×Nat)} {lo hi n pw:Nat},cQ key arr l lo hi→1≤n→cW key arr hi (hi+n)→cQ key arr (l++[(hi,n,pw)]) lo (hi+n)
 | [],lo,hi,n,pw,h,n1,s=>by obtain rfl:lo=hi:=h;exact ⟨rfl,n1,s,rfl⟩
 | p::r,lo,hi,n,pw,h,n1,s=>⟨h.1,h.2.1,h.2.2.1,h.2.2.2.snoc n1 s⟩
theorem cQ.two:∀{l:List (Nat×Nat×Nat)} {lo hi i:Nat},cQ key arr l lo hi→i+1<l.length→∃sa na pw nb mU,l[i]?=some (sa,na,pw)∧l[i+1]?=some (sa+na,nb,mU)∧1≤na∧1≤nb∧lo≤sa∧sa+na+nb≤hi∧cW key arr sa (sa+na)∧cW key arr (sa+na) (sa+na+nb) ∧
  ∀aR,Rl arr aR sa (sa+na+nb)→cW key aR sa (sa+na+nb)→cQ key aR ((l.set i (sa,na+nb,pw)).eraseIdx (i+1)) lo hi
 | [],lo,hi,i,h,aV=>by simp at aV
 | [p],lo,hi,i,h,aV=>by simp at aV
 | p::q::r,lo,hi,0,h,_=>by
  obtain ⟨p1,p2,pw⟩:=p;obtain ⟨q1,q2,mU⟩:=q;obtain ⟨e1,n1,s1,e2,n2,s2,c⟩:=h;dsimp only at e1 n1 s1 e2 n2 s2 c;subst e1;subst e2;have:=c.le;refine ⟨p1,p2,pw,q2,mU,rfl,rfl,n1,n2,ax _,by omega,s1,s2,fun aR rl sg=>?_⟩
  show cQ key aR ((p1,p2+q2,pw)::r) p1 hi;refine ⟨rfl,by show 1≤p2+q2;omega,by show cW key aR p1 (p1+(p2+q2));rw [←Nat.add_assoc];exact sg,?_⟩
  show cQ key aR r (p1+(p2+q2)) hi;rw [←Nat.add_assoc];exact c.b8 rl (.inr (ax _))
 | p::q::r,lo,hi,i+1,h,aV=>by
  obtain ⟨sa,na,pw,nb,mU,e1,e2,n1,n2,l1,l2,s1,s2,k⟩:=h.2.2.2.two (i:=i) (by simpa using aV)
  refine ⟨sa,na,pw,nb,mU,e1,e2,n1,n2,by omega,l2,s1,s2,fun aR rl sg=>?_⟩
  exact ⟨h.1,h.2.1,h.2.2.1.b8 rl (.inl l1),k aR rl sg⟩
theorem cQ.last:∀{l:List (Nat×Nat×Nat)} {lo hi pw:Nat},cQ key arr l lo hi→cQ key arr (l.modify (l.length-1) fun x=>(x.1,x.2.1,pw)) lo hi
 | [],lo,hi,pw,h=>h
 | [p],lo,hi,pw,h=>h
 | p::q::r,lo,hi,pw,h=>⟨h.1,h.2.1,h.2.2.1,h.2.2.2.last⟩
theorem cQ.one{l:List (Nat×Nat×Nat)}(h:cQ key arr l 0 hi)(hl:l.length≤1):cW key arr 0 hi:=by
 match l,h,hl with
 | [],h,_=>have:0=hi:=h;exact fun i j h1 h2 h3=>by omega
 | [p],h,_=>have:=h.2.2.1;have e:0+p.2.1=hi:=h.2.2.2;rw [←e];exact this
 | p::q::r,_,hl=>simp at hl
end
section
variable {prog:Program} {w:World} {A:Around} {E:aK} {s:Shared} {κ:SortKind} {key:Keyed→Int} {Ok:Keyed→Prop} {arr:Array Keyed} {pend:Array (Nat×Nat×Nat)} {g:Nat}
theorem CH(h:i7 prog w A s κ key Ok)(ok:fj Ok arr){hi:Nat}(c:cQ key arr pend.toList 0 hi)(hz:hi≤arr.size)(aV:i+1<pend.size){Q:Bool→SortSt→Prop}
  (k:∀aR CI g',Rl arr aR 0 hi→cQ key aR CI.toList 0 hi→CI.size+1=pend.size→Q true (a8 κ aR CI g')):wpS (model prog w) A E s (mergeAt' i) Q (a8 κ arr pend g):=by
 obtain ⟨sa,na,pw,nb,mU,e1,e2,n1,n2,l1,l2,s1,s2,kk⟩:=c.two (i:=i) (by simpa using aV)
 refine Px h ok (by simpa using e1) (by simpa using e2) n1 n2 (by omega) s1 s2 fun aR g' rl sg=>?_
 refine k _ _ _ (rl.wide (ba _) l2) ?_ ?_
 ·have:=kk aR rl sg
  simpa using this
 ·rw [←eA,Array.toList_eraseIdxIfInBounds,List.length_eraseIdx,ae (by simpa using aV)]
  simp;omega
theorem G6(h:i7 prog w A s κ key Ok)(ok:fj Ok arr){Q:Unit→SortSt→Prop}
  (k:∀aR av,aR.Perm arr→cW key aR 0 arr.size→arrOf av=aR→failedOf av=none→Q () av):wpS (model prog w) A E s sortRuns' Q (a8 κ arr #[] g):=by
 rw [sortRuns'_eq];refine ar (iY ?_);dsimp only;have es:(arrOf (a8 κ arr #[] g)).size=arr.size:=rfl;rw [es]
 refine ar (fW (fK (I:=fun x c av=>∃(aI:Array Keyed) (eF:Array (Nat×Nat×Nat)) (g2 lo:Nat),av=a8 κ aI eF g2∧c=(none,lo)∧aI.Perm arr∧cQ key aI eF.toList 0 lo∧lo≤arr.size∧x≤lo)
  (Q:=fun c av=>∃(aI:Array Keyed) (eF:Array (Nat×Nat×Nat)) (g2:Nat),av=a8 κ aI eF g2∧c=(none,arr.size)∧aI.Perm arr∧cQ key aI eF.toList 0 arr.size) ?_ ?_ ⟨arr,#[],g,0,rfl,rfl,Array.Perm.refl _,rfl,ba _,ax _⟩) ?_)
 ·rintro x c av _ hx ⟨aI,eF,g2,lo,rfl,rfl,oD,qy,l1,l2⟩
  have mT:=tY ok oD;have z2:=oD.size_eq;dsimp only;by_cases z:lo≥arr.size
  ·rw [ae z]
   obtain rfl:lo=arr.size:=by omega
   exact aq ⟨aI,eF,g2,rfl,rfl,oD,qy⟩
  rw [aa z];refine ar (Pl h mT (by omega) (by omega) fun n cM n1 nn kg sg=>?_)
  have eG:=kg.pm.trans oD;have G7:=tY ok eG;have z3:=eG.size_eq;have iT:=qy.b8 kg (.inl (ax _));dsimp only;by_cases y:n<minRun' arr.size arr.size 0
  ·rw [ae y]
   refine ar (wpS_lift (kP ⟨rfl,?_⟩));refine ar (Pp h G7 (n:=min (arr.size-lo) (minRun' arr.size arr.size 0)) (by omega) n1 (by omega) sg fun aY bV f_=>?_)
   rw [aa (by simp)]
   have gf:=iT.b8 bV (.inl (ax _));have CJ:=bV.pm.trans eG;clear iT eG G7 z3 sg kg bV;have f1:1≤min (arr.size-lo) (minRun' arr.size arr.size 0):=by omega
   have f2:lo+min (arr.size-lo) (minRun' arr.size arr.size 0)≤arr.size:=by omega
   generalize min (arr.size-lo) (minRun' arr.size arr.size 0)=fo at f_ f1 f2 ⊢
   revert gf CJ f_
   generalize aY=cM;intro iT eG f_;refine ar (iY ?_);have eb:(pendingOf (a8 κ cM eF g2)).back?=eF.back?:=rfl;rw [eb];cases eF.back? with
   | none=>dsimp only;exact ar (jT (aq ⟨cM,eF.push (lo,fo,0),g2,lo+fo,rfl,rfl,eG,by rw [nJ];exact iT.snoc f1 f_,f2,by have:=f1;omega⟩))
   | some p=>
    obtain ⟨PB,zI,PD⟩:=p;dsimp only;have z3:=eG.size_eq
    refine ar (fW (fK (I:=fun y c av=>∃(aY:Array Keyed) (bK:Array (Nat×Nat×Nat)) (g4:Nat),av=a8 κ aY bK g4∧c=(none,())∧Rl cM aY 0 lo∧cQ key aY bK.toList 0 lo)
     (Q:=fun c av=>∃(aY:Array Keyed) (bK:Array (Nat×Nat×Nat)) (g4:Nat),av=a8 κ aY bK g4∧c=(none,())∧Rl cM aY 0 lo∧cQ key aY bK.toList 0 lo) ?_ (fun c av hh=>hh) ⟨cM,eF,g2,rfl,rfl,Rl.refl ..,iT⟩) ?_)
    ·rintro y c av _ hy ⟨aY,bK,g4,rfl,rfl,bV,gf⟩
     have z4:=bV.size;refine ar (iY ?_);have hx:∀o,o=(if (pendingOf (a8 κ aY bK g4)).size>1 then (pendingOf (a8 κ aY bK g4))[(pendingOf (a8 κ aY bK g4)).size-2]? else none)→o.isSome=true→bK.size>1:=fun o ho hs=>by
      by_cases z:bK.size>1;·exact z
      ·rw [aa z] at ho
       rw [ho] at hs;cases hs
     generalize eo:(if (pendingOf (a8 κ aY bK g4)).size>1 then (pendingOf (a8 κ aY bK g4))[(pendingOf (a8 κ aY bK g4)).size-2]? else none)=o
     cases o with
     | none=>exact aq ⟨aY,bK,g4,rfl,rfl,bV,gf⟩
     | some p=>
      have gt:=hx _ eo.symm rfl;obtain ⟨q1,q2,PF⟩:=p;dsimp only;refine eU (fun _=>aq ⟨aY,bK,g4,rfl,rfl,bV,gf⟩) (fun _=>?_);refine ar (CH h (tY ok (bV.pm.trans eG)) gf (by omega) (show bK.size-2+1<bK.size by omega) fun CK CL g5 CM CN _=>?_)
      rw [aa (by simp)]
      exact aq ⟨CK,CL,g5,rfl,rfl,bV.trans CM,CN⟩
    ·rintro c av ⟨aY,bK,g4,rfl,rfl,bV,gf⟩
     dsimp only;refine ar (jT (ar (jT (aq ⟨aY,_,g4,lo+fo,rfl,rfl,bV.pm.trans eG,?_,f2,by have:=f1;omega⟩))))
     rw [nJ];refine cQ.snoc ?_ f1 (cW.b8 f_ bV (.inr (ax _)));rw [Array.toList_modify];exact gf.last
  ·rw [aa y]
   have f2:lo+n≤arr.size:=by omega
   refine ar (iY ?_);have eb:(pendingOf (a8 κ cM eF g2)).back?=eF.back?:=rfl;rw [eb];cases eF.back? with
   | none=>dsimp only;exact ar (jT (aq ⟨cM,eF.push (lo,n,0),g2,lo+n,rfl,rfl,eG,by rw [nJ];exact iT.snoc n1 sg,f2,by have:=n1;omega⟩))
   | some p=>
    obtain ⟨PB,zI,PD⟩:=p;dsimp only;have z3:=eG.size_eq
    refine ar (fW (fK (I:=fun y c av=>∃(aY:Array Keyed) (bK:Array (Nat×Nat×Nat)) (g4:Nat),av=a8 κ aY bK g4∧c=(none,())∧Rl cM aY 0 lo∧cQ key aY bK.toList 0 lo)
     (Q:=fun c av=>∃(aY:Array Keyed) (bK:Array (Nat×Nat×Nat)) (g4:Nat),av=a8 κ aY bK g4∧c=(none,())∧Rl cM aY 0 lo∧cQ key aY bK.toList 0 lo) ?_ (fun c av hh=>hh) ⟨cM,eF,g2,rfl,rfl,Rl.refl ..,iT⟩) ?_)
    ·rintro y c av _ hy ⟨aY,bK,g4,rfl,rfl,bV,gf⟩
     have z4:=bV.size;refine ar (iY ?_);have hx:∀o,o=(if (pendingOf (a8 κ aY bK g4)).size>1 then (pendingOf (a8 κ aY bK g4))[(pendingOf (a8 κ aY bK g4)).size-2]? else none)→o.isSome=true→bK.size>1:=fun o ho hs=>by
      by_cases z:bK.size>1;·exact z
      ·rw [aa z] at ho
       rw [ho] at hs;cases hs
     generalize eo:(if (pendingOf (a8 κ aY bK g4)).size>1 then (pendingOf (a8 κ aY bK g4))[(pendingOf (a8 κ aY bK g4)).size-2]? else none)=o
     cases o with
     | none=>exact aq ⟨aY,bK,g4,rfl,rfl,bV,gf⟩
     | some p=>
      have gt:=hx _ eo.symm rfl;obtain ⟨q1,q2,PF⟩:=p;dsimp only;refine eU (fun _=>aq ⟨aY,bK,g4,rfl,rfl,bV,gf⟩) (fun _=>?_);refine ar (CH h (tY ok (bV.pm.trans eG)) gf (by omega) (show bK.size-2+1<bK.size by omega) fun CK CL g5 CM CN _=>?_)
      rw [aa (by simp)]
      exact aq ⟨CK,CL,g5,rfl,rfl,bV.trans CM,CN⟩
    ·rintro c av ⟨aY,bK,g4,rfl,rfl,bV,gf⟩
     dsimp only;refine ar (jT (ar (jT (aq ⟨aY,_,g4,lo+n,rfl,rfl,bV.pm.trans eG,?_,f2,by have:=n1;omega⟩))))
     rw [nJ];refine cQ.snoc ?_ n1 (cW.b8 sg bV (.inr (ax _)));rw [Array.toList_modify];exact gf.last
 ·rintro c av ⟨aI,eF,g2,lo,rfl,rfl,oD,qy,l1,l2⟩
  obtain rfl:lo=arr.size:=by omega
  exact ⟨aI,eF,g2,rfl,rfl,oD,qy⟩
 ·rintro c av ⟨aI,eF,g2,rfl,rfl,oD,qy⟩
  dsimp only;have pz:=qy.le
  refine ar (fW (fK (I:=fun x c av=>∃(cM:Array Keyed) (eJ:Array (Nat×Nat×Nat)) (g3:Nat),av=a8 κ cM eJ g3∧c=(none,())∧cM.Perm arr∧cQ key cM eJ.toList 0 arr.size∧eJ.size+x≤arr.size)
   (Q:=fun c av=>∃(cM:Array Keyed) (eJ:Array (Nat×Nat×Nat)) (g3:Nat),av=a8 κ cM eJ g3∧c=(none,())∧cM.Perm arr∧cQ key cM eJ.toList 0 arr.size∧eJ.size≤1) ?_ ?_ ⟨aI,eF,g2,rfl,rfl,oD,qy,show eF.size+0≤arr.size by simpa using pz⟩) ?_)
  ·rintro x c av _ hx ⟨cM,eJ,g3,rfl,rfl,eG,iT,l3⟩
   have z3:=eG.size_eq;refine ar (iY ?_);by_cases z:(pendingOf (a8 κ cM eJ g3)).size≤1
   ·rw [ae z]
    exact aq ⟨cM,eJ,g3,rfl,rfl,eG,iT,z⟩
   ·rw [aa z]
    have z':1<eJ.size:=Nat.lt_of_not_le z;have go:∀i,i+1<eJ.size→wpS (model prog w) A E s (mergeAt' i) (fun b av=>b=true∧∃(aY:Array Keyed) (bK:Array (Nat×Nat×Nat)) (g4:Nat),av=a8 κ aY bK g4∧aY.Perm arr∧cQ key aY bK.toList 0 arr.size∧bK.size+(x+1)≤arr.size) (a8 κ cM eJ g3):=fun i hi=>by refine CH h (tY ok eG) iT (by omega) hi fun aY bK g4 bV gf sz=>⟨rfl,aY,bK,g4,rfl,bV.pm.trans eG,gf,by omega⟩
    refine ar (fW (go _ ?_) ?_)
    ·show (if _ then _ else _)+1<eJ.size
     have e:(pendingOf (a8 κ cM eJ g3)).size=eJ.size:=rfl;rw [e];have:∀c:Bool,(if c=true then eJ.size-2-1 else eJ.size-2)+1<eJ.size:=fun c=>by cases c <;> simp <;> omega
     exact this _
    ·rintro b av ⟨rfl,aY,bK,g4,rfl,CJ,gf,l4⟩
     rw [aa (by simp)]
     exact aq ⟨aY,bK,g4,rfl,rfl,CJ,gf,l4⟩
  ·rintro c av ⟨cM,eJ,g3,rfl,rfl,eG,iT,l3⟩
   exact ⟨cM,eJ,g3,rfl,rfl,eG,iT,by omega⟩
  ·rintro c av ⟨cM,eJ,g3,rfl,rfl,eG,iT,l3⟩
   exact aq (k cM _ eG (iT.one (by simpa using l3)) rfl rfl)
end
end Tm
namespace My
open PySem PySem.W PyProof.Rows Tm
section
variable {prog:Program} {w:World} {A:Around} {E:aK} {s:Shared}
def eK(h:Heap)(v:Value)(x y:Int):Prop:=∃a o t u e,v=.ref a∧h.get? a=some o∧o.cls=.type "tuple"∧o.data=.seq #[.int x t,.int y u] e
variable {x y x' y':Int}
theorem PH{v v':Value}(h1:eK s.heap v x y)(h2:eK s.heap v' x' y'){Q:Bool→Shared→Prop}(h:Q (decide (x<x'∨x=x'∧y<y')) s):wpAny (model prog w) A (keyLt' (tuples' true) v v') Q E s:=by
 obtain ⟨a,o,t,u,e,rfl,g,_,d⟩:=h1;obtain ⟨a',o',t',u',e',rfl,g',_,d'⟩:=h2;refine kat_lt g d g' d' ?_;show KatLex prog w A true (decide (2<2)) Q [(.int x t,.int x' t'),(.int y u,.int y' u')] 0 s;refine kat_cons (wpAny_eqBool_int ?_);by_cases z:x=x'
 ·subst z
  rw [show (x == x)=true by simp]
  refine kat_yes (kat_cons (wpAny_eqBool_int ?_));by_cases z2:y=y'
  ·subst z2
   rw [show (y == y)=true by simp]
   refine kat_yes (kat_nil ?_);rw [bW (by omega)] at h
   exact h
  ·rw [show (y == y')=false by simp [z2]]
   refine kat_no ?_;show wpAny (model prog w) A (oneLt' false (.int y u) (.int y' u')) Q _ s;refine kat_one _ _ (lt_int ?_);show Q (decide (y<y')) s;rw [show decide (y<y')=decide (x<x∨x=x∧y<y') from vR.mpr (by omega)]
   exact h
 ·rw [show (x == x')=false by simp [z]]
  refine kat_no ?_;show wpAny (model prog w) A (oneLt' true (.int x t) (.int x' t')) Q _ s;refine oneLt_int ?_;rw [show decide (x<x')=decide (x<x'∨x=x'∧y<y') from vR.mpr (by omega)]
  exact h
theorem G8{h:Heap}:∀{vs:List Value},(∀v∈vs,∃x y,eK h v x y)→∃fs:List Value,KatTups h vs fs∧fs.length=vs.length∧∀f∈fs,∃n t,f=.int n t
 | [],_=>⟨[],.nil,rfl,fun f hf=>by cases hf⟩
 | v::vs,hv=>by
  obtain ⟨fs,k,l,i⟩:=G8 (vs:=vs) fun v h=>hv v (cw _ h);obtain ⟨x,y,a,o,t,u,e,rfl,g,c,d⟩:=hv v dy;refine ⟨.int x t::fs,.cons g c d rfl k,by rw [eB,eB,l],fun f hf=>?_⟩
  rcases cf.mp hf with rfl | hf;·exact ⟨x,t,rfl⟩
  ·exact i f hf
theorem perm_back{α β:Type}{f:α→β}{l m:List β}(h:l.Perm m):∀q:List α,m=q.map f→∃p:List α,p.Perm q∧l=p.map f:=by
 induction h with
 | nil=>intro q e;exact ⟨q,List.Perm.refl _,e⟩
 | cons x _ ih=>
  intro q e
  match q,e with
  | a::q,e=>obtain ⟨rfl,e'⟩:=List.cons.inj e;obtain ⟨p,hp,rfl⟩:=ih q e';exact ⟨a::p,hp.cons a,rfl⟩
 | swap x y _=>
  intro q e
  match q,e with
  | a::b::q,e=>obtain ⟨rfl,e'⟩:=List.cons.inj e;obtain ⟨rfl,rfl⟩:=List.cons.inj e';exact ⟨b::a::q,List.Perm.swap ..,rfl⟩
 | trans _ _ PJ PK=>intro q e;obtain ⟨p,hp,e1⟩:=PK q e;obtain ⟨p',PL,e2⟩:=PJ p e1;exact ⟨p',PL.trans hp,e2⟩
variable {h:Heap}
theorem eK.uniq{v:Value}(h1:eK h v x y)(h2:eK h v x' y'):x=x'∧y=y':=by obtain ⟨a,o,t,u,e,rfl,g,_,d⟩:=h1;obtain ⟨a',o',t',u',e',ev,g',_,d'⟩:=h2;cases ev;rw [g] at g';cases g';rw [d] at d';simp at d';exact ⟨d'.1.1.1,d'.1.2.1⟩
open Classical in
noncomputable def CO (h:Heap) (k:Keyed):Int:=if e:∃z:Int×Int,eK h k.1 z.1 z.2 then (choose e).1*1000+(choose e).2 else 0
theorem zJ{v u:Value}(p:eK h v x y):CO h (v,u)=x*1000+y:=by have e:∃z:Int×Int,eK h (v,u).1 z.1 z.2:=⟨(x,y),p⟩;unfold CO;rw [dif_pos e];obtain ⟨a,b⟩:=(Classical.choose_spec e).uniq p;rw [a,b]
variable {vs:List Value}
theorem PM{x y:Nat→Int}(h2:2≤vs.length)(hv:∀i v,vs[i]?=some v→eK s.heap v (x i) (y i)∧0≤y i∧y i<1000){Q:SortSt→Shared→Prop}
  (hQ:∀(p:Array Nat) (st:SortSt),lK vs.length p→oz (fun i=>x i*1000+y i) p vs.length→(arrOf st).map (·.2)=List.toArray (p.toList.map fun i=>vs.getD i Value.none)→failedOf st=none→Q st s) :
  wpAny (model prog w) A (sortRuns'.run (SortSt.mk' (tuples' true) (vs.toArray.zip vs.toArray) #[] 7 none)) (fun r s'=>Q r.2 s') E s:=by
 have az:(vs.toArray.zip vs.toArray).size=vs.length:=by simp
 have ag:∀i,i<vs.length→(vs.toArray.zip vs.toArray).getD i nn=(vs.getD i Value.none,vs.getD i Value.none):=fun i hi=>by simp [Array.getD,hi]
 have ga:∀i (hi:i<vs.length),eK s.heap (vs.getD i Value.none) (x i) (y i)∧0≤y i∧y i<1000:=fun i hi=>by refine hv i _ ?_;simp [hi]
 have lt:i7 prog w A s (tuples' true) (CO s.heap) (fun k=>∃a b,eK s.heap k.1 a b∧0≤b∧b<1000):=by
  rintro ⟨u,u'⟩ ⟨v,v'⟩ ⟨a,b,p1,b0,b1⟩ ⟨c,d,p2,d0,d1⟩ C hC;refine PH p1 p2 ?_;rw [zJ p1,zJ p2] at hC;rw [show decide (a<c∨a=c∧b<d)=decide (a*1000+b<c*1000+d) from vR.mpr (by omega)]
  exact hC
 have ok:fj (fun k=>∃a b,eK s.heap k.1 a b∧0≤b∧b<1000) (vs.toArray.zip vs.toArray):=fun i hi=>by rw [az] at hi;rw [ag i hi];exact ⟨_,_,ga i hi⟩
 refine bC (G6 (E:=E) (Q:=fun _ st=>Q st s) (g:=7) lt ok fun aR st pm sg ha hf=>?_) (fun r s' h'=>by obtain ⟨rfl,h'⟩:=h';exact h') fun _ _ e=>e
 have el:(vs.toArray.zip vs.toArray).toList=(List.range vs.length).map fun i=>(vs.getD i Value.none,vs.getD i Value.none):=by
  refine gY (by simp) fun i h1 h2=>?_
  have hi:i<vs.length:=by simpa using h2
  simp [hi]
 obtain ⟨p,hp,ep⟩:=perm_back (nN.mp pm) _ el;have pl:p.length=vs.length:=by rw [hp.length_eq,dt]
 have CP:∀i∈p,i<vs.length:=fun i hi=>b7.mp (hp.mem_iff.mp hi);have hsz:aR.size=vs.length:=by rw [pm.size_eq,az]
 have gd:∀i,i<vs.length→aR.getD i nn=(vs.getD (p.toArray.getD i 0) Value.none,vs.getD (p.toArray.getD i 0) Value.none)∧p.toArray.getD i 0<vs.length:=fun i hi=>by
  have e1:aR.getD i nn=aR.toList[i]'(by simp;omega):=by simp [Array.getD,show i<aR.size by omega]
  have e2:p.toArray.getD i 0=p[i]'(by omega):=by simp [Array.getD,show i<p.length by omega]
  rw [e1,e2];refine ⟨?_,CP _ (cS _)⟩;simp [ep]
 refine hQ p.toArray st (nN.mpr (by simpa using hp)) (fun i j h1 h3=>?_) ?_ hf
 ·have:=sg i j (ba _) h1 (by rw [az];exact h3)
  unfold vA at this;obtain ⟨e1,l1⟩:=gd i (by omega)
  obtain ⟨e2,l2⟩:=gd j h3;rw [e1,e2,zJ (ga _ l1).1,zJ (ga _ l2).1] at this;exact this
 ·rw [ha]
  apply Array.toList_inj.mp;rw [Array.toList_map,ep,cm];rfl
theorem PN{Q:SortKind→Shared→Prop}(h1:1≤vs.length)(hv:∀v∈vs,∃x y,eK s.heap v x y)(h:Q (tuples' true) s):wpAny (model prog w) A (keyKind' vs.toArray) Q E s:=by
 obtain ⟨fs,k,l,i⟩:=G8 hv;refine kat_kind (T:=Value.type "int") k (by omega) (fun v hv=>?_) rfl h
 obtain ⟨n,t,rfl⟩:=i v hv;exact .now
theorem eK.mono{h':Heap}{v:Value}(k:∀b o,h.get? b=some o→h'.get? b=some o)(p:eK h v x y):eK h' v x y:=by obtain ⟨a,o,t,u,e,rfl,g,c,d⟩:=p;exact ⟨a,o,t,u,e,rfl,k _ _ g,c,d⟩
theorem PQ{a:Addr}{n:Nat}{x y:Nat→Int}{P:PySem.Fin→Shared→Prop}(ho:s.heap.get? a=some (seqObj "list" vs.toArray n))(xg:vs.length<1000)(hv:∀i v,vs[i]?=some v→eK s.heap v (x i) (y i)∧0≤y i∧y i<1000)
  (h:∀(p:Array Nat),lK vs.length p→oz (fun i=>x i*1000+y i) p vs.length→P (.done (.ret .none)) {s with heap:=sortedHeap s.heap a vs (List.toArray (p.toList.map fun i=>vs.getD i Value.none))}) :
  wpAny (model prog w) A (Builtin.«list.sort» ⟨[.ref a],[]⟩) P E s:=by
 have sl:vs.length≤sizeLine:=by rw [iD];omega
 have lt:=aT ho
 obtain ⟨e1,g1⟩:∃e,(s.heap.update a (Obj.mapSeq fun _=>#[])).get? a=some (seqObj "list" #[] e):=⟨_,nO ho fun _=>#[]⟩
 have z1:(s.heap.update a (Obj.mapSeq fun _=>#[])).objs.size=s.heap.objs.size:=vS _ _ _
 have up:∀b u,b<s.heap.objs.size→(s.heap.update a (Obj.mapSeq fun _=>#[])).get? b=some u→(((s.heap.update a (Obj.mapSeq fun _=>#[])).push (seqObj "tuple" vs.toArray 0)).push (seqObj "list" #[] 0)).get? b=some u:=fun b u hb hu=>by
  rw [nQ _ _ _ (bL (by rw [pB,z1];exact kM hb)),nQ _ _ _ (bL (by rw [z1];exact hb))]
  exact hu
 have g3:=up a _ lt g1
 have G9:∀i v,vs[i]?=some v→eK (((s.heap.update a (Obj.mapSeq fun _=>#[])).push (seqObj "tuple" vs.toArray 0)).push (seqObj "list" #[] 0)) v (x i) (y i)∧0≤y i∧y i<1000:=fun i v hi=>by
  obtain ⟨⟨b,o,t,u,e,rfl,g,cc,d⟩,y0⟩:=hv i v hi
  have nb:b≠a:=fun q=>by
   rw [q,ho] at g
   cases g
   exact absurd (Value.type.inj cc) (by decide)
  refine ⟨⟨b,o,t,u,e,rfl,up b o (aT g) ?_,cc,d⟩,y0⟩
  rw [sQ _ _ _ _ nb]
  exact g
 rw [list_sort_plain]
 refine aC (listItems_at ho rfl (aC (sR ho rfl ?_ (by rw [bR];omega) (ba _))))
 refine aC (seqEpoch_at g1 rfl (aC (wpAny_newTuple ?_ (by show vs.length≤_;omega))))
 refine aC (sS (kJ ?_) (ba _))
 show wpAny (model prog w) A _ P E {s with heap:=((s.heap.update a (Obj.mapSeq fun _=>#[])).push (seqObj "tuple" vs.toArray 0)).push (seqObj "list" #[] 0)}
 dsimp only
 have fin:∀(st:SortSt) (p:Array Nat),lK vs.length p→oz (fun i=>x i*1000+y i) p vs.length→(arrOf st).map (·.2)=List.toArray (p.toList.map fun i=>vs.getD i Value.none)→failedOf st=none→
   wpAny (model prog w) A (do
    let touched:=(←seqEpoch a) != e1
    Builtin.List.listUpdate (.ref a) fun _=>(arrOf st).map (·.2)
    if let some e:=failedOf st then rule "list.sort.comparison-raised";throw e
    if touched then rule "list.sort.modified";raiseError "ValueError" "list modified during sort"
    ret .none) P E {s with heap:=((s.heap.update a (Obj.mapSeq fun _=>#[])).push (seqObj "tuple" vs.toArray 0)).push (seqObj "list" #[] 0)}:=fun st p hp hu ha hf=>by
  refine aC (seqEpoch_at g3 rfl (aC (sR g3 rfl ?_ (ba _) ?_)))
  ·rw [hf,ha]
   simp only [bne_self_eq_false,yv,if_false]
   exact bE (h p hp hu)
  ·rw [ha,bR,aD,eA,hp.size]
   omega
 by_cases z:vs.toArray.size<2
 ·rw [ae z,ae z]
  refine aC (bE ?_)
  rw [StateT.run_pure]
  refine aC (bE ?_)
  have len:vs.length<2:=by simpa using z
  refine fin _ (List.toArray (List.range vs.length)) (Array.Perm.refl _) (fun a b h1 h2=>by
   obtain rfl:a=b:=by omega
   exact jl _) ?_ rfl
  match vs,len with
  | [],_=>
   show Array.map (·.2) ((#[]:Array Value).zip #[])=_
   simp
  | [v],_=>
   show Array.map (·.2) (#[v].zip #[v])=_
   simp
 ·rw [aa z,aa z]
  have len:2≤vs.length:=by simpa using z
  refine aC (PN (by omega) (fun v hm=>?_) ?_)
  ·obtain ⟨i,hi,rfl⟩:=sN hm
   exact ⟨_,_,(G9 i _ (by simp [hi])).1⟩
  ·refine aC (bC (PM (Q:=fun st s'=>s'={s with heap:=((s.heap.update a (Obj.mapSeq fun _=>#[])).push (seqObj "tuple" vs.toArray 0)).push (seqObj "list" #[] 0)}∧∃p,lK vs.length p∧oz (fun i=>x i*1000+y i) p vs.length∧(arrOf st).map (·.2)=List.toArray (p.toList.map fun i=>vs.getD i Value.none)∧failedOf st=none) len G9 fun p st a1 a2 a3 a4=>⟨rfl,p,a1,a2,a3,a4⟩) ?_ fun _ _ e=>e)
   rintro ⟨⟨⟩,st⟩ s' ⟨rfl,p,a1,a2,a3,a4⟩
   exact fin st p a1 a2 a3 a4
end
open PySem PySem.W PyProof.Rows
section
variable {prog:Program} {w:World} {A:Around} {E:aK} {s:Shared}
theorem PR{l:Addr}{vs:List Value}{x y:Nat→Int}{Q:aK}(hl:s.heap.IsList l vs.toArray)(xg:vs.length<1000)(hv:∀i v,vs[i]?=some v→eK s.heap v (x i) (y i)∧0≤y i∧y i<1000)
  (h:∀(p:Array Nat) (h':Heap) (c:Nat),lK vs.length p→oz (fun i=>x i*1000+y i) p vs.length→(∀b o,s.heap.get? b=some o→h'.get? b=some o)→h'.get? (s.heap.objs.size+1)=some (seqObj "list" (List.toArray (p.toList.map fun i=>vs.getD i Value.none)) c)→Q (.ref (s.heap.objs.size+1)) {s with heap:=h'}) :
  wpAny (model prog w) A (call (.builtin "sorted") [.ref l]) Q E s:=by
 have sl:vs.length≤sizeLine:=by rw [iD];omega
 refine Calls.call_function_entry kind_sorted plain_sorted entry_sorted (args_sorted1 _) ?_;unfold Builtin.«sorted»;refine aC (m:=checkCount "sorted" 1 1 _) (bE (aC (collect_list hl (aC (sS ?_ sl)) sl)));have zz:((s.heap.push (seqObj "list" #[] 0)).update s.heap.objs.size (Obj.mapSeq (·++vs.toArray))).objs.size=s.heap.objs.size+1:=by rw [vS,pB]
 have kp:∀b o,s.heap.get? b=some o→(((s.heap.push (seqObj "list" #[] 0)).update s.heap.objs.size (Obj.mapSeq (·++vs.toArray))).push (seqObj "list" vs.toArray 0)).get? b=some o:=fun b o g=>by
  have lt:=aT g;rw [nQ _ _ _ (bL (by rw [zz];exact kM lt)),sQ _ _ _ _ (bL lt),nQ _ _ _ (bL lt)]
  exact g
 have gL:(((s.heap.push (seqObj "list" #[] 0)).update s.heap.objs.size (Obj.mapSeq (·++vs.toArray))).push (seqObj "list" vs.toArray 0)).get? (s.heap.objs.size+1)=some (seqObj "list" vs.toArray 0):=by rw [←zz];exact dH _ rfl
 show wpAny _ _ _ _ _ {s with heap:=((s.heap.push (seqObj "list" #[] 0)).update s.heap.objs.size (Obj.mapSeq (·++vs.toArray))).push (seqObj "list" vs.toArray 0)};rw [zz];generalize ((s.heap.push (seqObj "list" #[] 0)).update s.heap.objs.size (Obj.mapSeq (·++vs.toArray))).push (seqObj "list" vs.toArray 0)=h1 at kp gL;refine aC (kJ (wpAny_call_entry slot_list_sort ⟨_,gL,rfl⟩ entry_list_sort (PQ (s:={s with heap:=h1}) gL xg (fun i v hi=>⟨(hv i v hi).1.mono kp,(hv i v hi).2⟩) fun p hp hu=>⟨_,rfl,?_⟩) (args_list_sort _)));have PU:=aT gL;have z1:(h1.update (s.heap.objs.size+1) (Obj.mapSeq fun _=>#[])).objs.size=h1.objs.size:=vS _ _ _;obtain ⟨e1,g1⟩:∃e,(h1.update (s.heap.objs.size+1) (Obj.mapSeq fun _=>#[])).get? (s.heap.objs.size+1)=some (seqObj "list" #[] e):=⟨_,nO gL fun _=>#[]⟩;have up:∀b u,b<h1.objs.size→(h1.update (s.heap.objs.size+1) (Obj.mapSeq fun _=>#[])).get? b=some u→(((h1.update (s.heap.objs.size+1) (Obj.mapSeq fun _=>#[])).push (seqObj "tuple" vs.toArray 0)).push (seqObj "list" #[] 0)).get? b=some u:=fun b u hb hu=>by
  rw [nQ _ _ _ (bL (by rw [pB,z1];exact kM hb)),nQ _ _ _ (bL (by rw [z1];exact hb))]
  exact hu
 have g3:=up _ _ PU g1;refine bE ⟨_,rfl,h p _ _ hp hu (fun b o g=>?_) (nO g3 fun _=>List.toArray (p.toList.map fun i=>vs.getD i Value.none))⟩;have g':=kp b o g;have ne:b≠s.heap.objs.size+1:=bL (kM (aT g));show (Heap.update _ _ _).get? b=some o;rw [sQ _ _ _ _ ne];refine up b o (aT g') ?_;rw [sQ _ _ _ _ ne];exact g'
end
end My
namespace L2
open PySem PySem.W PyProof.Rows My
def G_:List V→Hp→VK→Prop:=fun xs H Q=>∃(a:Addr) (vs:List V) (x y:Nat→Int),xs=[.ref a]∧H a=some (.lst vs)∧vs.length<1000∧(∀(i:Nat) (v:V),vs[i]?=some v→(∃b,v=.ref b∧H b=some (.tup [.int (x i),.int (y i)]))∧0≤y i∧y i<1000) ∧
 ∀(p:Array Nat) (l:Addr),lK vs.length p→oz (fun i=>x i*1000+y i) p vs.length→H l=none→Q (.ref l) (upd H l (.lst (p.toList.map fun i=>vs.getD i .aN)))
theorem CQ{xs:List V}{us:List Value}(r:Vals xs us):∀(ns:List Nat),(∀i∈ns,i<xs.length)→Vals (ns.map fun i=>xs.getD i .aN) (ns.map fun i=>us.getD i Value.none)
 | [],_=>.nil
 | i::ns,h=>by
  have hi:=h i dy;obtain ⟨u,e,ru⟩:=r.get (i:=i) (x:=xs[i]) (by simp [hi])
  refine .cons ?_ (CQ r ns fun j hj=>h j (cw _ hj));dsimp only;rw [show xs.getD i .aN=xs[i] by simp [hi],show us.getD i Value.none=u by rw [dB,e];rfl]
  exact ru
theorem Hi{X:Cx}:e_ X (.builtin "sorted") G_:=by
 intro pins s σ H xs us Q I r h;obtain ⟨a,vs,x,y,rfl,ha,xg,hv,k⟩:=h;obtain ⟨u,rfl,ru⟩:=vals1 r;cases ru;obtain ⟨ak,rv,pl,hz⟩:=I.list (.of ha);have hl:=rv.length;refine PR (x:=x) (y:=y) pl.isList (by omega) (fun i v hi=>?_) fun p h' c hp hu kp g=>?_
 ·have aV:i<vs.length:=by have:=(bM.mp hi).1;omega
  have gi:vs[i]?=some vs[i]:=by simp [aV]
  obtain ⟨⟨b,eb,hb⟩,CS⟩:=hv i _ gi;obtain ⟨u,eu,ru⟩:=rv.get gi;rw [hi] at eu;cases eu;rw [eb] at ru;cases ru;obtain ⟨_,iK,r2,o,g,cl,e,d⟩:=(show cg X.prog X.w H s.heap b (.tup [.int (x i),.int (y i)]) from I.ay b _ hb);obtain ⟨u1,u2,rfl,q1,q2⟩:=vals2 r2;obtain ⟨t1,rfl⟩:=q1;obtain ⟨t2,rfl⟩:=q2;exact ⟨⟨b,o,t1,t2,e,rfl,g,cl,d⟩,CS⟩
 ·rw [←hl] at hp hu
  have sz:=hp.size;refine ⟨.ref (s.heap.objs.size+1),_,I.laid (t':=s.toks) (o:=.lst (p.toList.map fun i=>vs.getD i .aN)) kp (iE _) ⟨?_,p.toList.map fun i=>ak.getD i Value.none,c,?_,g⟩,rfl,k p _ hp hu (I.ay.fresh (iE _))⟩
  ·rw [aD,eA,sz]
   exact hz
  ·refine CQ rv _ fun i hi=>?_
   have m:i∈List.toArray (List.range vs.length):=(Array.Perm.mem_iff hp).mp (Array.mem_toList_iff.mp hi);simpa using m
end L2
namespace My
open PySem L2
def Hj(K:aH):R2:=fun x y H Q=>∃a b xs,x=.ref a∧y=.ref b∧bt K H a xs∧H b=some (.lst [])∧Q (.bl (!xs.isEmpty)) H
theorem zK{X:Cx}(hu:X.A.units+64<cLine):cK X (compareOp .NotEq) (Hj X.K):=by
 intro pins s σ H x y v u Q I rx ry h;obtain ⟨a,b,xs,rfl,rfl,h1,h2,q⟩:=h;cases rx;cases ry;obtain ⟨us,r1,t1,_⟩:=I.list h1;obtain ⟨vs,r2,t2,_⟩:=I.list (bt.of h2);have l1:=r1.length;have l2:=r2.length;cases xs with
 | nil=>
  refine SeqAt.RcNeAt.lists (e:=fun _=>true) t1.isList t2.isList (by simp at l1 l2 ⊢;omega) (by omega) (fun j z1 z2=>?_) _ _ _ _ ?_
  ·simp at l1
   have:us=[]:=Bx.mp l1.symm;subst this;simp at z1
  ·rw [all_range]
   exact ⟨.bl false,H,I,rfl,q⟩
 | cons w ws=>
  refine SeqAt.RcNeAt.lists_lengths t1.isList t2.isList ?_ (by omega) _ _ _ _ ⟨.bl true,H,I,rfl,q⟩
  simp at l1 l2 ⊢;omega
variable {σ:St} {H:Hp}
theorem CT{c:TT}{t u:TS}{D:Ends}(M:St→Hp→Prop)(hM:∀σ H,M σ H→D.nx σ H)(k:∀R:St→Hp→Prop,(∀σ H,M σ H→R σ H)→yO c t u {D with nx:=R} σ H):yO c t u D σ H:=k D.nx hM
def PV(K:aH):Sp:=fun vs H Q _=>∃(P a l:Addr) (ns:List Int) (xs:List V),vs=[.ref P,.ref l]∧bO H P a∧bt K (er P H) a (ns.map V.int)∧l≠P∧H l=some (.lst xs)∧xs.length≤100 ∧
 ∀(r:Addr) (ys:List V) (H':Hp),aF P H H'→bO H' P a→er P H r=none→r≠P→H' r=some (.lst ys)→ys.Perm xs→Q (.ref r) H'
def PX(K:aH):Sp:=fun vs H Q _=>∃(P a:Addr) (ns:List Int) (way size wide i j:Int),vs=[.ref P,.int way,.int size,.int wide,.int i,.int j]∧bO H P a∧bt K (er P H) a (ns.map V.int) ∧
 ∀(b:Bool) (H':Hp),aF P H H'→bO H' P a→Q (.bl b) H'
theorem Hk{α:Type}:∀(zs:List α) (k:Nat) (h:k<zs.length),(zs[k]::zs.eraseIdx k).Perm zs
 | _::_,0,_=>.refl _
 | z::zs,k+1,h=>(List.Perm.swap _ _ _).trans ((Hk zs k (by simpa using h)).cons z)
def bU(H:Hp)(vs:List V)(L:aw):Prop:=vs.length=L.length∧∀(k:Nat) (v:V) (p:Int×Int),vs[k]?=some v→L[k]?=some p→∃b,v=.ref b∧H b=some (.tup [.int p.1,.int p.2])
theorem bU.nil(H:Hp):bU H [] []:=⟨rfl,fun k v p h=>by simp at h⟩
variable {H':Hp} {vs:List V} {L:aw}
theorem bU.mono(h:bU H vs L)(s:aj H H'):bU H' vs L:=⟨h.1,fun k v p h1 h2=>by obtain ⟨b,e,g⟩:=h.2 k v p h1 h2;exact ⟨b,e,s _ _ g⟩⟩
variable {r:Addr} {xs:List V}
theorem bU.b8(h:bU H vs L)(e:H r=some (.lst xs))(k:∀b o,b≠r→H b=some o→H' b=some o):bU H' vs L:=⟨h.1,fun i v p h1 h2=>by obtain ⟨b,eb,g⟩:=h.2 i v p h1 h2;refine ⟨b,eb,k b _ (fun z=>?_) g⟩;rw [z,e] at g;cases g⟩
variable {b:Addr} {p:Int×Int}
theorem bU.push(h:bU H vs L)(e:H b=some (.tup [.int p.1,.int p.2])):bU H (vs++[.ref b]) (L++[p]):=⟨by simp [h.1],fun k v q h1 h2=>by
 have hl:=h.1;by_cases z:k<vs.length
 ·rw [gW z] at h1
  rw [gW (by omega)] at h2
  exact h.2 k v q h1 h2
 ·have hk:=(bM.mp h1).1
  rw [dh,kL] at hk;obtain rfl:k=vs.length:=by omega
  rw [gU (ax _),pb] at h1;rw [gU (by omega),show vs.length-L.length=0 by omega] at h2
  cases h1;cases h2;exact ⟨b,rfl,e⟩⟩
structure jG (n:Nat) (L:aw):Prop where
 nd:L.Nodup
 lt:∀p∈L,0≤p.1∧p.1<p.2∧p.2<n
 eV:L.length≤n*n / 2
def lexLt(p q:Int×Int):Prop:=p.1<q.1∨p.1=q.1∧p.2<q.2
variable {M:aw}
theorem PY{p:Array Nat}(P:lK M.length p)(U:oz (fun i=>(M.getD i (0,0)).1*1000+(M.getD i (0,0)).2) p M.length)(nd:M.Nodup)(b:∀q∈M,0≤q.2∧q.2<1000) :
  (p.toList.map fun i=>M.getD i (0,0)).Perm M∧(p.toList.map fun i=>M.getD i (0,0)).Pairwise lexLt:=by
 have pm:p.toList.Perm (List.range M.length):=nN.mp P;have pn:p.toList.Nodup:=pm.nodup_iff.mpr jm;have lt:∀i∈p.toList,i<M.length:=fun i hi=>b7.mp (pm.mem_iff.mp hi);refine ⟨?_,?_⟩
 ·have e:((List.range M.length).map fun i=>M.getD i (0,0))=M:=by
   refine gY (by simp) fun i h1 h2=>?_
   rw [fX,pC,getD_at h2]
  have:=pm.map fun i=>M.getD i (0,0);rw [e] at this;exact this
 ·rw [mh]
  intro i j hi hj w5;rw [aD] at hi hj;rw [fX,fX];have sz:=P.size;have li:p.toList[i]<M.length:=lt _ (cS _);have lj:p.toList[j]<M.length:=lt _ (cS _);have u:=U i j (by omega) (by rw [←sz,←eA];exact hj)
  unfold vN at u;have gi:p.getD i 0=p.toList[i]:=by
   have:i<p.size:=by rw [←eA];exact hi
   simp [Array.getD,this]
  have gj:p.getD j 0=p.toList[j]:=by
   have:j<p.size:=by rw [←eA];exact hj
   simp [Array.getD,this]
  rw [gi,gj] at u;dsimp only at u;rw [getD_at li,getD_at lj] at u;rw [getD_at li,getD_at lj];have ne:M[p.toList[i]]≠M[p.toList[j]]:=fun e=>by have e1:=(yj nd).mp e;have e2:=(yj pn).mp e1;omega
  have b1:=b _ (cS li);have b2:=b _ (cS lj);generalize M[p.toList[i]]=x at u ne b1;generalize M[p.toList[j]]=y at u ne b2;obtain ⟨x1,x2⟩:=x;obtain ⟨y1,y2⟩:=y;unfold lexLt;dsimp only at u b1 b2 ⊢;by_cases z:x1<y1;·exact .inl z
  ·right
   have e1:x1=y1:=by omega
   subst e1;refine ⟨rfl,?_⟩;by_cases y:x2=y2
   ·subst y
    exact absurd rfl ne
   ·omega
theorem zL{α β:Type}{f:α→β}:∀{L:List α},L.Nodup→(∀p q,p∈L→q∈L→f p=f q→p=q)→(L.map f).Nodup
 | [],_,_=>pD
 | x::L,h,k=>by obtain ⟨h1,h2⟩:=jj.mp h;refine jj.mpr ⟨fun m=>?_,zL h2 fun p q hp hq=>k p q (cw _ hp) (cw _ hq)⟩;obtain ⟨y,hy,e⟩:=cx.mp m;have:=k y x (cw _ hy) dy e;rw [this] at hy;exact h1 hy
def iy(nm:Nat→Int)(p:Int×Int):Int×Int:=(min (nm p.1.toNat) (nm p.2.toNat),max (nm p.1.toNat) (nm p.2.toNat))
structure CU (n:Nat) (nm:Nat→Int):Prop where
 lt:∀i,i<n→0≤nm i∧nm i<n
 inj:∀i j,i<n→j<n→nm i=nm j→i=j
variable {n:Nat}
theorem PZ{nm:Nat→Int}(h:jG n L)(N:CU n nm):jG n (L.map (iy nm)) where
 nd:=by
  refine zL h.nd fun p q hp hq e=>?_;have a:=h.lt p hp;have b:=h.lt q hq;obtain ⟨p1,p2⟩:=p;obtain ⟨q1,q2⟩:=q;obtain ⟨i,rfl⟩:=fL (show 0≤p1 by dsimp only at a;omega)
  obtain ⟨j,rfl⟩:=fL (show 0≤p2 by dsimp only at a;omega)
  obtain ⟨k,rfl⟩:=fL (show 0≤q1 by dsimp only at b;omega)
  obtain ⟨l,rfl⟩:=fL (show 0≤q2 by dsimp only at b;omega)
  dsimp only at a b;have e1:=d8 Prod.fst e;have e2:=d8 Prod.snd e;unfold iy at e1 e2;simp only [cZ] at e1 e2;have ij:nm i≠nm j:=fun z=>by have:=N.inj i j (by omega) (by omega) z;omega
  have kl:nm k≠nm l:=fun z=>by have:=N.inj k l (by omega) (by omega) z;omega
  by_cases z:nm i=nm k
  ·have e3:nm j=nm l:=by omega
   have i1:=N.inj i k (by omega) (by omega) z
   have i2:=N.inj j l (by omega) (by omega) e3
   rw [i1,i2]
  ·have e3:nm i=nm l:=by omega
   have e4:nm j=nm k:=by omega
   have i1:=N.inj i l (by omega) (by omega) e3
   have i2:=N.inj j k (by omega) (by omega) e4
   omega
 lt:=fun p hp=>by
  obtain ⟨q,hq,rfl⟩:=cx.mp hp;have a:=h.lt q hq;have n1:=N.lt q.1.toNat (by omega)
  have n2:=N.lt q.2.toNat (by omega)
  have ne:nm q.1.toNat≠nm q.2.toNat:=fun z=>by have:=N.inj _ _ (by omega) (by omega) z;omega
  unfold iy;dsimp only;omega
 eV:=by rw [aD];exact h.eV
theorem jG.perm{L':aw}(h:jG n L)(p:L'.Perm L):jG n L':=⟨p.nodup_iff.mpr h.nd,fun q hq=>h.lt q (p.mem_iff.mp hq),by rw [p.length_eq];exact h.eV⟩
def dO(H:Hp)(t:Addr)(n:Nat)(L:aw):Prop:=∃(lt:Addr) (us:List V),H t=some (.tup [.int (n:Int),.ref lt])∧H lt=some (.tup us)∧bU H us L
def P1:Sp:=fun vs H Q _=>∃(l r:Addr) (n:Nat) (us ws:List V) (L:aw) (nm:Nat→Int),vs=[.int (n:Int),.ref l,.ref r]∧H l=some (.lst us)∧bU H us L∧jG n L∧n≤30∧H r=some (.lst ws)∧ws.length=n∧(∀i,i<n→ws[i]?=some (.int (nm i)))∧CU n nm ∧
 ∀(t:Addr) (L':aw) (H':Hp),aj H H'→H t=none→dO H' t n L'→jG n L'→L'.Pairwise lexLt→L'.Perm (L.map (iy nm))→Q (.ref t) H'
variable {us:List V}
theorem bU.pick(h:bU H us M)(ns:List Nat)(hn:∀i∈ns,i<M.length):bU H (ns.map fun i=>us.getD i .aN) (ns.map fun i=>M.getD i (0,0)):=⟨by simp,fun k v p h1 h2=>by
 have hl:=h.1;have hk:k<ns.length:=by have:=(bM.mp h1).1;simpa using this
 have hi:=hn ns[k] (cS hk);rw [bP,bx hk] at h1 h2;cases h1;cases h2;dsimp only;have aV:ns[k]<us.length:=by omega
 rw [getD_at hi];have e:us.getD ns[k] .aN=us[ns[k]]:=by simp [aV]
 rw [e];exact h.2 ns[k] _ _ (by simp [aV]) (by simp [hi])⟩
variable {wi:TI} {ρ:St→St} {tt:TT} {te:TE} {Q:VK} {P a:Addr}
theorem P2{K:aH}{l:Addr}(hn:xs.length<sizeLine)(nl:l≠P)(el:H l=some (.lst xs))(pc:bO H P a)
  (d6:∀R:It→Hp→Prop,R (mG K l) H→wi σ H R)
  (test:∀(i:Nat) (x:V),xs[i]?=some x→∀(Hc:Hp) (R:Bool→Hp→Prop),aF P H Hc→bO Hc P a→(∀b H3,aF P Hc H3→bO H3 P a→R b H3)→tt (some x::ρ σ) Hc R)
  (elem:∀(x:V) (Hc:Hp) (R:VK),R x Hc→te (some x::ρ σ) Hc R)
  (fin:∀(D:Addr) (ys:List V) (Hc:Hp),D≠P→er P H D=none→aF P H Hc→bO Hc P a→ys.Sublist xs→Hc D=some (.lst ys)→Q (.ref D) Hc):gD wi ρ tt te σ H Q:=by
 refine d6 _ fun D nD=>?_;have nP:=pc.ne nD;have lD:l≠D:=fun e=>by rw [e,nD] at el;cases el
 refine ⟨fun i m ys Hc=>m=xs.length-i∧i≤xs.length∧Hc D=some (.lst ys)∧aF P H Hc∧bO Hc P a∧ys.Sublist (xs.take i),⟨_,rfl,ba _,au,(aF.refl H).but nD,pc.upd nP,by simp⟩,?_⟩
 rintro i m ys Hc ⟨rfl,hi,eD,sH,Hl,sub⟩;refine ⟨eD,?_⟩;have oE:=sH.at nl el;by_cases aU:i<xs.length
 ·refine .inr ⟨⟨xs,xs[i],.of oE,by simp [aU]⟩,fun x H' hy=>?_⟩
  obtain ⟨rfl,hx⟩:=hy;have ex:=hx xs (.of oE);refine test i x ex _ _ sH Hl fun b H3 s3 p3=>?_;have tk:xs.take (i+1)=xs.take i++[x]:=by rw [jo,ex];rfl
  have e3:=s3.at nP eD;cases b with
  | true=>
   rw [ae rfl];refine elem x H3 _ ⟨e3,?_,xs.length-(i+1),by omega,rfl,aU,au,(sH.trans s3).but nD,p3.upd nP,?_⟩
   ·have:=sub.length_le
    rw [me] at this;omega
   ·rw [tk]
    exact sub.append (List.Sublist.refl _)
  | false=>
   rw [aa (by simp)]
   refine ⟨xs.length-(i+1),by omega,rfl,aU,e3,sH.trans s3,p3,?_⟩
   rw [tk];exact sub.trans (List.sublist_append_left _ _)
 ·have e:i=xs.length:=by omega
  subst e;rw [gp] at sub;exact .inl ⟨⟨xs,.of oE,by omega⟩,fin D ys Hc nP (by rw [eR nP];exact nD) sH Hl sub eD⟩
def fT(k:Nat)(d:List Nat):Prop:=d.Pairwise (fun a b=>b<a)∧∀x∈d,x<k
theorem fT.len:∀{d:List Nat} {k:Nat},fT k d→d.length≤k
 | [],_,_=>ba _
 | x::d,k,h=>by obtain ⟨h1,h2⟩:=mj.mp h.1;have:=fT.len (k:=x) ⟨h2,fun y hy=>h1 y hy⟩;have:=h.2 x dy;rw [eB];omega
theorem fT.nil(k:Nat):fT k []:=⟨List.Pairwise.nil,fun x hx=>by cases hx⟩
variable {k:Nat} {d:List Nat}
theorem fT.sub{e:List Nat}(h:fT k d)(s:e.Sublist d):fT k e:=⟨h.1.sublist s,fun x hx=>h.2 x (s.subset hx)⟩
variable {j:Nat}
theorem fT.put(h:fT k d)(hk:k<j):fT j (k::d):=⟨mj.mpr ⟨h.2,h.1⟩,fun x hx=>by
 rcases cf.mp hx with rfl | hx;·exact hk
 ·have:=h.2 x hx
  omega⟩
theorem fT.nd(h:fT k d):d.Nodup:=h.1.imp fun h=>by omega
def fk(d:List Nat):List V:=d.map fun(x:Nat)=>V.int (x:Int)
theorem CV:∀{d:List Nat} {ys:List V},ys.Sublist (fk d)→∃e:List Nat,e.Sublist d∧ys=fk e
 | [],ys,h=>⟨[],List.Sublist.refl _,by have h:ys.Sublist []:=h;rw [List.sublist_nil.mp h];rfl⟩
 | x::d,ys,h=>by
  have h:ys.Sublist (V.int (x:Int)::fk d):=h;cases h with
  | cons _ h=>obtain ⟨e,h1,h2⟩:=CV h;exact ⟨e,h1.cons _,h2⟩
  | cons_cons _ h=>obtain ⟨e,h1,h2⟩:=CV h;exact ⟨x::e,.cons_cons _ h1,by rw [h2];rfl⟩
structure mV (j:Nat) (L:aw):Prop where
 nd:L.Nodup
 lt:∀p∈L,0≤p.1∧p.1<p.2∧p.2<j
 eV:2*L.length≤j*(j-1)
theorem mV.nil:mV 1 []:=⟨pD,(fun p hp=>by cases hp),by simp⟩
theorem mV.ok(h:mV n L):jG n L:=⟨h.nd,h.lt,by
 have:=h.eV;have:n*(n-1)≤n*n:=Nat.mul_le_mul_left _ (by omega)
 omega⟩
theorem mV.more(h:mV j L)(hd:fT j d):mV (j+1) (L++d.map fun(x:Nat)=>((x:Int),(j:Int))) where
 nd:=by
  refine kT.mpr ⟨h.nd,zL hd.nd fun p q _ _ e=>by have:=d8 Prod.fst e;dsimp only at this;omega,fun p hp q hq e=>?_⟩
  obtain ⟨x,_,rfl⟩:=cx.mp hq;have:=h.lt p hp;rw [e] at this;dsimp only at this;omega
 lt:=fun p hp=>by
  rcases dg.mp hp with hp | hp
  ·have:=h.lt p hp
   omega
  ·obtain ⟨x,hx,rfl⟩:=cx.mp hp
   have:=hd.2 x hx;dsimp only;omega
 eV:=by
  have a:=h.eV;have b:=hd.len;rw [dh,aD,yw];cases j with
  | zero=>rw [Nat.zero_mul] at a;rw [Nat.mul_zero];omega
  | succ j=>
   rw [yw] at a;have e:(j+1+1)*(j+1)=(j+1)*j+2*(j+1):=by grind
   rw [e];omega
def P4(K:aH):Sp:=fun vs H Q _=>∃(P a:Addr) (ns:List Int) (n:Nat),vs=[.ref P,.int (n:Int)]∧bO H P a∧bt K (er P H) a (ns.map V.int)∧1≤n∧n≤30 ∧
 ∀(r:Addr) (us:List V) (L:aw) (H':Hp),aF P H H'→bO H' P a→er P H r=none→r≠P→H' r=some (.lst us)→bU (er P H') us L→jG n L→Q (.ref r) H'
def P5(H:Hp)(vs:List V)(j:Nat)(D:Nat→List Nat):Prop:=vs.length=j∧∀k,k<j→fT k (D k)∧∃b,vs[k]?=some (.ref b)∧H b=some (.lst (fk (D k)))
theorem CW{o:HO}:∀b o',b≠r→er P H b=some o'→er P (upd H r o) b=some o':=fun b o' nb e=>by
 by_cases z:b=P
 ·subst z
  unfold er at e;rw [ae rfl] at e;cases e
 ·rw [eR z] at e ⊢
  rw [aP nb];exact e
theorem bU.cat{zs:List V}(h:bU H us L)(g:bU H zs M):bU H (us++zs) (L++M):=⟨by simp [h.1,g.1],fun k v p h1 h2=>by
 have hl:=h.1;by_cases z:k<us.length
 ·rw [gW z] at h1
  rw [gW (by omega)] at h2
  exact h.2 k v p h1 h2
 ·rw [gU (by omega)] at h1
  rw [gU (by omega),show k-L.length=k-us.length by omega] at h2
  exact g.2 _ v p h1 h2⟩
variable {i:Nat}
theorem P6{x:V}(h:(fk d)[i]?=some x):∃y,d[i]?=some y∧x=.int (y:Int):=by
 unfold fk at h;rw [bP] at h;cases e:d[i]? with
 | none=>rw [e] at h;cases h
 | some y=>rw [e] at h;cases h;exact ⟨y,rfl,rfl⟩
theorem xh(p:bO H P a)(e:H b=some (.tup xs)):er P H b=some (.tup xs):=by refine Cq (fun z=>?_) e;obtain ⟨x,y,eP,_⟩:=p;rw [z,eP] at e;cases e
structure gK (j i:Nat) (L:aw):Prop where
 nd:L.Nodup
 lt:∀p∈L,0≤p.1∧p.1<p.2∧(p.2<j∨p.2=j∧p.1<i)
 eV:2*L.length≤j*(j-1)+2*i
theorem gK.start:gK 0 0 []:=⟨pD,(fun p hp=>by cases hp),by simp⟩
theorem gK.skip(h:gK j i L):gK j (i+1) L:=⟨h.nd,fun p hp=>by
 have:=h.lt p hp;omega,by
 have:=h.eV;omega⟩
theorem gK.push(h:gK j i L)(hi:i<j):gK j (i+1) (L++[((i:Int),(j:Int))]) where
 nd:=by
  refine kT.mpr ⟨h.nd,by simp,fun p hp q hq e=>?_⟩
  rw [bY.mp hq] at e;have:=h.lt p hp;rw [e] at this;dsimp only at this;omega
 lt:=fun p hp=>by
  rcases dg.mp hp with hp | hp
  ·have:=h.lt p hp
   omega
  ·rw [bY.mp hp]
   dsimp only;omega
 eV:=by have:=h.eV;rw [dh,kL];omega
theorem gK.next(h:gK j j L):gK (j+1) 0 L:=⟨h.nd,fun p hp=>by
 have:=h.lt p hp;omega,by
 have a:=h.eV;rw [yw];cases j with
 | zero=>omega
 | succ j=>
  rw [yw] at a;have e:(j+1+1)*(j+1)=(j+1)*j+2*(j+1):=by grind
  rw [e];omega⟩
theorem gK.ok(h:gK n 0 L):jG n L:=⟨h.nd,fun p hp=>by
 have:=h.lt p hp;omega,by
 have:=h.eV;have:n*(n-1)≤n*n:=Nat.mul_le_mul_left _ (by omega)
 omega⟩
theorem P7(n:Nat):(bT n).Nodup:=zL jm fun p q _ _ e=>by have:=V.int.inj e;omega
theorem P8{ys:List V}(h:ys.Perm (bT n)):∃nm:Nat→Int,ys.length=n∧(∀i,i<n→ys[i]?=some (.int (nm i)))∧CU n nm:=by
 have ln:ys.length=n:=by rw [h.length_eq];unfold bT;simp
 have nd:ys.Nodup:=h.nodup_iff.mpr (P7 n);have each:∀i,∃x:Int,i<n→ys[i]?=some (.int x)∧0≤x∧x<n:=fun i=>by
  by_cases hi:i<n
  ·have aV:i<ys.length:=by omega
   have m:ys[i]∈bT n:=h.mem_iff.mp (cS aV);obtain ⟨k,hk,e⟩:=cx.mp m;have:=b7.mp hk;exact ⟨(k:Int),fun _=>⟨by rw [e];simp [aV],by omega,by omega⟩⟩
  ·exact ⟨0,fun z=>absurd z hi⟩
 obtain ⟨nm,hn⟩:=Classical.axiomOfChoice each;refine ⟨nm,ln,fun i hi=>(hn i hi).1,fun i hi=>(hn i hi).2,fun i j hi hj e=>?_⟩;have a:=(hn i hi).1;have b:=(hn j hj).1;rw [e] at a;have aV:i<ys.length:=by omega
 have dY:j<ys.length:=by omega
 rw [bx aV] at a;rw [bx dY] at b;exact (yj nd).mp ((Option.some.inj a).trans (Option.some.inj b).symm)
def P9(K:aH):Sp:=fun vs H Q _=>∃(P a:Addr) (ns:List Int) (most:Nat),vs=[.ref P,.int (most:Int)]∧bO H P a∧bt K (er P H) a (ns.map V.int)∧1≤most∧most≤30 ∧
 ∀(t:Addr) (n:Nat) (L:aw) (H':Hp),aF P H H'→bO H' P a→er P H t=none→t≠P→dO (er P H') t n L→jG n L→L.Pairwise lexLt→1≤n→n≤most→Q (.ref t) H'
theorem bU.er(h:bU H us L)(p:bO H P a):bU (er P H) us L:=⟨h.1,fun k v q h1 h2=>by obtain ⟨b,e,g⟩:=h.2 k v q h1 h2;exact ⟨b,e,xh p g⟩⟩
theorem dO.er{t:Addr}(h:dO H t n L)(p:bO H P a):dO (er P H) t n L:=by obtain ⟨lt,us,h1,h2,h3⟩:=h;exact ⟨lt,us,xh p h1,xh p h2,h3.er p⟩
theorem dO.mono{t:Addr}(h:dO H t n L)(s:aj H H'):dO H' t n L:=by obtain ⟨lt,us,h1,h2,h3⟩:=h;exact ⟨lt,us,s _ _ h1,s _ _ h2,h3.mono s⟩
theorem P_(pr:Nat→Bool)(d6:∀R:It→Hp→Prop,(∀J,j8 J xs H→R J H)→wi σ H R)(hn:xs.length<sizeLine)
  (P:Addr→Nat→V→Hp→Prop) (mono:∀D i y H H' ys,P D i y H→H D=some (.lst ys)→(∀b o,b≠D→H b=some o→H' b=some o)→P D i y H')
  (test:∀(i:Nat) (x:V),xs[i]?=some x→∀(Hc:Hp) (R:Bool→Hp→Prop),aj H Hc→R (pr i) Hc→tt (some x::ρ σ) Hc R)
  (step:∀D (i:Nat) (x:V),xs[i]?=some x→∀(Hc:Hp) (R:VK),aj H Hc→(∃ys,Hc D=some (.lst ys))→(∀y H3,aj Hc H3→P D i y H3→R y H3)→te (some x::ρ σ) Hc R)
  (fin:∀D ys Hc,H D=none→aj H Hc→ys.length=((List.range xs.length).filter pr).length→(∀(k i:Nat) (y:V),ys[k]?=some y→((List.range xs.length).filter pr)[k]?=some i→P D i y Hc)→Hc D=some (.lst ys)→Q (.ref D) Hc):gD wi ρ tt te σ H Q:=by
 refine d6 _ fun J js=>?_;intro D nD;refine ⟨fun i m ys Hc=>m=xs.length-i∧i≤xs.length∧Hc D=some (.lst ys)∧aj H Hc∧ys.length=((List.range i).filter pr).length∧∀(k i':Nat) (y:V),ys[k]?=some y→((List.range i).filter pr)[k]?=some i'→P D i' y Hc,⟨_,rfl,ba _,au,d7 (aj.refl H) nD,rfl,fun k i y h=>by simp at h⟩,?_⟩
 rintro i m ys Hc ⟨rfl,hi,eD,sH,ly,hP⟩;refine ⟨eD,?_⟩;by_cases aU:i<xs.length
 ·refine .inr ⟨js.go i Hc sH aU,fun x H' hy=>?_⟩
  obtain ⟨rfl,hx⟩:=js.dW i Hc x H' sH hy;refine test i x (hx aU) _ _ sH ?_;have fs:(List.range (i+1)).filter pr=(List.range i).filter pr++(if pr i=true then [i] else []):=by
   rw [List.range_succ,pE]
   congr 1
   cases e:pr i <;> simp [e]
  have fl:((List.range i).filter pr).length≤i:=a9 (mq _ _) (by simp)
  cases e:pr i with
  | true=>
   rw [ae rfl];refine step D i x (hx aU) _ _ sH ⟨_,eD⟩ fun y H3 s3 hp=>?_;have e3:=s3 _ _ eD;have b8:∀b o,b≠D→H3 b=some o→upd H3 D (.lst (ys++[y])) b=some o:=fun b o nb e=>by rw [aP nb];exact e
   refine ⟨e3,by omega,xs.length-(i+1),by omega,rfl,aU,au,d7 (sH.trans s3) nD,?_,fun k i' y' h1 h2=>?_⟩
   ·rw [fs,e,ae rfl,dh,dh,ly]
    rfl
   ·rw [fs,e,ae rfl] at h2
    by_cases z:k<ys.length
    ·rw [gW z] at h1
     rw [gW (by omega)] at h2
     refine mono D i' y' H' _ ys (hP k i' y' h1 h2) eD fun b o nb e=>b8 b o nb (s3 _ _ e)
    ·have hk:=(bM.mp h1).1
     rw [dh,kL] at hk;obtain rfl:k=ys.length:=by omega
     rw [gU (ax _),pb] at h1;rw [gU (by omega),show ys.length-((List.range i).filter pr).length=0 by omega] at h2
     cases h1;cases h2;exact mono D _ _ H3 _ ys hp e3 b8
  | false=>
   rw [aa (by simp)]
   refine ⟨xs.length-(i+1),by omega,rfl,aU,eD,sH,?_,fun k i' y' h1 h2=>?_⟩
   ·rw [fs,e,aa (by simp),o8]
    exact ly
   ·rw [fs,e,aa (by simp),o8] at h2
    exact hP k i' y' h1 h2
 ·have e:i=xs.length:=by omega
  subst e;exact .inl ⟨js.stop _ Hc sH (ax _),fin D ys Hc nD sH ly hP eD⟩
def CY(n:Nat)(f:Nat→Nat→Bool)(i:Nat):List (Int×Int):=((List.range (n-(i+1))).filter fun k=>f i (i+1+k)).map fun k=>((i:Int),((i+1+k:Nat):Int))
def xi(n:Nat)(f:Nat→Nat→Bool):Nat→List (Int×Int)
 | 0=>[]
 | i+1=>xi n f i++CY n f i
variable {f:Nat→Nat→Bool}
theorem Hm(h:p∈CY n f i):∃j,i<j∧j<n∧f i j=true∧p=((i:Int),(j:Int)):=by obtain ⟨k,hk,rfl⟩:=cx.mp h;obtain ⟨h1,h2⟩:=cu.mp hk;have:=b7.mp h1;exact ⟨i+1+k,by omega,by omega,h2,rfl⟩
theorem Qa(h1:i<j)(h2:j<n)(h3:f i j=true):((i:Int),(j:Int))∈CY n f i:=by
 refine cx.mpr ⟨j-(i+1),cu.mpr ⟨b7.mpr (by omega),?_⟩,?_⟩
 ·show f i (i+1+(j-(i+1)))=true
  rw [show i+1+(j-(i+1))=j by omega]
  exact h3
 ·rw [show i+1+(j-(i+1))=j by omega]
theorem mem_of{n:Nat}{f:Nat→Nat→Bool}{p:Int×Int}:∀{k:Nat},p∈xi n f k→∃i j,i<k∧i<j∧j<n∧f i j=true∧p=((i:Int),(j:Int))
 | 0,h=>by cases h
 | k+1,h=>by
  rcases dg.mp h with h | h
  ·obtain ⟨i,j,h1,h2⟩:=mem_of h
   exact ⟨i,j,by omega,h2⟩
  ·obtain ⟨j,h1⟩:=Hm h
   exact ⟨k,j,by omega,h1⟩
theorem Ho{n:Nat}{f:Nat→Nat→Bool}{i j:Nat}(h1:i<j)(h2:j<n)(h3:f i j=true):∀{k:Nat},i<k→((i:Int),(j:Int))∈xi n f k
 | k+1,h=>by
  by_cases z:i=k
  ·subst z
   exact dI _ (Qa h1 h2 h3)
  ·exact sG _ (Ho h1 h2 h3 (by omega))
theorem Hq{n:Nat}{f:Nat→Nat→Bool}:∀k,(xi n f k).Pairwise lexLt
 | 0=>List.Pairwise.nil
 | k+1=>by
  refine vP.mpr ⟨Hq k,?_,fun p hp q hq=>?_⟩
  ·refine pF.mpr ((yy.sublist List.filter_sublist).imp fun h=>?_)
   right;dsimp only;omega
  ·obtain ⟨i,j,h1,_,_,_,rfl⟩:=mem_of hp
   obtain ⟨j',_,_,_,rfl⟩:=Hm hq;left;dsimp only;omega
end My
namespace L2
open PySem PySem.Spec PyProof.Rows
end L2
namespace My
open PySem L2
end My
namespace L2
open PySem PySem.Spec PyProof.Rows
section
variable (P:Program) (w:World)
end
section
variable {P:Program} {w:World} {H H':Hp} {h h':Heap} {a:Addr} {o:HO}
end
section
variable {P:Program} {w:World} {H:Hp} {h h':Heap} {x e:Addr} {o':HO}
end
section
variable {fs BE ex vW:List Addr} {H H1 H2:Hp} {h h1 h2 h':Heap} {a x e:Addr} {o:HO}
end
section
variable {X:Cx} {pins:aQ} {σ:List (Option V)} {H H':Hp} {s:Shared} {h':Heap}
end
section
variable {X:Cx}
variable {a b:Expr} {ta tb:TE} {pos:Pos}
variable {tA vY:TT} {rest:List Expr}
end
section
variable {X:Cx} {pins:aQ} {σ:St} {H:Hp} {s:Shared} {a:Addr} {xs ys:List V}
end
section
variable {X:Cx} {pins:aQ} {σ:St} {H:Hp} {s:Shared} {E:aK}
end
section
variable {X:Cx} {st:Stmt} {rest:List Stmt} {t u:TS} {e:Expr} {te:TE} {pos:Pos}
end
section
variable {X:Cx} {pos:Pos}
end
section
variable {X:Cx} {pos:Pos}
end
section
variable {X:Cx} {tg:Expr}
end
section
variable {X:Cx} {a b c:Expr} {ta tb tc:TE} {pos:Pos}
end
section
variable {X:Cx} {a b c:Expr} {ta tb tc:TE} {pos:Pos}
end
section
variable {prog:Program} {w:World} {A:Around} {E:aK} {s:Shared} {K:aH} {x dx C f:Addr} {mA:du} {name:Str} {v:Value}
end
section
variable {P:Program} {w:World} {H H':Hp} {h h':Heap} {a C dx:Addr} {fs BE:List (Str×V)}
end
section
variable {X:Cx} {pins:aQ} {σ:St} {H:Hp} {s:Shared} {a C dx:Addr} {fs:List (Str×V)} {f:Str} {v:V} {A:Around} {E:aK}
end
section
variable {X:Cx} {o e value:Expr} {f:Str} {pos pos' yW:Pos} {ta tv:TE}
end
section
variable {X:Cx} {pins:aQ} {σ:St} {H:Hp} {s:Shared} {A:Around} {E:aK} {Q:aK} {c:Value} {b:Bool}
end
section
variable {X:Cx} {e:Expr} {es:List Expr} {te:TE} {t:TA} {pos:Pos}
end
section
variable {X:Cx} {pins:aQ} {σ:St} {H:Hp} {s s':Shared}
end
section
variable {X:Cx} {CX:g8} {k:Nat} {f C:Addr} {fd:FuncData} {ps:List Str} {sp:Sp} {lp:List V} {ds:List Value} {E:XK} {x m:Str} {p pos apos:Pos} {e o:Expr} {es:List Expr} {ta:TE} {t:TA}
end
section
variable {X:Cx} {CX:g8} {k:Nat} {f C:Addr} {fd:FuncData} {ps ks:List Str} {sp:Sp} {E:XK} {x m:Str} {p pos apos FX:Pos} {e o:Expr} {es:List Expr} {M3:List Keyword} {te ta:TE} {t tk:TA} {nm:Option Str}
variable {g:List Value→List Value→List Value} {gV:List V→List V→List V}
end
section
variable {X:Cx} {x:Str} {p pos:Pos} {e:Expr} {es:List Expr} {t:TA} {id T:String} {r:List V→Hp→VK→Prop}
end
section
variable {κ:Type} [DecidableEq κ]
def eW(kvs:List (κ×V))(k:κ):Option V:=(kvs.find? fun kv=>decide (kv.1=k)).map (·.2)
def putK(kvs:List (κ×V))(k:κ)(v:V):List (κ×V):=
 if (kvs.any fun kv=>decide (kv.1=k))=true then kvs.map (fun kv=>if kv.1=k then (kv.1,v) else kv) else kvs++[(k,v)]
variable {p:κ×V} {r:List (κ×V)} {k:κ}
theorem xj(e:p.1=k):eW (p::r) k=some p.2:=by simp [eW,sU,e]
theorem xk(e:¬p.1=k):eW (p::r) k=eW r k:=by simp [eW,sU,e]
theorem Hr(k:κ):∀kvs:List (κ×V),(kvs.any fun kv=>decide (kv.1=k))=(eW kvs k).isSome
 | []=>rfl
 | p::r=>by
  rw [o9];by_cases e:p.1=k;·simp only [xj e,bQ e,Bool.true_or,Option.isSome_some]
  ·rw [xk e,bW e,Bool.false_or];exact Hr k r
theorem CZ(kvs:List (κ×V))(k:κ)(v:V):(putK kvs k v).length≤kvs.length+1:=by
 unfold putK
 split
 ·rw [aD];omega
 ·rw [dh,eB,vJ];omega
theorem jW.xl{o:Option V}{u:Option Value}(r:jW o u):o.isSome=u.isSome:=by
 cases o with
 | none=>cases u with
  | none=>rfl
  | some _=>exact (show False from r).elim
 | some _=>cases u with
  | none=>exact (show False from r).elim
  | some _=>rfl
variable {kvs:List (κ×V)} {vs:List (κ×Value)}
theorem KV.val(r:KV kvs vs)(k:κ):jW (eW kvs k) (valueAt vs k):=by
 unfold KV at r
 induction r with
 | nil=>exact True.intro
 | @cons p q ps qs h t ih=>
  obtain ⟨h1,h2⟩:=h;by_cases e:p.1=k
  ·have e':q.1=k:=h1.symm.trans e
   have b:valueAt (q::qs) k=some q.2:=by simp [valueAt,sU,e']
   rw [xj e,b];exact h2
  ·have e':¬q.1=k:=fun z=>e (h1.trans z)
   have b:valueAt (q::qs) k=valueAt qs k:=by simp [valueAt,sU,e']
   rw [xk e,b];exact ih
theorem KV.any(r:KV kvs vs)(k:κ):(kvs.any fun kv=>decide (kv.1=k))=vs.any fun kv=>decide (kv.1=k):=by
 unfold KV at r
 induction r with
 | nil=>rfl
 | cons h t ih=>rw [o9,o9,ih,h.1]
variable {y:V} {u:Value}
theorem KV.C0(r:KV kvs vs)(k:κ)(ry:RelV y u) :
  KV (kvs.map fun kv=>if kv.1=k then (kv.1,y) else kv) (vs.map fun kv=>if kv.1=k then (kv.1,u) else kv):=by
 unfold KV at r ⊢
 induction r with
 | nil=>exact .nil
 | @cons p q ps qs h t ih=>
  rw [di,di];refine .cons ?_ ih;obtain ⟨h1,h2⟩:=h;by_cases e:p.1=k;·rw [ae e,ae (h1.symm.trans e)];exact ⟨h1,ry⟩
  ·rw [aa e,aa (fun z=>e (h1.trans z))];exact ⟨h1,h2⟩
theorem KV.put(r:KV kvs vs)(k:κ)(ry:RelV y u):KV (putK kvs k y) (stored vs k u):=by
 unfold putK stored;rw [r.any k];by_cases e:(vs.any fun kv=>decide (kv.1=k))=true;·rw [ae e,ae e];exact r.C0 k ry
 ·rw [aa e,aa e];exact Paired.snoc r ⟨rfl,ry⟩
theorem KV.length(r:KV kvs vs):kvs.length=vs.length:=Paired.length r
end
variable {P:Program} {w:World} {u:Value}
theorem tZ{k:Key}(r:RelV (kV k) u):(gq P w).is k u=true:=by
 cases k with
 | inl i=>obtain ⟨t,e⟩:=(show ∃t,u=Value.int i t from r);subst e;exact LU P w i t
 | inr x=>obtain ⟨t,e⟩:=(show ∃t,u=Value.str x t from r);subst e;exact LV P w x t
theorem Hs{P:Program}{w:World}:∀{ks:List Key} {us:List Value},Vals (ks.map kV) us→ItemsAre (gq P w) ks us
 | [],_,r=>by rw [sI] at r;cases r;exact .nil
 | k::ks,_,r=>by
  rw [di] at r;cases r with
  | cons h t=>exact .cons (tZ h) (Hs t)
abbrev KT (H:Hp):List (List Key×V)→List (List Key×Addr×Value)→Prop:=Paired fun p q=>p.1=q.1∧H q.2.1=some (.tup (p.1.map kV))∧RelV p.2 q.2.2
variable {H:Hp} {kvs:List (List Key×V)} {xs:List (List Key×Addr×Value)}
theorem KT.val(r:KT H kvs xs)(k:List Key):jW (eW kvs k) ((atKey xs k).map (·.2)):=by
 induction r with
 | nil=>exact True.intro
 | @cons p q ps qs h t ih=>
  obtain ⟨h1,_,h2⟩:=h;by_cases e:p.1=k
  ·have e':q.1=k:=h1.symm.trans e
   have b:atKey (q::qs) k=some q.2:=by simp [atKey,sU,e']
   rw [xj e,b];exact h2
  ·have e':¬q.1=k:=fun z=>e (h1.trans z)
   have b:atKey (q::qs) k=atKey qs k:=by simp [atKey,sU,e']
   rw [xk e,b];exact ih
variable {y:V}
theorem KT.C0(r:KT H kvs xs)(k:List Key)(ry:RelV y u) :
  KT H (kvs.map fun kv=>if kv.1=k then (kv.1,y) else kv) (xs.map (putAt k u)):=by
 induction r with
 | nil=>exact .nil
 | @cons p q ps qs h t ih=>
  rw [di,di];refine .cons ?_ ih;obtain ⟨h1,h2,h3⟩:=h;unfold putAt;by_cases e:p.1=k;·rw [ae e,ae (h1.symm.trans e)];exact ⟨h1,h2,ry⟩
  ·rw [aa e,aa (fun z=>e (h1.trans z))];exact ⟨h1,h2,h3⟩
variable {b:Addr}
theorem KT.put(r:KT H kvs xs)(k:List Key)(hb:H b=some (.tup (k.map kV)))(ry:RelV y u) :
  KT H (putK kvs k y) (storedH xs k b u):=by
 have e:(kvs.any fun kv=>decide (kv.1=k))=(atKey xs k).isSome:=by rw [Hr,(r.val k).xl,Option.isSome_map]
 unfold putK storedH;rw [e];by_cases q:(atKey xs k).isSome=true;·rw [ae q,ae q];exact r.C0 k ry
 ·rw [aa q,aa q];exact Paired.snoc r ⟨rfl,hb,ry⟩
theorem KT.keeps{H':Hp}(r:KT H kvs xs)(ht:∀b ys,H b=some (.tup ys)→H' b=some (.tup ys)):KT H' kvs xs:=
 Paired.BD r fun _ _ z=>⟨z.1,ht _ _ z.2.1,z.2.2⟩
section
variable {P:Program} {w:World} {H:Hp} {h:Heap} {a:Addr}
theorem Ht{u:HO}(ok:cj P w H h)(e:Rd H a u):cg P w H h a u:=e.ok ok
theorem xm{kvs:List (Key×V)}(ok:cj P w H h)(e:Rd H a (.dK kvs)):kvs.length≤sizeLine∧(a == sysModules)=false∧∃vs,KV kvs vs∧h.DictOf (gq P w) a vs:=
 show cg P w H h a (.dK kvs) from Ht ok e
theorem Hu{kvs:List (Key×V)}(ok:cj P w H h)(e:H a=some (.dK kvs)):kvs.length≤sizeLine∧(a == sysModules)=false∧∃vs,KV kvs vs∧h.DictOf (gq P w) a vs:=xm ok (.inl e)
theorem xo{ks:List Key}(ok:cj P w H h)(e:H a=some (.tup (ks.map kV))):(tupleKind (gq P w)).is h ks a:=by obtain ⟨_,ak,r,o,h1,h2,n,h3⟩:=(show cg P w H h a (.tup (ks.map kV)) from ok a _ e);exact ⟨o,ak.toArray,n,h1,h2,h3,by simpa using Hs r⟩
theorem xp(ok:cj P w H h)(e:Rd H a (.dT kvs)):kvs.length≤sizeLine∧(a == sysModules)=false ∧
  ∃xs,KT H kvs xs∧h.DictOfH (tupleKind (gq P w)) a xs:=by
 obtain ⟨z,y,xs,r,o,es,ep,h1,h2,h3,h4,h5⟩:=(show cg P w H h a (.dT kvs) from Ht ok e);refine ⟨z,y,xs,r,o,es,ep,h1,h2,h3,h4,fun x hx=>?_,h5⟩;have all:∀{l:List (List Key×V)} {m:List (List Key×Addr×Value)},KT H l m→∀x∈m,(tupleKind (gq P w)).is h x.1 x.2.1:=by
  intro l m q
  induction q with
  | nil=>intro x hx;exact nomatch hx
  | @cons p q ps qs hq t ih=>
   intro x hx;rcases cf.mp hx with e | hx
   ·subst e
    exact xo ok (by rw [←hq.1];exact hq.2.1)
   ·exact ih x hx
 exact all r x hx
theorem HA(ok:cj P w H h)(e:H a=some (.dT kvs)):kvs.length≤sizeLine∧(a == sysModules)=false ∧
  ∃xs,KT H kvs xs∧h.DictOfH (tupleKind (gq P w)) a xs:=xp ok (.inl e)
end
def gM(H:Hp)(a:Addr)(y:V)(r:Option V):Prop:=
 (∃kvs k,Rd H a (.dK kvs)∧y=kV k∧r=eW kvs k)∨∃kvs k b,Rd H a (.dT kvs)∧y=.ref b∧H b=some (.tup (k.map kV))∧r=eW kvs k
def qz(H:Hp)(a:Addr)(y v:V)(H':Hp):Prop:=
 (∃kvs k,H a=some (.dK kvs)∧y=kV k∧kvs.length<sizeLine∧H'=upd H a (.dK (putK kvs k v))) ∨
 ∃kvs k b,H a=some (.dT kvs)∧y=.ref b∧H b=some (.tup (k.map kV))∧kvs.length<sizeLine∧H'=upd H a (.dT (putK kvs k v))
variable {a:Addr} {k:List Key}
theorem gM.t(e:H a=some (.dT kvs))(eb:H b=some (.tup (k.map kV))):gM H a (.ref b) (eW kvs k):=.inr ⟨kvs,k,b,.inl e,rfl,eb,rfl⟩
theorem qz.t{v:V}(e:H a=some (.dT kvs))(eb:H b=some (.tup (k.map kV)))(hl:kvs.length<sizeLine) :
  qz H a (.ref b) v (upd H a (.dT (putK kvs k v))):=.inr ⟨kvs,k,b,e,rfl,eb,hl,rfl⟩
section
variable {X:Cx} {pins:aQ} {σ:St} {H:Hp} {s:Shared} {a:Addr} {y v:V} {u r:Value} {o:Option V} {A:Around} {E:aK}
theorem Inv.big(I:Inv X pins σ H s):sysModules<s.heap.objs.size:=by have h:mainGlobals<s.heap.objs.size:=(I.mod.glob.keeps I.bk).lt;exact Nat.lt_trans (by decide) h
variable {Q:aK}
theorem Qb(hu:A.units+1<cLine)(I:Inv X pins σ H s)(g:gM H a y (some v))(ry:RelV y u)(h:∀w' s',Inv X pins σ H s'→RelV v w'→Q w' s') :
  wpAny (model X.prog X.w) A (getItem (.ref a) u) Q E s:=by
 rcases g with ⟨kvs,k,e,ey,l⟩ | ⟨kvs,k,b,e,ey,eb,l⟩
 ·subst ey
  obtain ⟨z,hd,vs,rel,dd⟩:=xm I.ay e;obtain ⟨w',hw,i5⟩:=jW.some_of (v:=v) (o:=valueAt vs k) (by rw [l];exact rel.val k)
  exact wpAny_getItem_of (tZ ry) dd.mapOf hw (h w' _ (I.tok _) i5)
 ·subst ey
  cases (show u=Value.ref b from ry);obtain ⟨z,hd,xs,rel,dd⟩:=xp I.ay e;obtain ⟨w',hw,i5⟩:=jW.some_of (v:=v) (o:=(atKey xs k).map (·.2)) (by rw [l];exact rel.val k)
  obtain ⟨p,hp,Qc⟩:=Option.map_eq_some_iff.mp hw;refine wpAny_getItem_heap (yA hu) (xo I.ay eb) dd hp ?_;rw [Qc];exact h w' _ (I.tok _) i5
theorem Qd(hu:A.units+1<cLine)(I:Inv X pins σ H s)(g:gM H a y o)(ry:RelV y u)(h:∀s',Inv X pins σ H s'→Q (.bool o.isSome) s') :
  wpAny (model X.prog X.w) A (compareOp .In u (.ref a)) Q E s:=by
 rcases g with ⟨kvs,k,e,ey,l⟩ | ⟨kvs,k,b,e,ey,eb,l⟩
 ·subst ey
  obtain ⟨z,hd,vs,rel,dd⟩:=xm I.ay e;refine wpAny_in_of (tZ ry) hd dd.mapOf ?_;rw [←(rel.val k).xl,←l];exact h _ (I.tok _)
 ·subst ey
  cases (show u=Value.ref b from ry);obtain ⟨z,hd,xs,rel,dd⟩:=xp I.ay e;refine wpAny_in_heap (yA hu) (xo I.ay eb) hd dd ?_;have q:=(rel.val k).xl;rw [Option.isSome_map] at q;rw [←q,←l];exact h _ (I.tok _)
theorem Qe(hu:A.units+1<cLine)(I:Inv X pins σ H s)(g:gM H a y o)(ry:RelV y u)(h:∀s',Inv X pins σ H s'→Q (.bool (!o.isSome)) s') :
  wpAny (model X.prog X.w) A (compareOp .NotIn u (.ref a)) Q E s:=by
 rcases g with ⟨kvs,k,e,ey,l⟩ | ⟨kvs,k,b,e,ey,eb,l⟩
 ·subst ey
  obtain ⟨z,hd,vs,rel,dd⟩:=xm I.ay e;refine wpAny_notIn_of (tZ ry) hd dd.mapOf ?_;rw [←(rel.val k).xl,←l];exact h _ (I.tok _)
 ·subst ey
  cases (show u=Value.ref b from ry);obtain ⟨z,hd,xs,rel,dd⟩:=xp I.ay e;refine wpAny_notIn_heap (yA hu) (xo I.ay eb) hd dd ?_;have q:=(rel.val k).xl;rw [Option.isSome_map] at q;rw [←q,←l];exact h _ (I.tok _)
variable {h':Heap}
theorem C1{t':Nat}{ob:HO}(I:Inv X pins σ H s)(mu:vV (H a))(hs:Heap.SameBut a s.heap h')(he:∃q,h'.get? a=some q)(new:cg X.prog X.w (upd H a ob) h' a ob) :
  Inv X pins σ (upd H a ob) {s with heap:=h',toks:=t'}:=
 I.write (x:=a) (e:=a) mu (.inl rfl) (fun b q hb z=>(hs.2 b hb).trans z) he new
variable {H':Hp}
theorem HB{kvs:List (Key×V)}{vs:List (Key×Value)}(z:kvs.length≤sizeLine)(hd:(a == sysModules)=false)(rel:KV kvs vs)(dd:h'.DictOf (gq P w) a vs) :
  cg P w H' h' a (.dK kvs):=⟨z,hd,vs,rel,dd⟩
theorem Qf{Q:Unit→Shared→Prop}(hu:A.units+1<cLine)(I:Inv X pins σ H s)(g:qz H a y v H')(ry:RelV y u)(rv:RelV v r)(h:∀s',Inv X pins σ H' s'→Q () s') :
  wpAny (model X.prog X.w) A (setItem (.ref a) u r) Q E s:=by
 rcases g with ⟨kvs,k,e,ey,l,eH⟩ | ⟨kvs,k,b,e,ey,eb,l,eH⟩
 ·subst ey eH
  obtain ⟨z,hd,vs,rel,dd⟩:=Hu I.ay e;have hz:vs.length≤sizeLine:=by rw [←rel.length];exact z
  have hl:(putK kvs k v).length≤sizeLine:=by have:=CZ kvs k v;omega
  refine wpAny_setItem_pairs (hsz:=hz) (tZ ry) dd fun h' ot hs=>h _ ?_;have he:∃q,h'.get? a=some q:=let ⟨q,_,_,hq,_⟩:=ot;⟨q,hq⟩
  exact C1 I (by rw [e];exact True.intro) hs he (HB hl hd (rel.put k rv) ot)
 ·subst ey eH
  cases (show u=Value.ref b from ry);obtain ⟨z,hd,xs,rel,dd⟩:=HA I.ay e;have hz:xs.length≤sizeLine:=by rw [←Paired.length rel];exact z
  have hl:(putK kvs k v).length≤sizeLine:=by have:=CZ kvs k v;omega
  refine wpAny_setItem_heap (hsz:=hz) (yA hu) (xo I.ay eb) dd fun h' ot hs=>h _ ?_;obtain ⟨q,es,ep,hq,h2,h3,h4,_,h5⟩:=ot;refine C1 I (by rw [e];exact True.intro) hs ⟨q,hq⟩ ⟨hl,hd,_,(rel.put k eb rv).keeps fun c ys ec=>?_,q,es,ep,hq,h2,h3,h4,h5⟩
  rw [aP (LW ec e (fun z=>nomatch z))];exact ec
end
section
variable {X:Cx} {pins:aQ} {σ:St} {H:Hp} {s:Shared} {a:Addr} {kvs:List (Key×V)} {k:Key} {u:Value} {A:Around} {E:aK}
end
def HC(i:Expr):Prop:=∀ov iv,subscripted i false ov iv=operate [ov,iv] (getItem ov iv)
variable {s:Shared} {pos:Pos}
theorem Qg{prog:Program}{A:Around}{E:aK}{env:Env}{value slice:Expr}{T id:String}{Q:aK}
  (hl:typeLookup (.type T) "__getitem__"=pure (some (.builtin id))) (hs:HC slice)
  (h:wpAny (model prog w) A (eval value env) (fun o s₁=>wpAny (model prog w) A (eval slice env) (fun i s₂=>s₂.TypeIs o T∧wpAny (model prog w) A (getItem o i) Q E s₂) E s₁) E s) :
  wpAny (model prog w) A (eval (.Subscript value slice pos) env) Q E s:=by
 refine Subscript_ (bC h (fun o s₁ h₁=>bC h₁ (fun i s₂ h₂=>?_) fun _ _ x=>x) fun _ _ x=>x);obtain ⟨hT,h₂⟩:=h₂;unfold subscriptTail;refine aC ?_;rw [getitemInPython_of_ne hT.not_modules];refine aC (wpAny_specialOf hT hl ?_);have fin:wpAny (model prog w) A (subscripted slice false o i) (fun r s₃=>wpAny (model prog w) A (letTemporaryGo value o r >>= fun _=>pure r) Q E s₃) E s₂:=by rw [hs o i];exact wpAny_operating (bC h₂ (fun r s₃ h₃=>aC (wpAny_letTemporaryGo (bE h₃))) fun _ _ x=>x)
 first
  | exact bE (aC fin)
  | exact aC (bE (aC fin))
  | exact aC fin
variable {X:Cx}
theorem Qh{pins:aQ}{σ:St}{o:Option V}(I:Inv X pins σ H s)(g:gM H a y o):s.TypeIs (.ref a) "dict":=by
 rcases g with ⟨kvs,k,e,_,_⟩ | ⟨kvs,k,b,e,_,_,_⟩
 ·obtain ⟨_,_,vs,_,dd⟩:=xm I.ay e
  exact dd.typeIs
 ·obtain ⟨_,_,xs,_,dd⟩:=xp I.ay e
  exact dd.typeIs
def Qi(td ty:TE):TE:=fun σ H Q=>td σ H fun x H1=>ty σ H1 fun y H2=>∃a v,x=.ref a∧gM H2 a y (some v)∧Q v H2
def Qj(ty td:TE):TE:=fun σ H Q=>ty σ H fun y H1=>td σ H1 fun x H2=>∃a o,x=.ref a∧gM H2 a y o∧Q (.bl o.isSome) H2
def Qk(ty td:TE):TE:=fun σ H Q=>ty σ H fun y H1=>td σ H1 fun x H2=>∃a o,x=.ref a∧gM H2 a y o∧Q (.bl (!o.isSome)) H2
def Ql(td ty tv:TE):TS:=fun D σ H=>tv σ H fun v H1=>td σ H1 fun x H2=>ty σ H2 fun y H3=>∃a H4,x=.ref a∧qz H3 a y v H4∧D.nx σ H4
section
variable {X:Cx} {o i e value:Expr} {pos pos' yW:Pos} {td ty tv:TE}
theorem t5(hu:X.A.units+1<cLine)(ho:PE X o td)(hi:PE X i ty)(hs:HC i):PE X (.Subscript o i pos) (Qi td ty):=by intro pins s σ H Q I h;refine Qg PySem.F.slot_dict_getitem.lookup hs (aM (ho pins s σ H _ I h) fun u s1 ⟨x,H1,I1,rx,q1⟩=>aM (hi pins s1 σ H1 _ I1 q1) fun iv s2 ⟨y,H2,I2,ry,a,v,ex,g,q2⟩=>?_);subst ex;obtain rfl:u=Value.ref a:=rx;exact ⟨Qh I2 g,Qb hu I2 g ry fun w' s3 I3 i5=>⟨v,H2,I3,i5,q2⟩⟩
theorem HD(hu:X.A.units+1<cLine)(hi:PE X i ty)(ho:PE X o td):PC X .In i o (Qj ty td):=by intro pins s σ H Q I h;refine aM (hi pins s σ H _ I h) fun iv s1 ⟨y,H1,I1,ry,q1⟩=>aM (ho pins s1 σ H1 _ I1 q1) fun u s2 ⟨x,H2,I2,rx,a,ov,ex,g,q2⟩=>?_;subst ex;obtain rfl:u=Value.ref a:=rx;exact Qd hu I2 g ry fun s3 I3=>⟨.bl ov.isSome,H2,I3,rfl,q2⟩
theorem HE(hu:X.A.units+1<cLine)(hi:PE X i ty)(ho:PE X o td):PC X .NotIn i o (Qk ty td):=by intro pins s σ H Q I h;refine aM (hi pins s σ H _ I h) fun iv s1 ⟨y,H1,I1,ry,q1⟩=>aM (ho pins s1 σ H1 _ I1 q1) fun u s2 ⟨x,H2,I2,rx,a,ov,ex,g,q2⟩=>?_;subst ex;obtain rfl:u=Value.ref a:=rx;exact Qe hu I2 g ry fun s3 I3=>⟨.bl (!ov.isSome),H2,I3,rfl,q2⟩
theorem qA(hu:X.A.units+1<cLine)(ho:PE X o td)(hi:PE X i ty)(hv:PE X value tv)(hs:swapsWith value (some (.Subscript o i pos')) pos.line X.env=pure false) :
  PS X (.Assign [.Subscript o i pos'] value pos) (Ql td ty tv):=by
 intro pins s σ H D I h;refine wpAny_Assign_Subscript (aM (hv pins s σ H _ I h) fun r s1 ⟨v,H1,I1,rv,q1⟩=>aM (ho pins s1 σ H1 _ I1 q1) fun u s2 ⟨x,H2,I2,rx,q2⟩=>aM (hi pins s2 σ H2 _ I2 q2) fun iv s3 ⟨y,H3,I3,ry,a,H4,ex,g,q3⟩=>?_) hs;subst ex;obtain rfl:u=Value.ref a:=rx;exact Qf hu I3 g ry rv fun s4 I4=>⟨σ,H4,I4,q3⟩
end
theorem HF(h:Heap)(hb:sysModules<h.objs.size):cg P w H (h.push {cls:=.type "dict",data:=.dict #[]}) h.objs.size (.dK []):=
 ⟨ba _,sF.mpr (Ne.symm (bL hb)),[],.nil,Heap.DictOf.new h⟩
theorem Qm(h:Heap)(hb:sysModules<h.objs.size):cg P w H (h.push {cls:=.type "dict",data:=.dict #[]}) h.objs.size (.dT []):=
 ⟨ba _,sF.mpr (Ne.symm (bL hb)),[],.nil,_,#[],0,dH _ rfl,⟨rfl,rfl,rfl⟩,rfl,rfl,pD⟩
def Qn:TE:=fun _ H Q=>∀p,H p=none→Q (.ref p) (upd H p (.dK []))
def Qo:TE:=fun _ H Q=>∀p,H p=none→Q (.ref p) (upd H p (.dT []))
section
variable {X:Cx} {pos:Pos}
theorem Qp:PE X (.Dict [] [] pos) Qn:=fun pins s σ H Q I h=>wpAny_Dict_empty ⟨.ref s.heap.objs.size,_,I.laid (a:=s.heap.objs.size) (o:=.dK []) (t':=s.toks) (fun _ _ q=>bX _ q) (ax _) (HF s.heap I.big),rfl,h _ (I.ay.fresh (ax _))⟩
theorem Qq:PE X (.Dict [] [] pos) Qo:=fun pins s σ H Q I h=>wpAny_Dict_empty ⟨.ref s.heap.objs.size,_,I.laid (a:=s.heap.objs.size) (o:=.dT []) (t':=s.toks) (fun _ _ q=>bX _ q) (ax _) (Qm s.heap I.big),rfl,h _ (I.ay.fresh (ax _))⟩
end
def C2:List (TE×TE)→St→Hp→(List (V×V)→Hp→Prop)→Prop
 | [],_,H,Q=>Q [] H
 | (tk,tv)::r,σ,H,Q=>tk σ H fun x H1=>tv σ H1 fun y H2=>C2 r σ H2 fun ps H3=>Q ((x,y)::ps) H3
abbrev VV:List (V×V)→List (Value×Value)→Prop:=Paired fun p q=>RelV p.1 q.1∧RelV p.2 q.2
def zM(X:Cx)(pos:Pos)(keys:List (Option Expr))(values:List Expr)(mW:List (TE×TE)):Prop:=
 ∀(pins:aQ) (s:Shared) (σ:St) (H:Hp) (Q:List (V×V)→Hp→Prop),Inv X pins σ H s→C2 mW σ H Q→
  wpAny (model X.prog X.w) X.A (evalPairs (pairTrees keys values X.env pos)) (fun vs s'=>∃ps H',Inv X pins σ H' s'∧VV ps vs∧Q ps H') X.xe s
theorem HG:zM X pos [] [] []:=fun pins s σ H Q I h=>pairTrees_nil_walk ⟨[],H,I,.nil,h⟩
variable {mW:List (TE×TE)}
theorem HH{k v:Expr}{ks:List (Option Expr)}{vs:List Expr}{tk tv:TE}(hk:PE X k tk)(hv:PE X v tv)(hr:zM X pos ks vs mW) :
  zM X pos (some k::ks) (v::vs) ((tk,tv)::mW):=fun pins s σ H Q I h=>
 pairTrees_cons_walk (aM (hk pins s σ H _ I h) fun u s1 ⟨x,H1,I1,rx,q1⟩=>aM (hv pins s1 σ H1 _ I1 q1) fun w2 s2 ⟨y,H2,I2,ry,q2⟩=>aM (hr pins s2 σ H2 _ I2 q2) fun ws s3 ⟨ps,H3,I3,rel,q3⟩=>⟨(x,y)::ps,H3,I3,.cons ⟨rx,ry⟩ rel,q3⟩)
def kj(kvs more:List (Key×V)):List (Key×V):=more.foldl (fun acc kv=>putK acc kv.1 kv.2) kvs
theorem KV.merge:∀{more:List (Key×V)} {rs:List (Key×Value)} {kvs:List (Key×V)} {vs:List (Key×Value)},KV more rs→KV kvs vs→KV (kj kvs more) (merged vs rs):=by
 intro more rs kvs vs r;unfold KV at r
 induction r generalizing kvs vs with
 | nil=>intro q;exact q
 | @cons p q ps qs h t ih=>
  intro r0;have e:KV (putK kvs p.1 p.2) (stored vs q.1 q.2):=by have:=r0.put p.1 h.2;rw [←h.1];exact this
  exact ih e
theorem HI:∀(more kvs:List (Key×V)),(kj kvs more).length≤kvs.length+more.length
 | [],kvs=>by show kvs.length≤kvs.length+0;omega
 | p::r,kvs=>by have h1:=HI r (putK kvs p.1 p.2);have h2:=CZ kvs p.1 p.2;show (kj (putK kvs p.1 p.2) r).length≤_;rw [eB];omega
theorem HJ{P:Program}{w:World}:∀{kvs:List (Key×V)} {ws:List (Value×Value)},VV (kvs.map fun kv=>(kV kv.1,kv.2)) ws→∃rs,Carries (gq P w) ws rs∧KV kvs rs
 | [],_,r=>by rw [sI] at r;cases r;exact ⟨[],True.intro,.nil⟩
 | p::kvs,_,r=>by
  rw [di] at r;cases r with
  | @cons a b as bs h t=>obtain ⟨rs,c,q⟩:=HJ (P:=P) (w:=w) t;obtain ⟨b1,b2⟩:=b;exact ⟨(p.1,b2)::rs,⟨tZ h.1,rfl,c⟩,.cons ⟨rfl,h.2⟩ q⟩
def Qr(mW:List (TE×TE)):TE:=fun σ H Q=>∀p,H p=none→C2 mW σ (upd H p (.dK [])) fun ps H2=>H2 p=some (.dK [])∧∃kvs:List (Key×V),ps=kvs.map (fun kv=>(kV kv.1,kv.2))∧kvs.length≤15∧Q (.ref p) (upd H2 p (.dK (kj [] kvs)))
theorem HK{keys:List (Option Expr)}{values:List Expr}(h:zM X pos keys values mW)(wu:keys.all (·.isSome)=true)(hl:keys.length=values.length)(h0:keys≠[])
  (Qs:keys.length≤15):PE X (.Dict keys values pos) (Qr mW):=by
 intro pins s σ H Q I q;have hn:=I.ay.fresh (ax s.heap.objs.size);have I1:=I.laid (a:=s.heap.objs.size) (o:=.dK []) (h':=s.heap.push {cls:=.type "dict",data:=.dict #[]}) (t':=s.toks) (fun _ _ q=>bX _ q) (ax _) (HF s.heap I.big);refine wpAny_Dict_walk (knd:=gq X.prog X.w) wu hl h0 Qs (aM (h pins _ σ _ _ I1 (q _ hn)) fun ws s2 ⟨ps,H2,I2,rel,e,kvs,ep,lk,q2⟩=>?_);subst ep;obtain ⟨rs,c,rk⟩:=HJ (P:=X.prog) (w:=X.w) rel;obtain ⟨z,hd,Zk,r0,dd⟩:=Hu I2.ay e;cases r0;refine ⟨rs,c,dd,fun h' ot hs=>⟨.ref s.heap.objs.size,_,?_,rfl,q2⟩⟩;have hz:(kj [] kvs).length≤sizeLine:=by have h1:=HI kvs [];rw [vJ] at h1;rw [iD];omega
 have he:∃q,h'.get? s.heap.objs.size=some q:=let ⟨q,_,_,hq,_⟩:=ot;⟨q,hq⟩
 exact C1 I2 (by rw [e];exact True.intro) hs he (HB hz hd (rk.merge .nil) ot)
section
variable {X:Cx} {pins:aQ} {σ:St} {H:Hp} {s:Shared} {a:Addr} {y d:V} {u r:Value} {o:Option V} {A:Around} {E:aK}
end
section
variable {X:Cx} {o e f:Expr} {apos g_:Pos} {td ty tx:TE}
end
section
variable {X:Cx} {pins:aQ} {σ:St} {H:Hp} {s:Shared} {a:Addr} {kvs:List (Key×V)} {A:Around} {E:aK}
end
section
variable {X:Cx} {pins:aQ} {σ:St} {H:Hp} {s:Shared} {a:Addr} {y:V} {u:Value} {A:Around} {E:aK}
end
end L2
namespace y9
open PySem PySem.W PySem.Calls PyProof.Rows
section
variable {prog:Program} {w:World} {A:Around} {E:aK} {s:Shared} {K:Frag}
end
end y9
namespace L2
open PySem PySem.Spec PyProof.Rows
section
variable {P:Program} {w:World} {K:aH} {mg:du} {base:Heap}
end
section
variable {X:Cx}
end
section
variable {κ:Type} [DecidableEq κ]
end
def C3(o:Obj):Nat:=match o.data with
 | .dict _ ep=>ep
 | _=>0
def i_(a:Addr)(o:Obj)(kvs:List (Key×V)):It:=
 ⟨fun i H=>H a=some (.bH o (.dK kvs))∧i<kvs.length,fun i H x H'=>H'=H∧∃kv,kvs[i]?=some kv∧x=kV kv.1,fun i H=>H a=some (.bH o (.dK kvs))∧kvs.length≤i⟩
theorem Qt{k:Key}{v:Value}(h:pK k v=true):RelV (kV k) v:=by
 rcases kW h with ⟨i,t,rfl,rfl⟩ | ⟨x,t,rfl,rfl⟩;·exact ⟨t,rfl⟩
 ·exact ⟨t,rfl⟩
theorem HL{kvs:List (Key×V)}{vs:List (Key×Value)}:∀{i:Nat} {kv:Key×V},KV kvs vs→kvs[i]?=some kv→∃v,vs[i]?=some (kv.1,v)
 | _,_,.nil,h=>by simp at h
 | 0,kv,.cons (b:=b) r _,h=>by simp at h;subst h;obtain ⟨k,v⟩:=b;have e:_=k:=r.1;exact ⟨v,by rw [e];rfl⟩
 | i+1,kv,.cons _ t,h=>by simp at h;obtain ⟨v,e⟩:=HL t h;exact ⟨v,by simpa using e⟩
section
variable {X:Cx} {pins:aQ} {σ:St} {H:Hp} {s:Shared}
theorem Inv.C4{a:Addr}{o:Obj}{kvs:List (Key×V)}(I:Inv X pins σ H s)(h:H a=some (.bH o (.dK kvs))):∃vs,KV kvs vs∧s.heap.DictAt (gq X.prog X.w) a vs (C3 o):=by obtain ⟨g,_,_,vs,r,o',es,ep,g',c,d,rest⟩:=(show cg X.prog X.w H s.heap a (.bH o (.dK kvs)) from I.ay a _ h);rw [g] at g';cases g';refine ⟨vs,r,o,es,g,c,?_,rest⟩;rw [d];unfold C3;rw [d]
end
theorem Qu{P:Program}{w:World}{K:aH}{tg:Expr}(a it:Addr)(o:Obj)(kvs:List (Key×V)):Turn P w K tg (i_ a o kvs) [it] it (fun i h=>h.IsKeyIter it a i kvs.length (C3 o)) where
 mem:=by simp
 obj:=fun i h st b hb=>by
  have e:b=it:=by simpa using hb
  subst e;obtain ⟨o,e,c,d⟩:=st;exact ⟨o,e,fun v z=>by rw [d] at z;cases z⟩
 keep:=fun i h h' st k=>by obtain ⟨o,e,c,d⟩:=st;exact ⟨o,k it (by simp) o e,c,d⟩
 item:=by
  intro X hP hw hK hc i pins s σ H E I hf st hg;subst hP hw hK;obtain ⟨eH,hi⟩:=hg;obtain ⟨vs,r,hm⟩:=I.C4 eH;have lr:kvs.length=vs.length:=Paired.length r;have ek:kvs[i]?=some kvs[i]:=by simp [hi]
  obtain ⟨v,ev⟩:=HL r ek;obtain ⟨f0,f1,f2,f3,f4,f5⟩:=hf it (by simp)
  rw [lr] at st;refine wpAny_pyNext_dict_item st hm ev fun key h' hk av sb=>?_;have I1:Inv X pins σ H {s with heap:=h'}:=I.turned (t':=s.toks) (fun b o hb e=>(sb.2 b hb).trans e) f0 f1 f3 f4 f5;obtain ⟨o',e,c,d⟩:=id av;rw [←lr] at av;exact ⟨key,rfl,yQ (s:={s with heap:=h'}) e c d (by decide) ⟨kV kvs[i].1,H,I1,Qt hk,⟨rfl,_,ek,rfl⟩,av,fun b hb=>(hf b hb).1⟩⟩
 done:=by
  intro X hP hw hK hc i pins s σ H E I hf st hg;subst hP hw hK;obtain ⟨eH,hi⟩:=hg;obtain ⟨vs,r,hm⟩:=I.C4 eH;have lr:kvs.length=vs.length:=Paired.length r;obtain ⟨f0,f1,f2,f3,f4,f5⟩:=hf it (by simp)
  rw [lr] at st;exact wpAny_pyNext_dict_end (I.ok.hd hc) st hm (by simp;omega) fun h' eb=>⟨rfl,I.turned (t':=s.toks) (fun b o hb e=>eb b o hb e) f0 f1 f3 f4 f5⟩
 self:=fun _ _ _ _ _ st h=>wpAny_pyIter_keyiter st h
section
variable {X:Cx} {tg:Expr}
def HM(tl:TE):TI:=fun σ H R=>tl σ H fun x H1=>∃a kvs,x=.ref a∧((H1 a=some (.dK kvs)∧∀o,R (i_ a o kvs) (upd H1 a (.bH o (.dK kvs))))∨∃o,H1 a=some (.bH o (.dK kvs))∧R (i_ a o kvs) H1)
theorem C5{l:Expr}{tl:TE}(hl:PE X l tl):PI X tg l (HM tl):=by
 intro pins s σ H R I h;refine aM (hl pins s σ H _ I h) fun v s1 ⟨x,H1,I1,r1,q1⟩=>?_;obtain ⟨a,kvs,e,q⟩:=q1;subst e;cases r1;have main:∀{H2:Hp} {o:Obj},Inv X pins σ H2 s1→H2 a=some (.bH o (.dK kvs))→R (i_ a o kvs) H2→wpAny (model X.prog X.w) X.A (pyIter (.ref a)) (BN X pins σ tg R) X.xe s1:=fun{H2 o} I2 eH q=>by
  obtain ⟨vs,r,hm⟩:=I2.C4 eH;obtain ⟨_,_,sys,_⟩:=(show cg X.prog X.w H2 s1.heap a (.bH o (.dK kvs)) from I2.ay a _ eH);have lr:kvs.length=vs.length:=Paired.length r;refine wpAny_pyIter_dict sys hm ?_;refine ⟨s1.heap.objs.size,[s1.heap.objs.size],_,_,H2,rfl,I2.kept (t':=s1.toks) fun b o e=>bX _ e,Qu a _ o kvs,⟨_,dH _ rfl,rfl,by rw [lr];rfl⟩,fun b hb=>?_,q⟩
  have e:b=s1.heap.objs.size:=by simpa using hb
  subst e;exact I2.wa (ax _) (I2.ay.fresh (ax _))
 rcases q with ⟨eH,q⟩ | ⟨o,eH,q⟩
 ·obtain ⟨hz,sys,vs,r,o,es,ep,g,c,d,rest⟩:=(show cg X.prog X.w H1 s1.heap a (.dK kvs) from I1.ay a _ eH)
  refine main (H2:=upd H1 a (.bH o (.dK kvs))) ?_ au (q o);exact I1.write (t':=s1.toks) (x:=a) (e:=a) (by rw [eH];exact trivial) (.inl rfl) (fun b u _ e=>e) ⟨o,g⟩ ⟨g,hz,sys,vs,r,o,es,ep,g,c,d,rest⟩
 ·exact main I1 eH q
end
theorem C6:∀{us:List Value} {ns:List Int},IntsAre us ns→Vals (ns.map V.int) us
 | _,_,.nil=>.nil
 | _,_,.cons a u r=>.cons ⟨u,rfl⟩ (C6 r)
def Qv:List V→Hp→VK→Prop:=fun xs H Q=>∃(a:Addr) (zs:List Int),xs=[.ref a]∧H a=some (.lst (zs.map V.int))∧zs.length<64∧∀(ws:List Int) (D:Addr),ws.Perm zs→ws.Pairwise (·≤·)→H D=none→Q (.ref D) (upd H D (.lst (ws.map V.int)))
theorem C7{X:Cx}:e_ X (.builtin "sorted") Qv:=by
 intro pins s σ H xs us Q I r h;obtain ⟨a,zs,rfl,ha,xg,k⟩:=h;obtain ⟨u,rfl,ru⟩:=vals1 r;cases ru;obtain ⟨ak,rv,pl,hz⟩:=I.list (.of ha);have hl:=rv.length;rw [aD] at hl;refine sorted_ints pl.isList (intsAre_of rv) (by omega) fun out jx a1 a2 a3=>?_
 obtain ⟨e,he⟩:=sortedAll_at s.heap ak out;refine ⟨.ref (s.heap.objs.size+1),_,I.laid (t':=s.toks) (o:=.lst (jx.map .int)) (fun _ _=>sortedAll_old) (iE _) ⟨?_,out.toList,e,C6 a1,?_⟩,rfl,k jx _ a2 a3 (I.ay.fresh (iE _))⟩
 ·rw [aD,a2.length_eq]
  rw [iD];omega
 ·simpa using he
end L2
namespace My
open PySem L2
def dk(ks:List Nat):List (Key×V):=ks.map fun k:Nat=>((Sum.inl (k:Int):Key),V.bl true)
def b5(ks:List Nat)(k:Nat):List Nat:=if k∈ks then ks else ks++[k]
theorem HN{a b:Nat}:((Sum.inl (a:Int):Key)=Sum.inl (b:Int))↔a=b:=by
 constructor
 ·intro h
  have:=Sum.inl.inj h;omega
 ·rintro rfl;rfl
theorem xq(ks:List Nat):(dk ks).length=ks.length:=aD _
theorem Qw(ks:List Nat)(k:Nat):((dk ks).any fun kv=>decide (kv.1=(Sum.inl (k:Int):Key)))=decide (k∈ks):=by
 rw [nF,yB,eY];constructor
 ·rintro ⟨kv,h1,h2⟩
  obtain ⟨j,hj,rfl⟩:=cx.mp h1;have:=HN.mp (fz h2);subst this;exact hj
 ·intro h
  exact ⟨_,cx.mpr ⟨k,h,rfl⟩,bQ rfl⟩
theorem C8(ks:List Nat)(k:Nat):putK (dk ks) (Sum.inl (k:Int):Key) (V.bl true)=dk (b5 ks k):=by
 unfold putK b5;rw [Qw];by_cases h:k∈ks
 ·rw [ae (bQ h),ae h]
  unfold dk;rw [cm];refine iF fun j _=>?_;show (if _ then _ else _)=_
  split <;> rfl
 ·rw [aa (by rw [eY];exact h),aa h]
  unfold dk;rw [eN];rfl
theorem C9(ks:List Nat)(k:Nat):eW (dk ks) (Sum.inl (k:Int):Key)=if k∈ks then some (V.bl true) else none:=by
 induction ks with
 | nil=>simp [dk,eW]
 | cons j r ih=>
  by_cases h:j=k
  ·subst h
   rw [ae (dy ..)];exact xj rfl
  ·show eW ((Sum.inl (j:Int),V.bl true)::dk r) _=_
   rw [xk (fun e=>h (HN.mp e)),ih];by_cases m:k∈r;·rw [ae m,ae (cw _ m)]
   ·rw [aa m,aa (fun x=>by rcases cf.mp x with e | e;exact h e.symm;exact m e)]
variable {ks:List Nat} {k j:Nat}
theorem gN:j∈b5 ks k↔j∈ks∨j=k:=by
 unfold b5;by_cases h:k∈ks
 ·rw [ae h]
  constructor;·exact .inl
  ·rintro (e | rfl)
   ·exact e
   ·exact h
 ·rw [aa h,dg,bY]
theorem Qx(h:ks.Nodup):(b5 ks k).Nodup:=by
 unfold b5;by_cases m:k∈ks;·rw [ae m];exact h
 ·rw [aa m]
  refine kT.mpr ⟨h,(by simp),fun a ha b hb=>?_⟩
  rw [bY] at hb;subst hb;rintro rfl;exact m ha
def ja(n:Nat)(ks:List Nat):Prop:=ks.Nodup∧∀k∈ks,k<n
theorem ja.nil(n:Nat):ja n []:=⟨pD,fun _ h=>by cases h⟩
variable {n:Nat}
theorem ja.add(h:ja n ks)(hk:k<n):ja n (b5 ks k):=⟨Qx h.1,fun j hj=>by
 rcases gN.mp hj with e | rfl;·exact h.2 j e
 ·exact hk⟩
theorem C_:∀{n:Nat} {ks:List Nat},ks.Nodup→(∀k∈ks,k<n)→ks.length≤n
 | 0,ks,_,h=>by
  cases ks with
  | nil=>exact ax _
  | cons a r=>exact absurd (h a (dy ..)) (sP _)
 | n+1,ks,nd,h=>by
  have e:=C_ (n:=n) (ks:=ks.erase n) (nd.erase n) (fun k hk=>by have m:=(List.Nodup.mem_erase_iff nd).mp hk;have:=h k m.2;have:=m.1;omega)
  by_cases hm:n∈ks
  ·have:=List.length_erase_of_mem hm
   omega
  ·rw [List.erase_of_not_mem hm] at e
   omega
theorem ja.len(h:ja n ks):ks.length≤n:=C_ h.1 h.2
structure dE (H:Hp) (D:Addr) (n:Nat) (ds:Nat→Addr) (un:Nat→Prop) (f:Nat→List Nat):Prop where
 lst:H D=some (.lst ((List.range n).map fun i=>V.ref (ds i)))
 inj:∀i j,i<n→j<n→ds i=ds j→i=j
 ne:∀i,i<n→ds i≠D
 at':∀i,i<n→un i→H (ds i)=some (.dK (dk (f i)))
 pl:∀i,i<n→ja n (f i)
def d5(f:Nat→List Nat)(i:Nat)(ks:List Nat):Nat→List Nat:=fun j=>if j=i then ks else f j
variable {H:Hp} {D:Addr} {ds:Nat→Addr} {f:Nat→List Nat} {i:Nat}
theorem dE.put{un:Nat→Prop}(h:dE H D n ds un f)(hi:i<n)(hj:j<n)(ui:un i)(hn:n≤1000) :
  qz H (ds i) (.int (j:Int)) (.bl true) (upd H (ds i) (.dK (dk (b5 (f i) j))))∧dE (upd H (ds i) (.dK (dk (b5 (f i) j)))) D n ds un (d5 f i (b5 (f i) j)):=by
 refine ⟨.inl ⟨dk (f i),Sum.inl (j:Int),h.at' i hi ui,rfl,?_,by rw [C8]⟩,?_,h.inj,h.ne,fun k hk uk=>?_,fun k hk=>?_⟩
 ·rw [xq]
  have:=(h.pl i hi).len;exact gX this (gX hn (by rw [iD];decide))
 ·rw [aP (Ne.symm (h.ne i hi))]
  exact h.lst
 ·unfold d5
  by_cases e:k=i
  ·subst e
   rw [ae rfl,au]
  ·rw [aa e,aP (fun z=>e (h.inj k i hk hi z))]
   exact h.at' k hk uk
 ·unfold d5
  by_cases e:k=i;·rw [ae e];exact (h.pl i hi).add hj
  ·rw [aa e];exact h.pl k hk
theorem dE.ix{un:Nat→Prop}(h:dE H D n ds un f)(hi:i<n):gz ((List.range n).map fun i=>V.ref (ds i)) (i:Int)=some (V.ref (ds i)):=
 oq (by rw [bP,o_ hi];rfl)
def eX(n:Nat)(L:aw):Prop:=∀p∈L,0≤p.1∧p.1<(n:Int)∧0≤p.2∧p.2<(n:Int)
def dP(n:Nat)(L:aw)(f:Nat→List Nat):Prop:=∀i j:Nat,i<n→(j∈f i↔((i:Int),(j:Int))∈L∨((j:Int),(i:Int))∈L)
theorem dP.nil(n:Nat):dP n [] (fun _=>[]):=fun i j _=>by simp
theorem dP.more{L:aw}(h:dP n L f)(hi:i<n)(hj:j<n):dP n (L++[((i:Int),(j:Int))]) (d5 (d5 f i (b5 (f i) j)) j (b5 (d5 f i (b5 (f i) j) j) i)):=fun a b ha=>by
 have e1:∀x y:Nat,y∈d5 f i (b5 (f i) j) x↔y∈f x∨(x=i∧y=j):=fun x y=>by
  unfold d5;by_cases e:x=i
  ·subst e
   rw [ae rfl,gN];simp
  ·rw [aa e]
   simp [e]
 have e2:b∈d5 (d5 f i (b5 (f i) j)) j (b5 (d5 f i (b5 (f i) j) j) i) a↔b∈d5 f i (b5 (f i) j) a∨(a=j∧b=i):=by
  unfold d5;by_cases e:a=j
  ·subst e
   rw [ae rfl,gN];simp
  ·rw [aa e]
   simp [e]
 rw [e2,e1,h a b ha];simp only [dg,bY,Prod.mk.injEq];constructor
 ·rintro ((e | e) | ⟨rfl,rfl⟩)
  ·rcases e with e | e
   ·exact .inl (.inl e)
   ·exact .inr (.inl e)
  ·exact .inl (.inr ⟨by omega,by omega⟩)
  ·exact .inr (.inr ⟨rfl,rfl⟩)
 ·rintro ((e | ⟨e1,e2⟩) | (e | ⟨e1,e2⟩))
  ·exact .inl (.inl (.inl e))
  ·exact .inl (.inr ⟨by omega,by omega⟩)
  ·exact .inl (.inl (.inr e))
  ·exact .inr ⟨by omega,by omega⟩
def Qy:Sp:=fun vs H Q _=>∃(t:Addr) (n:Nat) (L:aw),vs=[.ref t]∧dO H t n L∧eX n L∧n≤1000 ∧
 ∀(H':Hp) (D:Addr) (ds:Nat→Addr) (f:Nat→List Nat),aj H H'→H D=none→(∀i,i<n→H (ds i)=none)→dE H' D n ds (fun _=>True) f→dP n L f→Q (.ref D) H'
end My
namespace L2
open PySem PySem.Spec PyProof.Rows
def Qz(K:aH):R2:=fun x y H Q=>∃(a b:Addr) (xs ys:List Int),x=.ref a∧y=.ref b∧bt K H a (xs.map V.int)∧bt K H b (ys.map V.int)∧Q (.bl (decide (xs=ys))) H
theorem Dg{X:Cx}(hu:X.A.units+64<cLine):cK X (compareOp .Eq) (Qz X.K):=by
 intro pins s σ H x y v u Q I rx ry h;obtain ⟨a,b,xs,ys,rfl,rfl,h1,h2,q⟩:=h;cases rx;cases ry;obtain ⟨us,r1,t1,_⟩:=I.list h1;obtain ⟨vs,r2,t2,_⟩:=I.list h2;have l1:=r1.length;have l2:=r2.length;rw [aD] at l1 l2;by_cases hl:xs.length=ys.length
 ·refine SeqAt.RcAt.lists (e:=fun j=>i6 (.int (xs.getD j 0)) (.int (ys.getD j 0))) t1.isList t2.isList (by simp;omega) (by omega) (fun j z1 z2=>?_) _ _ _ _ ?_
  ·have wU:j<us.length:=by simpa using z1
   have Pb:j<vs.length:=by simpa using z2
   have ex:(xs.map V.int)[j]?=some (.int (xs.getD j 0)):=by rw [bP,dB];simp [show j<xs.length by omega]
   have ey:(ys.map V.int)[j]?=some (.int (ys.getD j 0)):=by rw [bP,dB];simp [show j<ys.length by omega]
   obtain ⟨x',vW,rx⟩:=r1.get ex;obtain ⟨y',Cs,ry⟩:=r2.get ey;have e1:us.toArray[j]=x':=by simpa using (bM.mp vW).2
   have e2:vs.toArray[j]=y':=by simpa using (bM.mp Cs).2
   rw [e1,e2];exact B1 rx ry rfl rfl
  ·rw [show us.toArray.size=xs.length by simp;omega,GS hl]
   exact ⟨.bl (decide (xs=ys)),H,I,rfl,q⟩
 ·rw [bW (fun e=>hl (by rw [e]))] at q
  refine SeqAt.RcAt.lists_lengths t1.isList t2.isList ?_ (by omega) _ _ _ _ ⟨.bl false,H,I,rfl,q⟩
  simp;omega
end L2
namespace My
open PySem L2
def iN(k:Nat):Int:=(k:Int)
def lR(zs:List Int)(n:Nat):Prop:=zs.Perm ((List.range n).map iN)
instance (zs:List Int) (n:Nat):Decidable (lR zs n):=by unfold lR;exact inferInstance
theorem QA(n:Nat):((List.range n).map iN).Pairwise (·≤·):=by rw [pF];exact List.Pairwise.imp (fun h=>by unfold iN;omega) yy
variable {ws zs:List Int} {n:Nat}
theorem HP(p:ws.Perm zs)(o:ws.Pairwise (·≤·)):decide (ws=(List.range n).map iN)=decide (lR zs n):=by
 by_cases h:lR zs n
 ·rw [bQ h]
  refine bQ ?_;exact (p.trans h).eq_of_pairwise (fun a b _ _ h1 h2=>by omega) o (QA n)
 ·rw [bW h]
  refine bW fun e=>h ?_;subst e;exact p.symm
def QB:Sp:=fun vs H Q _=>∃(a:Addr) (zs:List Int) (n:Nat),vs=[.ref a,.int (n:Int)]∧H a=some (.lst (zs.map V.int))∧zs.length<64∧n≤1000∧(∀H',aj H H'→Q (.bl (decide (lR zs n))) H')
def QC(N:Addr):Sp:=fun vs H Q E=>∃(a:Addr) (zs:List Int) (n:Nat),vs=[.ref a,.int (n:Int)]∧H a=some (.lst (zs.map V.int))∧zs.length<64∧n≤1000 ∧
 (¬lR zs n→∀H',aj H H'→E (.ref N) none H')∧(lR zs n→∀H',aj H H'→Q .aN H')
def QD(H:Hp)(a:Addr)(n:Nat)(o:List Nat):Prop:=H a=some (.lst (o.map fun k:Nat=>V.int (k:Int)))∧o.Perm (List.range n)
def QE:Sp:=fun vs H Q _=>∃(a:Addr) (n:Nat) (o:List Nat),vs=[.ref a]∧QD H a n o∧n≤1000 ∧
 ∀(r:Addr) (H':Hp),aj H H'→H r=none→H' r=some (.lst ((List.range n).map fun p=>V.int (o.idxOf p:Int)))→Q (.ref r) H'
variable {H H1:Hp} {D:Addr}
theorem QF(s:aj H H1)(e:H1 D=none):H D=none:=by
 cases z:H D with
 | none=>rfl
 | some o=>rw [s _ _ z] at e;cases e
theorem zN(s:aj H H1){o:HO}(e:H1 D=none):aj H (upd H1 D o):=d7 s (QF s e)
variable {k:Nat}
theorem HQ(h:k<n):jZ n (k:Int)=some k:=by unfold jZ;rw [ae (by omega),ae (by omega),cZ]
def jH(o:List Nat)(k p:Nat):Int:=if o.idxOf p<k then (o.idxOf p:Int) else 0
variable {o:List Nat}
theorem oF(h:o.Perm (List.range n)):o.Nodup:=h.nodup_iff.mpr jm
theorem lT(h:o.Perm (List.range n)):o.length=n:=by rw [h.length_eq,dt]
variable {p:Nat}
theorem fm(h:o.Perm (List.range n)):p∈o↔p<n:=by rw [h.mem_iff,b7]
theorem xr(nd:o.Nodup)(hk:k<o.length):o.idxOf o[k]=k:=nd.idxOf_getElem k hk
theorem oG(h:p∈o):∃hk:o.idxOf p<o.length,o[o.idxOf p]=p:=⟨mr h,yC _⟩
theorem QG(h:o.Perm (List.range n))(hk:k<o.length):((List.range n).map fun p=>V.int (jH o k p)).set o[k] (.int (k:Int))=(List.range n).map fun p=>V.int (jH o (k+1) p):=by
 have nd:=oF h;refine gY (by simp) fun q h1 h2=>?_
 have hq:q<n:=by simpa using h2
 rw [List.getElem_set];by_cases e:o[k]=q
 ·rw [ae e]
  simp only [fX,pC];unfold jH;rw [←e,xr nd hk,ae (Nat.lt_succ_self k)]
 ·rw [aa e]
  simp only [fX,pC];unfold jH;have ne:o.idxOf q≠k:=fun z=>by obtain ⟨hz,ez⟩:=oG ((fm h).mpr hq);subst z;exact e ez
  by_cases z:o.idxOf q<k;·rw [ae z,ae (by omega)]
  ·rw [aa z,aa (by omega)]
theorem QH(n:Nat)(o:List Nat):(List.replicate n [V.int 0]).flatten=(List.range n).map fun p=>V.int (jH o 0 p):=by
 have e:∀n:Nat,(List.replicate n [V.int 0]).flatten=List.replicate n (V.int 0):=fun n=>by
  induction n with
  | zero=>rfl
  | succ n ih=>rw [sJ,vL,ih];rfl
 rw [e];refine gY (by simp) fun q h1 h2=>?_
 simp [jH]
theorem QI(h:o.Perm (List.range n)):(List.range n).map (fun p=>V.int (jH o o.length p))=(List.range n).map fun p=>V.int (o.idxOf p:Int):=by refine iF fun p hp=>?_;unfold jH;rw [ae (mr ((fm h).mpr (b7.mp hp)))]
def oH(n:Nat)(ds:Nat→Addr)(un:Nat→Prop)(H H':Hp):Prop:=∀b o,H b=some o→(∀i,i<n→un i→b≠ds i)→H' b=some o
variable {ds:Nat→Addr}
theorem oH.refl{un:Nat→Prop}:oH n ds un H H:=fun _ _ h _=>h
variable {i:Nat}
theorem oH.put{un:Nat→Prop}(h:oH n ds un H H1)(hi:i<n)(ui:un i){o:HO}:oH n ds un H (upd H1 (ds i) o):=fun b u e k=>by rw [aP (k i hi ui)];exact h b u e k
theorem take_snoc{α:Type}{xs:List α}{x:α}(h:xs[i]?=some x):xs.take (i+1)=xs.take i++[x]:=by rw [jo,h];rfl
def gO(n:Nat)(f:Nat→List Nat)(ps:List Nat)(i j:Nat)(g:Nat→List Nat):Prop:=∀a b:Nat,a<n→(b∈g a↔b∈f a∨(a≠b∧(a∈ps.take i∧b∈ps∨ps[i]?=some a∧b∈ps.take j)))
theorem gO.start(n:Nat)(f:Nat→List Nat)(ps:List Nat):gO n f ps 0 0 f:=fun a b _=>by simp
variable {f g:Nat→List Nat} {ps:List Nat}
theorem gO.row(h:gO n f ps i ps.length g):gO n f ps (i+1) 0 g:=fun a b ha=>by
 rw [h a b ha,gp];cases e:ps[i]? with
 | none=>
  have:ps.length≤i:=Bm.mp e;rw [sM this,sM (by omega)]
  simp
 | some x=>
  rw [take_snoc e];simp only [dg,bY,Option.some.injEq,List.take_zero,ph,and_false,or_false];constructor
  ·rintro (z | ⟨z,z1 | z1⟩)
   ·exact .inl z
   ·exact .inr ⟨z,.inl z1.1,z1.2⟩
   ·exact .inr ⟨z,.inr z1.1.symm,z1.2⟩
  ·rintro (z | ⟨z,z1 | z1,z2⟩)
   ·exact .inl z
   ·exact .inr ⟨z,.inl ⟨z1,z2⟩⟩
   ·exact .inr ⟨z,.inr ⟨z1.symm,z2⟩⟩
variable {j:Nat}
theorem gO.same{x:Nat}(h:gO n f ps i j g)(hi:ps[i]?=some x)(hj:ps[j]?=some x):gO n f ps i (j+1) g:=fun a b ha=>by
 rw [h a b ha,take_snoc hj];simp only [dg,bY,hi,Option.some.injEq];constructor
 ·rintro (z | ⟨z,z1 | z1⟩)
  ·exact .inl z
  ·exact .inr ⟨z,.inl z1⟩
  ·exact .inr ⟨z,.inr ⟨z1.1,.inl z1.2⟩⟩
 ·rintro (z | ⟨z,z1 | ⟨z1,z2 | z2⟩⟩)
  ·exact .inl z
  ·exact .inr ⟨z,.inl z1⟩
  ·exact .inr ⟨z,.inr ⟨z1,z2⟩⟩
  ·exact absurd (z1.symm.trans z2.symm) z
theorem gO.put{x y:Nat}(h:gO n f ps i j g)(hi:ps[i]?=some x)(hj:ps[j]?=some y)(ne:x≠y):gO n f ps i (j+1) (d5 g x (b5 (g x) y)):=fun a b ha=>by
 have e1:b∈d5 g x (b5 (g x) y) a↔b∈g a∨(a=x∧b=y):=by
  unfold d5;by_cases e:a=x
  ·subst e
   rw [ae rfl,gN];simp
  ·rw [aa e]
   simp [e]
 rw [e1,h a b ha,take_snoc hj];simp only [dg,bY,hi,Option.some.injEq];constructor
 ·rintro ((z | ⟨z,z1 | z1⟩) | ⟨rfl,rfl⟩)
  ·exact .inl z
  ·exact .inr ⟨z,.inl z1⟩
  ·exact .inr ⟨z,.inr ⟨z1.1,.inl z1.2⟩⟩
  ·exact .inr ⟨ne,.inr ⟨rfl,.inr rfl⟩⟩
 ·rintro (z | ⟨z,z1 | ⟨z1,z2 | z2⟩⟩)
  ·exact .inl (.inl z)
  ·exact .inl (.inr ⟨z,.inl z1⟩)
  ·exact .inl (.inr ⟨z,.inr ⟨z1,z2⟩⟩)
  ·exact .inr ⟨z1.symm,z2⟩
theorem gO.done(h:gO n f ps ps.length 0 g):∀a b:Nat,a<n→(b∈g a↔b∈f a∨(a≠b∧a∈ps∧b∈ps)):=fun a b ha=>by rw [h a b ha,gp];simp
def QJ:Sp:=fun vs H Q _=>∃(D pl:Addr) (n:Nat) (ds:Nat→Addr) (un:Nat→Prop) (f:Nat→List Nat) (ps:List Nat),vs=[.ref D,.ref pl]∧dE H D n ds un f∧H pl=some (.lst (ps.map fun k:Nat=>V.int (k:Int)))∧(∀p∈ps,p<n∧un p)∧n≤1000 ∧
 ∀(H':Hp) (g:Nat→List Nat),oH n ds un H H'→dE H' D n ds un g→(∀a b:Nat,a<n→(b∈g a↔b∈f a∨(a≠b∧a∈ps∧b∈ps)))→Q .aN H'
theorem dE.mono{H':Hp}{un:Nat→Prop}(h:dE H D n ds un f)(s:aj H H'):dE H' D n ds un f:=⟨s _ _ h.lst,h.inj,h.ne,fun i hi ui=>s _ _ (h.at' i hi ui),h.pl⟩
theorem dE.less{un HR:Nat→Prop}(h:dE H D n ds un f)(k:∀i,i<n→HR i→un i):dE H D n ds HR f:=⟨h.lst,h.inj,h.ne,fun i hi ui=>h.at' i hi (k i hi ui),h.pl⟩
variable {x:Addr}
theorem dE.upd{un:Nat→Prop}(h:dE H D n ds un f){o:HO}(n1:x≠D)(n2:∀i,i<n→un i→ds i≠x):dE (upd H x o) D n ds un f:=⟨by rw [aP (Ne.symm n1)];exact h.lst,h.inj,h.ne,fun i hi ui=>by rw [aP (n2 i hi ui)];exact h.at' i hi ui,h.pl⟩
variable {a:Addr}
theorem QK{o:Obj}{kvs:List (Key×V)}(h:H1 a=some (.bH o (.dK kvs))):j8 (i_ a o kvs) (kvs.map fun kv=>kV kv.1) H1 where
 go:=fun i Hc s hi=>⟨s _ _ h,by simpa using hi⟩
 dW:=fun i Hc x H' s y=>⟨y.1,fun _=>by obtain ⟨kv,e,rfl⟩:=y.2;rw [bP,e];rfl⟩
 stop:=fun i Hc s hi=>⟨s _ _ h,by simpa using hi⟩
theorem QL(ks:List Nat):(dk ks).map (fun kv=>kV kv.1)=ks.map fun k:Nat=>V.int (k:Int):=by unfold dk;rw [cm];rfl
theorem QM(ks:List Nat):(List.range ks.length).map (fun i=>ks.getD i 0)=ks:=by
 refine gY (by simp) fun i h1 h2=>?_
 simp [dB,h2]
theorem QN(ks:List Nat)(pr:Nat→Bool):((List.range ks.length).filter fun i=>pr (ks.getD i 0)).map (fun i=>ks.getD i 0)=ks.filter pr:=by have e:=yE (f:=fun i=>ks.getD i 0) (l:=List.range ks.length) (p:=pr);rw [QM] at e;exact e.symm
variable {ρ:St→St} {tt:TT} {te:TE} {σ:St} {Q:VK} {ks:List Nat}
theorem HS{ob:Obj}(h:H a=some (.bH ob (.dK (dk ks))))(pr:Nat→Bool)(hl:ks.length<sizeLine)
  (test:∀k∈ks,∀(Hc:Hp) (R:Bool→Hp→Prop),aj H Hc→R (pr k) Hc→tt (some (.int (k:Int))::ρ σ) Hc R)
  (step:∀k∈ks,∀(Hc:Hp) (R:VK),R (.int (k:Int)) Hc→te (some (.int (k:Int))::ρ σ) Hc R)
  (fin:∀D Hc,H D=none→aj H Hc→Hc D=some (.lst ((ks.filter pr).map fun k:Nat=>V.int (k:Int)))→Q (.ref D) Hc):gD (fun _ H R=>R (i_ a ob (dk ks)) H) ρ tt te σ H Q:=by
 have at':∀{i:Nat} {x:V},(ks.map fun k:Nat=>V.int (k:Int))[i]?=some x→i<ks.length∧x=.int ((ks.getD i 0:Nat):Int)∧ks.getD i 0∈ks:=fun{i x} hx=>by
  have hi:i<ks.length:=by have:=(bM.mp hx).1;simpa using this
  rw [bP] at hx;simp [hi] at hx;rw [getD_at hi];exact ⟨hi,hx.symm,cS hi⟩
 refine P_ (xs:=ks.map fun k:Nat=>V.int (k:Int)) (fun i=>pr (ks.getD i 0)) (fun R k=>k _ (by rw [←QL];exact QK h)) (by rw [aD];exact hl) (fun _ i y _=>y=.int ((ks.getD i 0:Nat):Int)) (fun _ _ _ _ _ _ h _ _=>h) ?_ ?_ ?_
 ·intro i x hx Hc R sc hR
  obtain ⟨_,rfl,m⟩:=at' hx;exact test _ m Hc R sc hR
 ·intro D i x hx Hc R sc _ kc
  obtain ⟨_,rfl,m⟩:=at' hx;exact step _ m Hc R (kc _ Hc (aj.refl _) rfl)
 ·intro D ys Hc nD sc ly hP eD
  refine fin D Hc nD sc ?_;rw [eD,←QN ks pr,cm];rw [aD] at ly hP
  congr 2
  refine gY (by simpa using ly) fun k h1 h2=>?_
  have h3:k<((List.range ks.length).filter fun i=>pr (ks.getD i 0)).length:=by simpa using h2
  rw [fX];exact hP k _ _ (bx h1) (bx h3)
theorem HU(p:ws.Perm (ks.map iN)):∃ms:List Nat,ws=ms.map iN∧ms.Perm ks:=by
 refine ⟨ws.map Int.toNat,?_,?_⟩
 ·rw [cm]
  conv=>lhs;rw [←sV ws]
  refine iF fun z hz=>?_
  obtain ⟨k,_,rfl⟩:=cx.mp (p.mem_iff.mp hz)
  show iN k=iN (Int.toNat (iN k))
  unfold iN
  rw [cZ]
 ·have:=p.map Int.toNat
  rw [cm] at this
  have e:ks.map (Int.toNat ∘ iN)=ks:=by
   conv=>rhs;rw [←sV ks]
   exact iF fun k _=>cZ k
  rw [e] at this
  exact this
structure jI (n:Nat) (o:List Nat) (p:Nat) (ms:List Nat):Prop where
 up:ms.Pairwise (· < ·)
 lt:∀q∈ms,q<n
 la:∀q∈ms,o.idxOf p<o.idxOf q
theorem QO{ms:List Nat}(hk:ja n ks)(h:ms.Perm (ks.filter fun q=>decide (o.idxOf p<o.idxOf q)))(s:(ms.map iN).Pairwise (·≤·)):jI n o p ms:=by
 have m:∀q∈ms,q∈ks∧o.idxOf p<o.idxOf q:=fun q hq=>by have:=cu.mp (h.mem_iff.mp hq);exact ⟨this.1,by simpa using this.2⟩
 refine ⟨?_,fun q hq=>hk.2 q (m q hq).1,fun q hq=>(m q hq).2⟩;have nd:ms.Nodup:=h.nodup_iff.mpr (hk.1.filter _);rw [pF] at s;refine List.Pairwise.imp₂ (fun a b h1 h2=>?_) s nd;have h1:(a:Int)≤(b:Int):=h1;have h2:a≠b:=h2;omega
def QP(H:Hp)(D:Addr)(n:Nat)(rs:Nat→Addr)(g:Nat→List Nat):Prop:=H D=some (.lst ((List.range n).map fun p=>V.ref (rs p)))∧∀p,p<n→H (rs p)=some (.lst ((g p).map fun k:Nat=>V.int (k:Int)))
theorem QQ(h:lR zs n):∃o:List Nat,zs=o.map iN∧o.Perm (List.range n):=HU h
def jJ(rs:Nat→Addr)(p:Nat)(x:Addr):Nat→Addr:=fun q=>if q=p then x else rs q
theorem QR(n:Nat)(rs:Nat→Addr)(p:Nat)(x:Addr):((List.range n).map fun q=>V.ref (rs q)).set p (.ref x)=(List.range n).map fun q=>V.ref (jJ rs p x q):=by
 refine gY (by simp) fun q h1 h2=>?_
 rw [List.getElem_set,fX,pC,fX,pC];unfold jJ;by_cases e:p=q
 ·subst e
  rw [ae rfl,ae rfl]
 ·rw [aa e,aa (Ne.symm e)]
variable {rs:Nat→Addr}
theorem HV:jJ rs p x p=x:=ae rfl
variable {q:Nat}
theorem QS(h:q≠p):jJ rs p x q=rs q:=aa h
theorem QT{x:List Nat}:d5 f p x p=x:=ae rfl
theorem QU{x:List Nat}(h:q≠p):d5 f p x q=f q:=aa h
theorem ko{g:Nat→V}(h:p<n):gz ((List.range n).map g) (p:Int)=some (g p):=oq (by rw [bP,o_ h];rfl)
theorem QV(o ks:List Nat)(p:Nat):(ks.filter fun q=>decide ((o.idxOf p:Int)<(o.idxOf q:Int)))=ks.filter fun q=>decide (o.idxOf p<o.idxOf q):=by refine List.filter_congr fun q _=>?_;rw [nF,eY,eY];omega
theorem jb(h:o.Perm (List.range n))(hp:p<n)(hq:q<n)(ne:p≠q):o.idxOf p≠o.idxOf q:=fun z=>by
 obtain ⟨h1,e1⟩:=oG ((fm h).mpr hp);obtain ⟨h2,e2⟩:=oG ((fm h).mpr hq);refine ne ?_;rw [←e1,←e2]
 congr 1
theorem Dh{wi:TI}(h:wi σ H fun J H1=>gD (fun _ H R=>R J H) ρ tt te σ H1 Q):gD wi ρ tt te σ H Q:=h
end My
namespace L2
open PySem PySem.Spec PyProof.Rows
section
variable {X:Cx} {pins:aQ} {σ:St} {H:Hp} {s:Shared}
end
end L2
namespace My
open PySem L2
variable {n p:Nat}
theorem QW{o:List Nat}(h:o.Perm (List.range n)){ms:List Nat}(k:jI n o p ms):ms.length≤n-1-o.idxOf p:=by
 have nd:(ms.map fun q=>o.idxOf q-(o.idxOf p+1)).Nodup:=by rw [By,pF];refine List.Pairwise.imp_of_mem (fun{a b} ha hb lt=>?_) k.up;have h1:=k.la a ha;have h2:=k.la b hb;have ne:=jb h (k.lt a ha) (k.lt b hb) (bL lt);omega
 have:=C_ (n:=n-1-o.idxOf p) nd (fun x hx=>by obtain ⟨q,hq,rfl⟩:=cx.mp hx;have h1:=k.la q hq;have h2:=(oG ((fm h).mpr (k.lt q hq))).1;rw [lT h] at h2;omega)
 rwa [aD] at this
def dw(p q:Nat):Int×Int:=(if (q:Int)<(p:Int) then (q:Int) else (p:Int),if (q:Int)>(p:Int) then (q:Int) else (p:Int))
theorem HW{q:Nat}(hp:p<n)(hq:q<n):0≤(dw p q).2∧(dw p q).2<(n:Int):=by
 unfold dw;dsimp only
 split <;> omega
end My
namespace L2
open PySem PySem.Spec PyProof.Rows
theorem HX{X:Cx}{E:XK}(L:tJ X E):PassesOwn (model X.prog X.w) X.A X.env X.xe:=by rw [L.xe];exact PassesOwn.leaving
end L2
namespace My
open PySem L2
def QX:Sp:=fun vs H Q _=>∃m:Nat,vs=[.int (m:Int)]∧m≤1000∧Q (.int ((m:Int)*m+3*m+1)) H
def QY:Sp:=fun vs H Q _=>∃(t:Addr) (n:Nat) (L:aw),vs=[.ref t]∧dO H t n L∧n≤9∧Q .aN H
end My
namespace L2
open PySem PySem.Spec PyProof.Rows
def HY(K:aH):R2:=fun x y H Q=>∃a b xs ys,x=.ref a∧y=.ref b∧dU K H a xs∧dU K H b ys∧ys≠[]∧xs.length+ys.length≤sizeLine ∧
 (xs=[]→Q (.ref b) H)∧(xs≠[]→∀p,H p=none→Q (.ref p) (upd H p (.tup (xs++ys))))
theorem QZ{X:Cx}:cK X (binaryOp .Add) (HY X.K):=by
 intro pins s σ H x y v u Q I rx ry h;by_cases hx:∃a b xs ys,x=.ref a∧y=.ref b∧dU X.K H a xs∧dU X.K H b ys∧xs=[]∧Q (.ref b) H
 ·obtain ⟨a,b,xs,ys,rfl,rfl,ha,hb,rfl,q⟩:=hx
  cases rx;cases ry;obtain ⟨ak,r1,p1,_⟩:=I.tuple ha;obtain ⟨iK,r2,p2,_⟩:=I.tuple hb;have e0:ak=[]:=r1.y6.mpr rfl;subst e0;obtain ⟨⟨cls,dd,data,sl⟩,ho,hc,n,hd⟩:=id p1;obtain ⟨⟨F7,oo,data2,f9⟩,lC,gy,n2,hd2⟩:=id p2;simp only at hc hd gy hd2;subst hc hd gy hd2
  exact concat_meets ⟨_,ho,rfl⟩ ⟨_,lC,rfl⟩ noFill_tuple_add seq_tuple_add Bo Bp (Bq _ _)
   (tuple_addW0 a b _ iK.toArray n n2 dd oo sl f9 (by simp)) ⟨ho,lC,⟨.ref b,H,I,rfl,q⟩⟩
 ·obtain ⟨a,b,xs,ys,rfl,rfl,ha,hb,hy,hz,q1,q2⟩:=h
  have ne:xs≠[]:=fun z=>hx ⟨a,b,xs,ys,rfl,rfl,ha,hb,z,q1 z⟩;exact Np pins s σ H _ _ v u Q I rx ry ⟨a,b,xs,ys,rfl,rfl,ha,hb,ne,hz,fun z=>absurd z hy,fun _=>q2 ne⟩
end L2
namespace My
open PySem L2
end My
namespace L2
open PySem PySem.Spec PyProof.Rows
theorem HZ{X:Cx}{K:aH}(hk:X.K=K:=by rfl):cK X (binaryOp .Add) (HY K):=by subst hk;exact QZ
end L2
namespace My
open PySem L2
end My
namespace L2
open PySem PySem.Spec PyProof.Rows
theorem H_{X:Cx}{K:aH}(hk:X.K=K:=by rfl):cK X (compareOp .In) (y7 K false):=by subst hk;exact B2
end L2
namespace My
open PySem L2
def mX:V→Nat
 | .int i=>i.toNat
 | _=>0
theorem Q0{ys:List V}{n:Nat}(p:ys.Perm (bT n)):∃o:List Nat,ys=o.map (fun k:Nat=>V.int (k:Int))∧o.Perm (List.range n):=by
 refine ⟨ys.map mX,?_,?_⟩
 ·rw [cm]
  conv=>lhs;rw [←sV ys]
  refine iF fun y hy=>?_
  obtain ⟨k,_,rfl⟩:=cx.mp (p.mem_iff.mp hy)
  show V.int (k:Int)=V.int (((k:Int).toNat:Nat):Int)
  rw [cZ]
 ·have:=p.map mX
  unfold bT at this
  rw [cm] at this
  have e:(List.range n).map (mX ∘ fun i:Nat=>V.int (i:Int))=List.range n:=by
   conv=>rhs;rw [←sV (List.range n)]
   exact iF fun k _=>cZ k
  rw [e] at this
  exact this
theorem Zl(xs:List V)(k:Nat)(h:k≤xs.length):iJ xs none (some (k:Int))=xs.take k:=by
 unfold iJ HT.fG;simp only;rw [aa (by omega),cZ,Nat.min_eq_left h,Nat.sub_zero]
 rfl
theorem Q1(xs:List V)(k:Nat)(h:k≤xs.length):iJ xs (some (k:Int)) none=xs.drop k:=by
 unfold iJ HT.fG;simp only;rw [aa (by omega),cZ,Nat.min_eq_left h]
 exact sM (by rw [vK];exact ax _)
inductive kq (bG:Nat→Nat→Prop) (bF:Nat→Prop) (s:Nat):Nat→Prop where
 | start:kq bG bF s s
 | step {a b:Nat}:kq bG bF s a→(a=s∨bF a)→bG a b→kq bG bF s b
structure dQ (n:Nat) (bG:Nat→Nat→Prop) (bF:Nat→Prop) (s:Nat) (here:Option Nat) (dn:Nat→Prop) (ks ws:List Nat):Prop where
 pl:ja n ks
 st:s∈ks
 rc:∀k∈ks,kq bG bF s k
 wt:∀w∈ws,w∈ks∧(w=s∨bF w)
 cl:∀k∈ks,(k=s∨bF k)→k∈ws∨∀b,bG k b→b∈ks∨(here=some k∧¬dn b)
variable {n:Nat} {bG:Nat→Nat→Prop} {bF:Nat→Prop} {s:Nat}
variable {dn:Nat→Prop}
theorem dQ.start(hs:s<n):dQ n bG bF s none dn [s] [s]:=
 ⟨⟨by simp,fun k hk=>by rw [bY.mp hk];exact hs⟩,bY.mpr rfl,fun k hk=>by rw [bY.mp hk];exact .start,fun w hw=>⟨hw,.inl (bY.mp hw)⟩,fun k hk _=>.inl hk⟩
variable {ks ws:List Nat} {h:Nat}
theorem dQ.pop(k:dQ n bG bF s none dn ks (ws++[h])):dQ n bG bF s (some h) (fun _=>False) ks ws:=
 ⟨k.pl,k.st,k.rc,fun w hw=>k.wt w (sG _ hw),fun x hx ox=>by
  rcases k.cl x hx ox with e | e
  ·rcases dg.mp e with e | e
   ·exact .inl e
   ·exact .inr fun b _=>.inr ⟨by rw [bY.mp e],fun z=>z⟩
  ·exact .inr fun b hb=>.inl ((e b hb).resolve_right fun z=>by cases z.1)⟩
variable {b:Nat}
theorem dQ.old(k:dQ n bG bF s (some h) dn ks ws)(hb:b∈ks):dQ n bG bF s (some h) (fun x=>dn x∨x=b) ks ws:=
 ⟨k.pl,k.st,k.rc,k.wt,fun x hx ox=>by
  rcases k.cl x hx ox with e | e;·exact .inl e
  ·refine .inr fun c hc=>?_
   rcases e c hc with e | e;·exact .inl e
   ·by_cases z:c=b
    ·rw [z];exact .inl hb
    ·exact .inr ⟨e.1,fun q=>q.elim e.2 z⟩⟩
theorem dQ.new{vs:List Nat}(k:dQ n bG bF s (some h) dn ks ws)(hb:b∉ks)(bn:b<n)(hh:h∈ks)(oh:h=s∨bF h)(ab:bG h b)(hv:(bF b∧vs=ws++[b])∨(¬bF b∧vs=ws)):dQ n bG bF s (some h) (fun x=>dn x∨x=b) (b5 ks b) vs:=by
 have bs:b≠s:=fun z=>hb (z▸k.st);have sub:∀w∈ws,w∈vs:=fun w hw=>by
  rcases hv with ⟨_,rfl⟩ | ⟨_,rfl⟩;·exact sG _ hw
  ·exact hw
 refine ⟨k.pl.add bn,gN.mpr (.inl k.st),fun x hx=>?_,fun w hw=>?_,fun x hx ox=>?_⟩
 ·rcases gN.mp hx with e | rfl
  ·exact k.rc x e
  ·exact .step (k.rc h hh) oh ab
 ·rcases hv with ⟨tb,rfl⟩ | ⟨_,rfl⟩
  ·rcases dg.mp hw with e | e
   ·exact ⟨gN.mpr (.inl (k.wt w e).1),(k.wt w e).2⟩
   ·rw [bY.mp e]
    exact ⟨gN.mpr (.inr rfl),.inr tb⟩
  ·exact ⟨gN.mpr (.inl (k.wt w hw).1),(k.wt w hw).2⟩
 ·rcases gN.mp hx with e | rfl
  ·rcases k.cl x e ox with e | e
   ·exact .inl (sub x e)
   ·refine .inr fun c hc=>?_
    rcases e c hc with e | e;·exact .inl (gN.mpr (.inl e))
    ·by_cases z:c=b
     ·exact .inl (gN.mpr (.inr z))
     ·exact .inr ⟨e.1,fun q=>q.elim e.2 z⟩
  ·rcases hv with ⟨tb,rfl⟩ | ⟨tb,rfl⟩
   ·exact .inl (dI _ (bY.mpr rfl))
   ·exact absurd ox (fun z=>z.elim bs tb)
theorem dQ.next{Q2:Nat→Prop}(k:dQ n bG bF s (some h) dn ks ws)(all:∀b,bG h b→dn b):dQ n bG bF s none Q2 ks ws:=
 ⟨k.pl,k.st,k.rc,k.wt,fun x hx ox=>by
  rcases k.cl x hx ox with e | e;·exact .inl e
  ·refine .inr fun c hc=>.inl ?_
   rcases e c hc with e | ⟨e,e2⟩;·exact e
   ·cases e
    exact absurd (all c hc) e2⟩
theorem dQ.done(k:dQ n bG bF s none dn ks [])(x:Nat):x∈ks↔kq bG bF s x:=by
 refine ⟨k.rc x,fun h=>?_⟩
 induction h with
 | start=>exact k.st
 | step _ o ab ih=>
  rcases k.cl _ ih o with e | e;·cases e
  ·exact (e _ ab).resolve_right fun z=>by cases z.1
theorem Q3{ms:List Nat}(h1:ks.Nodup)(h2:ms.Nodup)(e:∀x,x∈ks↔x∈ms)(p:Nat→Bool):(ks.filter p).length=(ms.filter p).length:=by have pm:ks.Perm ms:=(sW h1 h2).mpr e;exact (pm.filter p).length_eq
theorem Ia(h:b∉ks):(b5 ks b).length=ks.length+1:=by unfold b5;rw [aa h,dh];rfl
end My
namespace L2
open PySem PySem.Spec PyProof.Rows
theorem Di{X:Cx}{K:aH}(hk:X.K=K:=by rfl):cK X (compareOp .NotIn) (y7 K true):=by subst hk;exact Nx
end L2
namespace My
open PySem L2
def fu(n:Nat)(f:Nat→List Nat)(a b:Nat):Prop:=a<n∧b∈f a
def lW(n:Nat)(f:Nat→List Nat)(done:List Nat)(p:Nat)(c:Nat):Prop:=∃ks:List Nat,ja n ks∧(∀x,x∈ks↔kq (fu n f) (·∈done) p x)∧c=(ks.filter fun q=>!decide (q=p) && !decide (q∈done)).length
def Q4:Sp:=fun vs H Q _=>∃(D d:Addr) (n:Nat) (ds:Nat→Addr) (f:Nat→List Nat) (done:List Nat) (p:Nat),vs=[.ref D,.ref d,.int (p:Int)]∧dE H D n ds (fun _=>True) f∧H d=some (.tup (done.map fun k:Nat=>V.int (k:Int)))∧done.length≤1000∧p<n∧n≤60 ∧
 ∀(H':Hp) (r:Addr) (xs:List V),(∀b o,H b=some o→(∀i,i<n→b≠ds i)→H' b=some o)→H' r=some (.lst xs)→lW n f done p xs.length→Q (.ref r) H'
variable {a:Addr} {σ:St} {H:Hp}
theorem Q5{ob:Obj}{ks:List Nat}{g:TG}{tb:TS}{D:Ends}(Pv:Nat→St→Hp→Prop)(h0:Pv 0 σ H)(hl:∀i σ H,i≤ks.length→Pv i σ H→H a=some (.bH ob (.dK (dk ks))))
  (hs:∀(i k:Nat) σ H,ks[i]?=some k→Pv i σ H→g (.int (k:Int)) σ H fun σ2 H2=>tb {D with nx:=Pv (i+1),ct:=Pv (i+1),bk:=D.nx} σ2 H2) (hd:∀σ H,Pv ks.length σ H→D.nx σ H) :
  ∃W:Nat→Nat→St→Hp→Prop,(∃m,W 0 m σ H)∧∀i m σ H,W i m σ H→
   ((i_ a ob (dk ks)).stop i H∧D.nx σ H)∨((i_ a ob (dk ks)).go i H∧∃N:St→Hp→Prop,(∀σ' H',N σ' H'→∃m',m'<m∧W (i+1) m' σ' H')∧∀x H',(i_ a ob (dk ks)).dW i H x H'→g x σ H' fun σ2 H2=>tb {D with nx:=N,ct:=N,bk:=D.nx} σ2 H2):=by
 refine ⟨fun i m σ H=>m=ks.length-i∧i≤ks.length∧Pv i σ H,⟨ks.length,by simp,ba _,h0⟩,?_⟩
 rintro i m σ H ⟨rfl,hi,p⟩;have q:=hl i σ H hi p;by_cases aU:i<ks.length
 ·refine .inr ⟨⟨q,by rw [xq];exact aU⟩,Pv (i+1),fun σ' H' p'=>⟨ks.length-(i+1),by omega,rfl,aU,p'⟩,fun x H' y=>?_⟩
  obtain ⟨e,kv,ek,rfl⟩:=y;subst e;unfold dk at ek;rw [bP,bx aU] at ek;cases ek;exact hs i _ σ _ (bx aU) p
 ·have e:i=ks.length:=by omega
  subst e;exact .inl ⟨⟨q,by rw [xq];exact ax _⟩,hd σ H p⟩
structure mY (H:Hp) (D:Addr) (n:Nat) (ds:Nat→Addr) (f:Nat→List Nat):Prop where
 lst:H D=some (.lst ((List.range n).map fun i=>V.ref (ds i)))
 at':∀i,i<n→H (ds i)=some (.dK (dk (f i)))∨∃ob,H (ds i)=some (.bH ob (.dK (dk (f i))))
variable {D:Addr} {n:Nat} {ds:Nat→Addr} {f:Nat→List Nat}
theorem dE.fr(h:dE H D n ds (fun _=>True) f):mY H D n ds f:=⟨h.lst,fun i hi=>.inl (h.at' i hi trivial)⟩
theorem mZ(done:List Nat)(k:Nat):iL (.int (k:Int)) (done.map fun k:Nat=>V.int (k:Int))=decide (k∈done):=by
 unfold iL;rw [nF,yB,eY];constructor
 ·rintro ⟨y,hy,e⟩
  obtain ⟨j,hj,rfl⟩:=cx.mp hy;have e:((j:Int) == (k:Int))=true:=e;rw [beq_iff_eq] at e;have:j=k:=by omega
  subst this;exact hj
 ·intro h
  exact ⟨_,cx.mpr ⟨k,h,rfl⟩,GK rfl⟩
theorem xt(done:List Nat):(done.map fun k:Nat=>V.int (k:Int)).all jy=true:=by rw [mf];intro x hx;obtain ⟨j,_,rfl⟩:=cx.mp hx;rfl
variable {kvs:List (Key×V)} {R:It→Hp→Prop}
theorem Q6(h:H a=some (.dK kvs)∨∃ob,H a=some (.bH ob (.dK kvs)))(k:∀(ob:Obj) (Hf:Hp),Hf a=some (.bH ob (.dK kvs))→(∀b u,b≠a→H b=some u→Hf b=some u)→R (i_ a ob kvs) Hf) :
  (H a=some (.dK kvs)∧∀o,R (i_ a o kvs) (upd H a (.bH o (.dK kvs))))∨∃o,H a=some (.bH o (.dK kvs))∧R (i_ a o kvs) H:=by
 rcases h with e | ⟨ob,e⟩;·exact .inl ⟨e,fun o=>k o _ au fun b u ne hb=>by rw [aP ne];exact hb⟩
 ·exact .inr ⟨ob,e,k ob H e fun _ _ _ h=>h⟩
theorem mY.keep{H':Hp}(h:mY H D n ds f)(k:∀b u,b≠a→H b=some u→H' b=some u)(nD:a≠D)(nd:∀i,i<n→ds i≠a):mY H' D n ds f:=⟨k _ _ (Ne.symm nD) h.lst,fun i hi=>by
 rcases h.at' i hi with e | ⟨ob,e⟩;·exact .inl (k _ _ (nd i hi) e)
 ·exact .inr ⟨ob,k _ _ (nd i hi) e⟩⟩
theorem mY.bH{H H':Hp}{D:Addr}{n:Nat}{ds:Nat→Addr}{f:Nat→List Nat}(h:mY H D n ds f){j:Nat}{ob:Obj}(k:∀b u,b≠ds j→H b=some u→H' b=some u)(hj:j<n)(e:H' (ds j)=some (.bH ob (.dK (dk (f j)))))(inj:∀i j,i<n→j<n→ds i=ds j→i=j)(nD:ds j≠D):mY H' D n ds f:=⟨k _ _ (Ne.symm nD) h.lst,fun i hi=>by
 by_cases z:i=j;·subst z;exact .inr ⟨ob,e⟩
 ·rcases h.at' i hi with e | ⟨ob,e⟩
  ·exact .inl (k _ _ (fun q=>z (inj i j hi hj q)) e)
  ·exact .inr ⟨ob,k _ _ (fun q=>z (inj i j hi hj q)) e⟩⟩
def qB(n:Nat)(ds:Nat→Addr)(H H':Hp):Prop:=∀b o,H b=some o→(∀i,i<n→b≠ds i)→H' b=some o
theorem Ib{tl:TE}(hp:∀Q:VK,Q (.ref a) H→tl σ H Q)(h:H a=some (.dK kvs)∨∃ob,H a=some (.bH ob (.dK kvs)))(k:∀(ob:Obj) (Hf:Hp),Hf a=some (.bH ob (.dK kvs))→(∀b u,b≠a→H b=some u→Hf b=some u)→R (i_ a ob kvs) Hf):HM tl σ H R:=hp _ ⟨a,kvs,rfl,Q6 h k⟩
def Q7:Sp:=fun vs H Q _=>∃(t d:Addr) (n:Nat) (L:aw) (done:List Nat) (p:Nat),vs=[.ref t,.ref d,.int (p:Int)]∧dO H t n L∧eX n L∧n≤9∧H d=some (.tup (done.map fun k:Nat=>V.int (k:Int)))∧done.length≤1000∧p<n ∧
 ∀(H':Hp) (f:Nat→List Nat) (c:Nat),aj H H'→dP n L f→lW n f done p c→Q (.int ((c:Int)*c+3*c+1)) H'
variable {p c:Nat}
theorem lW.le{done:List Nat}(h:lW n f done p c):c≤n:=by obtain ⟨ks,pl,_,rfl⟩:=h;exact a9 (mq _ _) pl.len
variable {L:aw} {g:Nat→List Nat}
theorem lW.same{done:List Nat}{e:Nat}(hf:dP n L f)(hg:dP n L g)(h:lW n f done p c)(k:lW n g done p e):c=e:=by
 obtain ⟨ks,pk,ik,rfl⟩:=h;obtain ⟨ms,pm,im,rfl⟩:=k;have ad:fu n f=fu n g:=by
  funext a b
  unfold fu;refine propext ⟨fun⟨x,y⟩=>⟨x,(hg a b x).mpr ((hf a b x).mp y)⟩,fun⟨x,y⟩=>⟨x,(hf a b x).mpr ((hg a b x).mp y)⟩⟩
 refine Q3 pk.1 pm.1 (fun x=>?_) _;rw [ik,im,ad]
def iz(g:Nat→List Nat)(i j:Nat):Nat→List Nat:=d5 g i (g i++[j])
variable {i j:Nat}
theorem Ic{a b:Nat}:b∈iz g i j a↔b∈g a∨(a=i∧b=j):=by
 unfold iz d5;by_cases e:a=i
 ·subst e
  rw [ae rfl,dg,bY];simp
 ·rw [aa e]
  simp [e]
theorem Dj{a:Nat}:(iz g i j a).length≤(g a).length+1:=by
 unfold iz d5;by_cases e:a=i
 ·subst e
  rw [ae rfl,dh];exact ax _
 ·rw [aa e];omega
theorem dP.snoc(h:dP n L g):dP n (L++[((i:Int),(j:Int))]) (iz (iz g i j) j i):=fun a b ha=>by
 rw [Ic,Ic,h a b ha];simp only [dg,bY,Prod.mk.injEq];constructor
 ·rintro (((e | e) | ⟨rfl,rfl⟩) | ⟨rfl,rfl⟩)
  ·exact .inl (.inl e)
  ·exact .inr (.inl e)
  ·exact .inl (.inr ⟨rfl,rfl⟩)
  ·exact .inr (.inr ⟨rfl,rfl⟩)
 ·rintro ((e | ⟨e1,e2⟩) | (e | ⟨e1,e2⟩))
  ·exact .inl (.inl (.inl e))
  ·exact .inl (.inr ⟨by omega,by omega⟩)
  ·exact .inl (.inl (.inr e))
  ·exact .inr ⟨by omega,by omega⟩
structure jc (H:Hp) (D:Addr) (n:Nat) (rs:Nat→Addr) (g:Nat→List Nat):Prop where
 lst:H D=some (.lst ((List.range n).map fun i=>V.ref (rs i)))
 inj:∀i j,i<n→j<n→rs i=rs j→i=j
 ne:∀i,i<n→rs i≠D
 at':∀i,i<n→H (rs i)=some (.lst ((g i).map fun k:Nat=>V.int (k:Int)))
theorem jc.snoc{rs:Nat→Addr}(h:jc H D n rs g)(j:Nat)(hi:i<n):jc (upd H (rs i) (.lst (((g i).map fun k:Nat=>V.int (k:Int))++[V.int (j:Int)]))) D n rs (iz g i j):=by
 refine ⟨by rw [aP (Ne.symm (h.ne i hi))];exact h.lst,h.inj,h.ne,fun a ha=>?_⟩
 unfold iz d5;by_cases e:a=i
 ·subst e
  rw [ae rfl,au,eN];rfl
 ·rw [aa e,aP (fun z=>e (h.inj a i ha hi z))]
  exact h.at' a ha
def Q8:Sp:=fun vs H Q _=>∃(D d:Addr) (n:Nat) (rs:Nat→Addr) (g:Nat→List Nat) (done:List Nat) (p:Nat),vs=[.ref D,.ref d,.int (p:Int)]∧jc H D n rs g∧(∀i,i<n→∀j∈g i,j<n)∧H d=some (.lst (done.map fun k:Nat=>V.int (k:Int)))∧done.length≤1000∧p<n∧n≤60 ∧
 ∀(H':Hp) (mt:Addr) (ks:List Nat),aj H H'→H mt=none→H' mt=some (.dK (dk ks))→ja n ks→(∀x,x∈ks↔kq (fu n g) (·∈done) p x)→Q (.ref mt) H'
end My
namespace L2
open PySem PySem.Spec PyProof.Rows
end L2
namespace My
open PySem L2
end My
namespace L2
open PySem PySem.Spec PyProof.Rows My
structure Dk (J:It) (Z:aw) (H1:Hp):Prop where
 go:∀i Hc,aj H1 Hc→i<Z.length→J.go i Hc
 dW:∀i Hc v H',aj H1 Hc→J.dW i Hc v H'→aj Hc H'∧∀z,Z[i]?=some z→∃T,v=.ref T∧H' T=some (.tup [.int z.1,.int z.2])
 stop:∀i Hc,aj H1 Hc→Z.length≤i→J.stop i Hc
end L2
namespace My
open PySem L2
def xu(p q:Int×Int):Prop:=p.1*1000+p.2≤q.1*1000+q.2
variable {M:aw}
theorem Q9{p:Array Nat}(P:lK M.length p)(U:oz (fun i=>(M.getD i (0,0)).1*1000+(M.getD i (0,0)).2) p M.length) :
  (p.toList.map fun i=>M.getD i (0,0)).Perm M∧(p.toList.map fun i=>M.getD i (0,0)).Pairwise xu:=by
 have pm:p.toList.Perm (List.range M.length):=nN.mp P;have lt:∀i∈p.toList,i<M.length:=fun i hi=>b7.mp (pm.mem_iff.mp hi);refine ⟨?_,?_⟩
 ·have e:((List.range M.length).map fun i=>M.getD i (0,0))=M:=by
   refine gY (by simp) fun i h1 h2=>?_
   rw [fX,pC,getD_at h2]
  have:=pm.map fun i=>M.getD i (0,0);rw [e] at this;exact this
 ·rw [mh]
  intro i j hi hj w5;rw [aD] at hi hj;rw [fX,fX];have sz:=P.size;have u:=U i j (by omega) (by rw [←sz,←eA];exact hj)
  unfold vN at u;have gi:p.getD i 0=p.toList[i]:=by
   have:i<p.size:=by rw [←eA];exact hi
   simp [Array.getD,this]
  have gj:p.getD j 0=p.toList[j]:=by
   have:j<p.size:=by rw [←eA];exact hj
   simp [Array.getD,this]
  rw [gi,gj] at u;exact u
theorem Q_{H:Hp}{l:Addr}{us:List V}{Q:VK}(el:H l=some (.lst us))(hM:bU H us M)(Zm:M.length<1000)(b:∀q∈M,0≤q.2∧q.2<1000)
  (k:∀(l':Addr) (ws:List V) (N:aw) (H':Hp),aj H H'→H l'=none→H' l'=some (.lst ws)→bU H' ws N→N.Perm M→N.Pairwise xu→Q (.ref l') H'):G_ [.ref l] H Q:=by
 have lX:=hM.1;refine ⟨l,us,fun i=>(M.getD i (0,0)).1,fun i=>(M.getD i (0,0)).2,rfl,el,by omega,fun i v hv=>?_,fun p l' hp hu qC=>?_⟩
 ·have hi:i<M.length:=by rw [←lX];exact (bM.mp hv).1
  obtain ⟨c,rfl,ec⟩:=hM.2 i v M[i] hv (by simp [hi])
  dsimp only;rw [getD_at hi];exact ⟨⟨c,rfl,ec⟩,b _ (cS hi)⟩
 ·rw [lX] at hp hu
  obtain ⟨pm,pw⟩:=Q9 hp hu;have hP:bU H (p.toList.map fun i=>us.getD i .aN) (p.toList.map fun i=>M.getD i (0,0)):=hM.pick _ fun i hi=>by have:p.toList.Perm (List.range M.length):=nN.mp hp;exact b7.mp (this.mem_iff.mp hi)
  exact k l' _ _ _ (aJ qC) qC au (hP.mono (aJ qC)) pm pw
end My
namespace L2
open PySem PySem.Spec PyProof.Rows My
end L2
namespace My
open PySem L2
theorem Ra{xs:List V}{v:V}(h1:1≤xs.length)(h:xs[xs.length-1]?=some v):gz xs (-1)=some v:=by
 unfold gz;have e:jZ xs.length (-1)=some (xs.length-1):=by
  unfold jZ
  split
  ·rename_i hh;omega
  ·split
   ·congr 1
    omega
   ·rename_i h2 h3
    omega
 rw [e];exact h
inductive Wk (bG:Nat→Nat→Prop) (bF:Nat→Prop) (s:Nat):Nat→Prop where
 | one {b:Nat}:bG s b→Wk bG bF s b
 | more {a b:Nat}:Wk bG bF s a→bF a→bG a b→Wk bG bF s b
section
variable {bG:Nat→Nat→Prop} {bF xv:Nat→Prop} {s t:Nat}
theorem Ie(t:Nat):kq bG bF s t↔t=s∨Wk bG bF s t:=by
 constructor
 ·intro h
  induction h with
  | start=>exact .inl rfl
  | step _ o ab ih=>
   rcases ih with rfl | w;·exact .inr (.one ab)
   ·rcases o with rfl | o
    ·exact .inr (.one ab)
    ·exact .inr (.more w o ab)
 ·rintro (rfl | h)
  ·exact .start
  ·induction h with
   | one ab=>exact .step .start (.inl rfl) ab
   | more _ o ab ih=>exact .step ih (.inr o) ab
theorem Wk.mono(h:Wk bG bF s t)(k:∀x,bF x→xv x):Wk bG xv s t:=by
 induction h with
 | one ab=>exact .one ab
 | more _ o ab ih=>exact .more ih (k _ o) ab
theorem Wk.imp{Ig:Nat→Nat→Prop}(h:Wk bG bF s t)(k:∀a b,bG a b→Ig a b):Wk Ig bF s t:=by
 induction h with
 | one ab=>exact .one (k _ _ ab)
 | more _ o ab ih=>exact .more ih o (k _ _ ab)
theorem Wk.cons{a:Nat}(ab:bG s a)(ta:bF a)(h:Wk bG bF a t):Wk bG bF s t:=by
 induction h with
 | one e=>exact .more (.one ab) ta e
 | more _ o e ih=>exact .more ih o e
theorem Wk.symm(sy:∀a b,bG a b→bG b a)(h:Wk bG bF s t):Wk bG bF t s:=by
 induction h with
 | one ab=>exact .one (sy _ _ ab)
 | more _ o ab ih=>exact ih.cons (sy _ _ ab) o
variable {p:Nat}
theorem Wk.trans(h:Wk bG bF s p)(tp:bF p)(h':Wk bG bF p t):Wk bG bF s t:=by
 induction h' with
 | one ab=>exact .more h tp ab
 | more _ o ab ih=>exact .more ih o ab
theorem Wk.step(k:∀x,xv x↔bF x∨x=p):Wk bG xv s t↔Wk bG bF s t∨(Wk bG bF s p∧Wk bG bF p t):=by
 constructor
 ·intro h
  induction h with
  | one ab=>exact .inl (.one ab)
  | more _ o ab ih=>
   rcases (k _).mp o with o | rfl
   ·rcases ih with ih | ⟨i1,i2⟩
    ·exact .inl (.more ih o ab)
    ·exact .inr ⟨i1,.more i2 o ab⟩
   ·rcases ih with ih | ⟨i1,_⟩
    ·exact .inr ⟨ih,.one ab⟩
    ·exact .inr ⟨i1,.one ab⟩
 ·have m:∀x,bF x→xv x:=fun x h=>(k x).mpr (.inl h)
  rintro (h | ⟨h,h'⟩);·exact h.mono m
  ·exact (h.mono m).trans ((k p).mpr (.inr rfl)) (h'.mono m)
end
def aL(n:Nat)(L:aw)(a b:Nat):Prop:=a<n∧b<n∧(((a:Int),(b:Int))∈L∨((b:Int),(a:Int))∈L)
variable {n:Nat} {L:aw}
theorem lY(a b:Nat)(h:aL n L a b):aL n L b a:=⟨h.2.1,h.1,h.2.2.symm⟩
def qD(L:aw):Prop:=∀p∈L,p.1≠p.2
def cX(n:Nat)(o:List Nat)(k x:Nat):Prop:=x<n∧o.idxOf x<k
def qE(n:Nat)(L:aw)(o:List Nat)(k:Nat)(f:Nat→List Nat):Prop:=∀a b:Nat,a<n→b<n→k≤o.idxOf a→k≤o.idxOf b→(b∈f a↔a≠b∧Wk (aL n L) (cX n o k) a b)
variable {o:List Nat} {f:Nat→List Nat}
theorem qE.start(nb:dP n L f)(ns:qD L):qE n L o 0 f:=fun a b ha hb _ _=>by
 rw [nb a b ha];constructor
 ·intro h
  refine ⟨fun e=>?_,.one ⟨ha,hb,h⟩⟩;subst e;rcases h with h | h <;> exact ns _ h rfl
 ·rintro ⟨_,h⟩
  cases h with
  | one ab=>exact ab.2.2
  | more _ o _=>exact absurd o.2 (sP _)
variable {k p:Nat} {g:Nat→List Nat}
theorem qE.step(ho:o.Perm (List.range n)){ms:List Nat}(h:qE n L o k f)(hp:p<n)(ip:o.idxOf p=k)(hm:∀q,q∈ms↔q∈f p∧k<o.idxOf q)(ml:∀q∈ms,q<n)
  (con:∀a b:Nat,a<n→(b∈g a↔b∈f a∨(a≠b∧a∈ms∧b∈ms))):qE n L o (k+1) g:=fun a b ha hb ka kb=>by
 have th:∀x,cX n o (k+1) x↔cX n o k x∨x=p:=fun x=>by
  unfold cX;constructor
  ·rintro ⟨h1,h2⟩
   by_cases e:o.idxOf x=k
   ·right
    by_cases z:x=p;·exact z
    ·exact absurd (e.trans ip.symm) (jb ho h1 hp z)
   ·exact .inl ⟨h1,by omega⟩
  ·rintro (⟨h1,h2⟩ | rfl)
   ·exact ⟨h1,by omega⟩
   ·exact ⟨hp,by omega⟩
 have ap:a≠p:=fun e=>by subst e;omega
 have bp:b≠p:=fun e=>by subst e;omega
 have ea:=h p a hp ha (by omega) (by omega)
 have eb:=h p b hp hb (by omega) (by omega)
 rw [con a b ha,h a b ha hb (by omega) (by omega),hm a,hm b,ea,eb,Wk.step th]
 constructor
 ·rintro (⟨h1,h2⟩ | ⟨h1,⟨⟨_,h2⟩,_⟩,⟨_,h3⟩,_⟩)
  ·exact ⟨h1,.inl h2⟩
  ·exact ⟨h1,.inr ⟨h2.symm lY,h3⟩⟩
 ·rintro ⟨h1,h2 | ⟨h2,h3⟩⟩
  ·exact .inl ⟨h1,h2⟩
  ·exact .inr ⟨h1,⟨⟨Ne.symm ap,h2.symm lY⟩,by omega⟩,⟨Ne.symm bp,h3⟩,by omega⟩
def kr(n:Nat)(L:aw)(o:List Nat)(p:Nat)(ms:List Nat):Prop:=∀q,q∈ms↔q<n∧o.idxOf p<o.idxOf q∧Wk (aL n L) (cX n o (o.idxOf p)) p q
def Rb(N:Addr):Sp:=fun vs H Q E=>∃(t a:Addr) (n:Nat) (L:aw) (zs:List Int),vs=[.ref t,.ref a]∧dO H t n L∧eX n L∧qD L∧n≤60∧H a=some (.lst (zs.map V.int))∧zs.length<64 ∧
 (¬lR zs n→∀H',aj H H'→E (.ref N) none H') ∧
 ∀o:List Nat,zs=o.map iN→o.Perm (List.range n)→∀(H':Hp) (D:Addr) (rs:Nat→Addr) (g:Nat→List Nat),aj H H'→H D=none→(∀p,p<n→H (rs p)=none)→QP H' D n rs g→(∀p,p<n→jI n o p (g p)∧kr n L o p (g p))→Q (.ref D) H'
variable {q:Nat}
theorem Ih{p' q':Nat}(h:dw p q=dw p' q'):(p=p'∧q=q')∨(p=q'∧q=p'):=by
 unfold dw at h;have h1:=d8 Prod.fst h;have h2:=d8 Prod.snd h;dsimp only at h1 h2
 split at h1 <;> split at h1 <;> split at h2 <;> split at h2 <;> omega
def eL(n:Nat)(L:aw)(o:List Nat)(M:aw):Prop:=M.Pairwise lexLt∧∀z,z∈M↔∃p q:Nat,p<n∧q<n∧o.idxOf p<o.idxOf q∧Wk (aL n L) (cX n o (o.idxOf p)) p q∧z=dw p q
variable {M:aw}
theorem eL.lt(h:eL n L o M):∀z∈M,0≤z.1∧z.1<z.2∧z.2<(n:Int):=fun z hz=>by
 obtain ⟨p,q,hp,hq,hi,_,rfl⟩:=(h.2 z).mp hz;have ne:p≠q:=fun e=>by subst e;omega
 unfold dw;dsimp only
 split <;> split <;> omega
variable {N:aw}
theorem Rc(h:N.Pairwise xu)(nd:N.Nodup)(b:∀q∈N,0≤q.2∧q.2<1000):N.Pairwise lexLt:=by
 have:=List.Pairwise.and h nd;refine List.Pairwise.imp_of_mem (fun{x y} hx hy Rf=>?_) this;obtain ⟨h1,h2⟩:=Rf;have b1:=b x hx;have b2:=b y hy;obtain ⟨x1,x2⟩:=x;obtain ⟨y1,y2⟩:=y;unfold xu at h1;unfold lexLt;dsimp only at *;by_cases z:x1<y1;·exact .inl z
 ·right
  have e1:x1=y1:=by omega
  subst e1;refine ⟨rfl,?_⟩;by_cases y:x2=y2
  ·subst y
   exact absurd rfl h2
  ·omega
structure fU (n:Nat) (L:aw) (o:List Nat) (k j:Nat) (M:aw):Prop where
 mem:∀z,z∈M↔∃p q:Nat,p<n∧q<n∧o.idxOf p<o.idxOf q∧Wk (aL n L) (cX n o (o.idxOf p)) p q∧z=dw p q∧(o.idxOf p<k∨(o.idxOf p=k∧o.idxOf q<k+1+j))
 nd:M.Nodup
theorem fU.start(n:Nat)(L:aw)(o:List Nat):fU n L o 0 0 []:=⟨fun z=>⟨(fun h=>by cases h),fun⟨p,q,_,_,h,_,_,h'⟩=>by omega⟩,pD⟩
variable {j:Nat}
theorem fU.row(h:fU n L o k j M)(ho:o.Perm (List.range n))(hj:n≤k+1+j):fU n L o (k+1) 0 M:=⟨fun z=>by
 rw [h.mem];constructor
 ·rintro ⟨p,q,h1,h2,h3,h4,h5,h6⟩
  exact ⟨p,q,h1,h2,h3,h4,h5,.inl (by omega)⟩
 ·rintro ⟨p,q,h1,h2,h3,h4,h5,h6⟩
  have:=(oG ((fm ho).mpr h2)).1;rw [lT ho] at this;refine ⟨p,q,h1,h2,h3,h4,h5,?_⟩;by_cases e:o.idxOf p<k;·exact .inl e
  ·exact .inr ⟨by omega,by omega⟩,h.nd⟩
theorem fU.skip(h:fU n L o k j M)(ho:o.Perm (List.range n))(hp:p<n)(hq:q<n)(ip:o.idxOf p=k)(iq:o.idxOf q=k+1+j)(nw:¬Wk (aL n L) (cX n o k) p q):fU n L o k (j+1) M:=⟨fun z=>by
 rw [h.mem];constructor
 ·rintro ⟨p,q,h1,h2,h3,h4,h5,h6⟩
  exact ⟨p,q,h1,h2,h3,h4,h5,by omega⟩
 ·rintro ⟨p',q',h1,h2,h3,h4,h5,h6⟩
  refine ⟨p',q',h1,h2,h3,h4,h5,?_⟩;rcases h6 with h6 | ⟨h6,h7⟩;·exact .inl h6
  ·refine .inr ⟨h6,?_⟩
   by_cases e:o.idxOf q'=k+1+j
   ·have e1:p'=p:=by
     by_cases z:p'=p;·exact z
     ·exact absurd (h6.trans ip.symm) (jb ho h1 hp z)
    have e2:q'=q:=by
     by_cases z:q'=q;·exact z
     ·exact absurd (e.trans iq.symm) (jb ho h2 hq z)
    subst e1;subst e2;rw [ip] at h4;exact absurd h4 nw
   ·omega,h.nd⟩
theorem fU.put(h:fU n L o k j M)(ho:o.Perm (List.range n))(hp:p<n)(hq:q<n)(ip:o.idxOf p=k)(iq:o.idxOf q=k+1+j)(w:Wk (aL n L) (cX n o k) p q):fU n L o k (j+1) (M++[dw p q]):=by
 refine ⟨fun z=>?_,kT.mpr ⟨h.nd,by simp,fun a ha b hb e=>?_⟩⟩
 ·rw [dg,bY,h.mem]
  constructor
  ·rintro (⟨p,q,h1,h2,h3,h4,h5,h6⟩ | rfl)
   ·exact ⟨p,q,h1,h2,h3,h4,h5,by omega⟩
   ·exact ⟨p,q,hp,hq,by omega,by rw [ip];exact w,rfl,.inr ⟨ip,by omega⟩⟩
  ·rintro ⟨p',q',h1,h2,h3,h4,h5,h6⟩
   by_cases e:o.idxOf p'=k∧o.idxOf q'=k+1+j
   ·right
    have e1:p'=p:=by
     by_cases z:p'=p;·exact z
     ·exact absurd (e.1.trans ip.symm) (jb ho h1 hp z)
    have e2:q'=q:=by
     by_cases z:q'=q;·exact z
     ·exact absurd (e.2.trans iq.symm) (jb ho h2 hq z)
    rw [h5,e1,e2]
   ·exact .inl ⟨p',q',h1,h2,h3,h4,h5,by omega⟩
 ·subst e
  rw [bY] at hb;obtain ⟨p',q',h1,h2,h3,h4,h5,h6⟩:=(h.mem a).mp ha;rw [hb] at h5;rcases Ih h5 with ⟨rfl,rfl⟩ | ⟨rfl,rfl⟩;·omega
  ·omega
theorem fU.done(h:fU n L o n 0 M)(ho:o.Perm (List.range n))(p:N.Perm M)(so:N.Pairwise xu)(n1:n≤1000):eL n L o N:=by
 have mem:∀z,z∈N↔∃p q:Nat,p<n∧q<n∧o.idxOf p<o.idxOf q∧Wk (aL n L) (cX n o (o.idxOf p)) p q∧z=dw p q:=fun z=>by
  rw [p.mem_iff,h.mem];constructor
  ·rintro ⟨p,q,h1,h2,h3,h4,h5,h6⟩
   exact ⟨p,q,h1,h2,h3,h4,h5⟩
  ·rintro ⟨p,q,h1,h2,h3,h4,h5⟩
   have:=(oG ((fm ho).mpr h1)).1;rw [lT ho] at this;exact ⟨p,q,h1,h2,h3,h4,h5,.inl this⟩
 refine ⟨Rc so (p.nodup_iff.mpr h.nd) fun z hz=>?_,mem⟩;obtain ⟨p,q,h1,h2,_,_,rfl⟩:=(mem z).mp hz;have:=HW h1 h2;omega
theorem fU.bd(h:fU n L o k j M)(n1:n≤1000):∀z∈M,0≤z.2∧z.2<1000:=fun z hz=>by obtain ⟨p,q,h1,h2,_,_,rfl,_⟩:=(h.mem z).mp hz;have:=HW h1 h2;omega
theorem Rg(ho:o.Perm (List.range n))(nb:dP n L g)(bj:eX n L)(hk:k≤n)(ne:q≠p):kq (fu n g) (·∈o.take k) p q↔Wk (aL n L) (cX n o k) p q:=by
 have ad:∀a b,fu n g a b↔aL n L a b:=fun a b=>by
  unfold fu aL;constructor
  ·rintro ⟨h1,h2⟩
   have h3:=(nb a b h1).mp h2;refine ⟨h1,?_,h3⟩;rcases h3 with e | e
   ·have:=bj _ e
    omega
   ·have:=bj _ e
    omega
  ·rintro ⟨h1,_,h3⟩
   exact ⟨h1,(nb a b h1).mpr h3⟩
 have th:∀x,x∈o.take k↔cX n o k x:=fun x=>by
  unfold cX;have nd:=oF ho;constructor
  ·intro h
   obtain ⟨i,hi,e⟩:=vT.mp h;have aV:i<o.length:=by omega
   refine ⟨(fm ho).mp (List.mem_of_mem_take h),?_⟩;rw [←e,xr nd aV];omega
  ·rintro ⟨h1,h2⟩
   obtain ⟨cP,e⟩:=oG ((fm ho).mpr h1);rw [vT];exact ⟨o.idxOf x,by omega,e⟩
 rw [Ie];constructor
 ·rintro (e | h)
  ·exact absurd e ne
  ·exact (h.imp fun a b=>(ad a b).mp).mono fun x=>(th x).mp
 ·intro h
  exact .inr ((h.imp fun a b=>(ad a b).mpr).mono fun x=>(th x).mpr)
end My
namespace L2
open PySem PySem.Spec PyProof.Rows
section
variable {X:Cx} {a b:Expr} {rest:List Expr} {pos:Pos} {ta tb:TE}
def Rh:V→List V→Hp→VK→Prop:=fun x vs H Q=>∃(l:Addr) (zs:List Int) (j:Nat) (z:Int),x=.ref l∧vs=[.int z]∧H l=some (.lst (zs.map V.int))∧zs[j]?=some z∧(∀m,m<j→zs[m]?≠some z)∧Q .aN (upd H l (.lst ((zs.map V.int).eraseIdx j)))
theorem Ri:tH X "list.remove" Rh:=by
 intro pins s σ H x vs v us Q I rx rv h;obtain ⟨l,zs,j,z,rfl,rfl,hH,hj,Rj,q⟩:=h;cases rx;obtain ⟨u,rfl,ru⟩:=rv.one;obtain ⟨t,rfl⟩:=ru;obtain ⟨sz,ak,n,r,hl,e⟩:=I.lE hH;have Zn:j<zs.length:=(bM.mp hj).1;rw [aD] at hl sz;have at':∀m (hm:m<ak.toArray.size),∃t',ak.toArray[m]=.int (zs.getD m 0) t':=fun m hm=>by
  have eE:m<zs.length:=by simp at hm;omega
  obtain ⟨w,hw,i5⟩:=r.get (i:=m) (x:=.int (zs.getD m 0)) (by rw [bP,dB,bx eE];rfl)
  obtain ⟨t',rfl⟩:=i5;exact ⟨t',by simpa using (bM.mp hw).2⟩
 have zj:zs.getD j 0=z:=by rw [dB,hj];rfl
 refine nG F.slot_list_remove ⟨_,e,rfl⟩ F.entry_list_remove (F.args_list_remove_2 _ _) (MeetsSeq.list_remove l ak.toArray n (.int z t) (fun v=>numOf v == z) (fun y hy=>?_) j (by rw [bR];omega) ?_ (fun m hm Rk=>?_) (by rw [bR];omega)) ⟨e,?_⟩
 ·obtain ⟨m,hm,rfl⟩:=Array.getElem_of_mem hy
  obtain ⟨t',e'⟩:=at' m hm;rw [e'];exact MeetsSeq.EqGives.int _ _ _ _
 ·obtain ⟨t',e'⟩:=at' j (by rw [bR];omega)
  rw [e',zj];exact yr z
 ·obtain ⟨t',e'⟩:=at' m hm
  rw [e'];have eE:m<zs.length:=by simp at hm;omega
  have:=Rj m Rk;rw [bx eE] at this;have ne:zs.getD m 0≠z:=fun q=>this (by rw [←q,dB,bx eE];rfl)
  show (zs.getD m 0 == z)=false;simpa using ne
 ·refine ⟨.aN,_,I.tI (its':=ak.eraseIdx j) hH e ?_ (r.eraseIdx j) ?_,rfl,q⟩
  ·show ak.toArray.eraseIdxIfInBounds j=(ak.eraseIdx j).toArray
   rw [Bs]
  ·have:=B9 (zs.map V.int) j
   rw [aD] at this;omega
end
end L2
namespace My
open PySem L2
theorem Rm{X:Cx}{K:aH}(hu:X.A.units+64<cLine)(hk:X.K=K:=by rfl):cK X (compareOp .NotEq) (Hj K):=by subst hk;exact zK hu
theorem Ii:∀{zs:List Nat} {j m:Nat},m<zs.idxOf j→zs[m]?≠some j
 | [],_,_,h=>by simp at h
 | z::zs,j,m,h=>by
  by_cases e:z=j
  ·subst e
   simp [yF] at h
  ·rw [List.idxOf_cons,show (z == j)=false by simpa using e] at h
   dsimp only [cond_false] at h;cases m with
   | zero=>simpa using e
   | succ m=>rw [List.getElem?_cons_succ];exact Ii (by omega)
theorem Ij{α β:Type}(f:α→β):∀(l:List α) (i:Nat),(l.map f).eraseIdx i=(l.eraseIdx i).map f
 | [],_=>rfl
 | _::_,0=>rfl
 | x::l,i+1=>by show f x::(l.map f).eraseIdx i=f x::(l.eraseIdx i).map f;rw [Ij f l i]
theorem Rn(xs:List V)(k:Nat):iJ xs (some (k:Int)) none=xs.drop k:=by
 unfold iJ;rw [HT.F9,HT.F8];by_cases h:k≤xs.length
 ·rw [Nat.min_eq_left h]
  exact sM (by rw [vK];omega)
 ·rw [Nat.min_eq_right (by omega),List.drop_of_length_le (ax _),List.drop_of_length_le (by omega),List.take_nil]
end My
namespace L2
open PySem PySem.Spec PyProof.Rows
section
variable {prog:Program} {w:World} {A:Around} {E:aK} {s:Shared}
end
section
variable {prog:Program} {w:World} {A:Around} {E:aK} {s:Shared}
end
section
variable {X:Cx}
end
section
variable {prog:Program} {w:World} {A:Around} {E:aK} {s:Shared}
end
end L2
namespace My
open PySem L2
end My
namespace L2
open PySem PySem.Spec PyProof.Rows
end L2
namespace My
open PySem L2
end My
namespace L2
open PySem PySem.Spec PyProof.Rows
section
variable {X:Cx}
end
end L2
namespace My
open PySem L2
theorem Ik:∀{A B:List Nat},A.Pairwise (· < ·)→B.Pairwise (· < ·)→(∀p,p∈A↔p∈B)→A=B:=fun{A B} h1 h2 e=>by have nA:A.Nodup:=List.Pairwise.imp (fun h=>bL h) h1;have nB:B.Nodup:=List.Pairwise.imp (fun h=>bL h) h2;exact ((sW nA nB).mpr e).eq_of_pairwise (fun a b _ _ h h'=>by omega) h1 h2
theorem Ro{A B:List Nat}(p:A.Perm B)(nd:B.Nodup)(s:(A.map iN).Pairwise (·≤·)):A.Pairwise (· < ·):=by rw [pF] at s;refine List.Pairwise.imp₂ (fun a b h1 h2=>?_) s (p.nodup_iff.mpr nd);have h1:(a:Int)≤(b:Int):=h1;have h2:a≠b:=h2;omega
def p2(g:Nat→Nat→Nat):List Nat→Nat
 | []=>0
 | x::l=>(l.map (g x)).sum+p2 g l
def p3(f:Nat→Nat→Nat→Nat):List Nat→Nat
 | []=>0
 | x::l=>p2 (f x) l+p3 f l
variable {g:Nat→Nat→Nat} {l l':List Nat}
theorem Il(sy:∀x y,g x y=g y x)(p:l.Perm l'):p2 g l=p2 g l':=by
 induction p with
 | nil=>rfl
 | cons x p ih=>simp only [p2,ih];rw [(p.map (g x)).sum_nat]
 | swap x y l=>simp only [p2,di,eZ];rw [sy x y];omega
 | trans _ _ h1 h2=>exact h1.trans h2
theorem Rp{f:Nat→Nat→Nat→Nat}(s1:∀x y z,f x y z=f y x z)(s2:∀x y z,f x y z=f x z y)(p:l.Perm l'):p3 f l=p3 f l':=by
 induction p with
 | nil=>rfl
 | cons x p ih=>simp only [p3,ih];rw [Il (s2 x) p]
 | swap x y l=>simp only [p3,p2];rw [show l.map (f y x)=l.map (f x y) from iF fun z _=>s1 y x z];omega
 | trans _ _ h1 h2=>exact h1.trans h2
variable {f:Nat→Nat}
theorem lZ{g:Nat→Nat}(h:∀x∈l,f x=g x):(l.map f).sum=(l.map g).sum:=d8 List.sum (iF h)
theorem xw(h:∀x∈l,f x=0):(l.map f).sum=0:=by
 induction l with
 | nil=>rfl
 | cons x l ih=>rw [di,eZ,h x dy,ih fun y hy=>h y (cw _ hy)]
theorem Rq{g:Nat→Nat}(h:∀x∈l,f x≤g x):(l.map f).sum≤(l.map g).sum:=by
 induction l with
 | nil=>exact ax _
 | cons x l ih=>rw [di,eZ,di,eZ];have:=h x dy;have:=ih fun y hy=>h y (cw _ hy);omega
theorem Rr{g:Nat→Nat}:(l.map fun x=>f x+g x).sum=(l.map f).sum+(l.map g).sum:=by
 induction l with
 | nil=>rfl
 | cons x l ih=>simp only [di,eZ,ih];omega
variable {b c:Nat}
theorem Rt(nd:l.Nodup)(hb:b∈l):(l.map fun y=>if y=b then c else 0).sum=c:=by
 induction l with
 | nil=>cases hb
 | cons x l ih=>
  rw [di,eZ];obtain ⟨n1,n2⟩:=jj.mp nd;rcases cf.mp hb with rfl | h
  ·rw [ae rfl,xw fun y hy=>aa (fun e:y=b=>n1 (e▸hy))]
   omega
  ·rw [aa (fun e:x=b=>n1 (e▸h)),ih n2 h]
   omega
variable {g':Nat→Nat→Nat}
theorem Dl(nd:l.Nodup)(h:∀x∈l,∀y∈l,x≠y→g x y=g' x y):p2 g l=p2 g' l:=by
 induction l with
 | nil=>rfl
 | cons x l ih=>obtain ⟨n1,n2⟩:=jj.mp nd;show (l.map (g x)).sum+p2 g l=(l.map (g' x)).sum+p2 g' l;rw [lZ fun y hy=>h x dy y (cw _ hy) fun e=>n1 (e▸hy),ih n2 fun a ha b hb=>h a (cw _ ha) b (cw _ hb)]
theorem Dm(h:∀x∈l,∀y∈l,g x y≤g' x y):p2 g l≤p2 g' l:=by
 induction l with
 | nil=>exact ax _
 | cons x l ih=>show (l.map (g x)).sum+p2 g l≤(l.map (g' x)).sum+p2 g' l;exact Nat.add_le_add (Rq fun y hy=>h x dy y (cw _ hy)) (ih fun a ha b hb=>h a (cw _ ha) b (cw _ hb))
theorem Ru{f f':Nat→Nat→Nat→Nat}(h:∀x∈l,∀y∈l,∀z∈l,f x y z≤f' x y z):p3 f l≤p3 f' l:=by
 induction l with
 | nil=>exact ax _
 | cons x l ih=>show p2 (f x) l+p3 f l≤p2 (f' x) l+p3 f' l;exact Nat.add_le_add (Dm fun y hy z hz=>h x dy y (cw _ hy) z (cw _ hz)) (ih fun a ha b hb c hc=>h a (cw _ ha) b (cw _ hb) c (cw _ hc))
theorem Rv:p2 (fun x y=>g x y+g' x y) l=p2 g l+p2 g' l:=by
 induction l with
 | nil=>rfl
 | cons x l ih=>simp only [p2,ih,Rr];omega
theorem Im(h:∀x∈l,∀y,g x y=0):p2 g l=0:=by
 induction l with
 | nil=>rfl
 | cons x l ih=>show (l.map (g x)).sum+p2 g l=0;rw [xw fun y _=>h x dy y,ih fun a ha=>h a (cw _ ha)]
variable {a:Nat}
theorem Rw(pw:l.Pairwise (· < ·))(ha:a∈l)(hb:b∈l)(ab:a<b):p2 (fun i j=>if i=a∧j=b then c else 0) l=c:=by
 induction l with
 | nil=>cases ha
 | cons x l ih=>
  obtain ⟨n1,n2⟩:=mj.mp pw;have nd:l.Nodup:=n2.imp fun h=>bL h;show (l.map fun j=>if x=a∧j=b then c else 0).sum+p2 _ l=c
  rcases cf.mp ha with rfl | h
  ·have fP:b∈l:=by
    rcases cf.mp hb with rfl | h;·omega
    ·exact h
   rw [show (l.map fun j=>if a=a∧j=b then c else 0).sum=(l.map fun y=>if y=b then c else 0).sum from lZ fun y _=>by simp,Rt nd fP,Im fun i hi j=>aa fun e=>by have:=n1 i hi;omega]
   omega
  ·have xa:=n1 a h
   have fP:b∈l:=by
    rcases cf.mp hb with rfl | h;·omega
    ·exact h
   rw [xw fun y _=>aa fun e=>by omega,ih n2 h fP]
   omega
theorem xx(pw:l.Pairwise (· < ·)):p2 g l=(l.map fun y=>(l.map fun z=>if y<z then g y z else 0).sum).sum:=by
 induction l with
 | nil=>rfl
 | cons x l ih=>
  obtain ⟨n1,n2⟩:=mj.mp pw;show (l.map (g x)).sum+p2 g l=_;rw [di,eZ,di,eZ,aa (dG x),ih n2];rw [show (l.map fun z=>if x<z then g x z else 0).sum=(l.map (g x)).sum from lZ fun z hz=>ae (n1 z hz)]
  rw [show (l.map fun y=>((x::l).map fun z=>if y<z then g y z else 0).sum).sum=(l.map fun y=>(l.map fun z=>if y<z then g y z else 0).sum).sum from lZ fun y hy=>by
   rw [di,eZ,aa (by have:=n1 y hy;omega)]
   omega]
  omega
theorem Rx{f:Nat→Nat→Nat→Nat}(pw:l.Pairwise (· < ·)):p3 f l=p2 (fun x y=>(l.map fun z=>if y<z then f x y z else 0).sum) l:=by
 induction l with
 | nil=>rfl
 | cons x l ih=>
  obtain ⟨n1,n2⟩:=mj.mp pw;have nd:l.Nodup:=n2.imp fun h=>bL h;have one:∀u,∀y∈l,((x::l).map fun z=>if y<z then f u y z else 0).sum=(l.map fun z=>if y<z then f u y z else 0).sum:=fun u y hy=>by
   rw [di,eZ,aa (by have:=n1 y hy;omega)]
   omega
  show p2 (f x) l+p3 f l=(l.map fun y=>((x::l).map fun z=>if y<z then f x y z else 0).sum).sum+p2 (fun u y=>((x::l).map fun z=>if y<z then f u y z else 0).sum) l
  rw [ih n2,xx n2,lZ (one x),Dl nd fun u _ y hy _=>one u y hy]
theorem oJ(n:Nat):(List.range n).Pairwise (· < ·):=yy
theorem Dn{n:Nat}{W:Nat→Nat→Nat}:∀{M:aw},M.Nodup→(∀z∈M,0≤z.1∧z.1<z.2∧z.2<(n:Int))→(M.map fun z=>W z.1.toNat z.2.toNat).sum=p2 (fun i j=>if ((i:Int),(j:Int))∈M then W i j else 0) (List.range n)
 | [],_,_=>by rw [Im fun i _ j=>aa fun h=>nomatch h];rfl
 | z::M,nd,lt=>by
  obtain ⟨n1,n2⟩:=jj.mp nd;obtain ⟨z0,z1,z2⟩:=lt z dy;rw [di,eZ,Dn n2 fun y hy=>lt y (cw _ hy)];have d:=Rw (c:=W z.1.toNat z.2.toNat) (oJ n) (a:=z.1.toNat) (b:=z.2.toNat) (b7.mpr (by omega)) (b7.mpr (by omega)) (by omega)
  rw [←d,←Rv];refine Dl jm fun i _ j _ _=>?_;by_cases e:i=z.1.toNat∧j=z.2.toNat
  ·have ez:((i:Int),(j:Int))=z:=by obtain ⟨e1,e2⟩:=e;subst e1;subst e2;rw [Int.toNat_of_nonneg z0,Int.toNat_of_nonneg (by omega)]
   obtain ⟨e1,e2⟩:=e;have hm:((i:Int),(j:Int))∈z::M:=ez.symm▸dy;have hn:¬((i:Int),(j:Int))∈M:=fun h=>n1 (ez▸h);rw [ae ⟨e1,e2⟩,ae hm,aa hn,←e1,←e2,vQ]
  ·rw [aa e]
   have:((i:Int),(j:Int))≠z:=fun h=>e (by subst h;exact ⟨(cZ i).symm,(cZ j).symm⟩)
   by_cases h:((i:Int),(j:Int))∈M
   ·rw [ae h,ae (cw _ h)]
    omega
   ·rw [aa h,aa fun h'=>(cf.mp h').elim this h]
def rL(M:aw)(a b:Nat):Bool:=decide (((a:Int),(b:Int))∈M) || decide (((b:Int),(a:Int))∈M)
variable {M:aw}
theorem jK:rL M a b=true↔((a:Int),(b:Int))∈M∨((b:Int),(a:Int))∈M:=by unfold rL;rw [Bool.or_eq_true,eY,eY]
theorem t6(M:aw)(a b:Nat):rL M a b=rL M b a:=Bool.or_comm ..
def ku(r:Nat→Nat→Bool)(x y:Nat):Nat:=if r x y then 1 else 0
def iA(r:Nat→Nat→Bool)(x y z:Nat):Nat:=if r x y && r x z && r y z then 1 else 0
def l6(n:Nat)(M:aw):Nat:=p3 (iA (rL M)) (List.range n)
def gP(n:Nat)(M:aw):Nat:=4*M.length+2*l6 n M+n
variable {n:Nat}
theorem zO(nd:M.Nodup)(lt:∀z∈M,0≤z.1∧z.1<z.2∧z.2<(n:Int)):M.length=p2 (ku (rL M)) (List.range n):=by
 have:=Dn (W:=fun _ _=>1) nd lt;rw [show (M.map fun z=>(fun _ _=>1:Nat→Nat→Nat) z.1.toNat z.2.toNat).sum=M.length from by
  clear this nd lt
  induction M with
  | nil=>rfl
  | cons z M ih=>rw [di,eZ,ih,eB];exact Nat.add_comm 1 _] at this
 rw [this,xx (oJ n),xx (oJ n)];refine lZ fun i _=>lZ fun j _=>?_;by_cases ij:i<j
 ·rw [ae ij,ae ij]
  unfold ku;by_cases h:((i:Int),(j:Int))∈M;·rw [ae h,ae (jK.mpr (.inl h))]
  ·rw [aa h,aa fun h'=>by
    rcases jK.mp h' with h' | h';·exact h h'
    ·have:=lt _ h'
     omega]
 ·rw [aa ij,aa ij]
theorem Ry(nd:M.Nodup)(lt:∀z∈M,0≤z.1∧z.1<z.2∧z.2<(n:Int)) :
  (M.map fun z=>((List.range n).filter fun k=>decide (z.2.toNat<k) && rL M z.1.toNat k && rL M z.2.toNat k).length).sum=l6 n M:=by
 have:=Dn (n:=n) (W:=fun i j=>((List.range n).filter fun k=>decide (j<k) && rL M i k && rL M j k).length) nd lt;rw [this];unfold l6;rw [Rx (oJ n),xx (oJ n),xx (oJ n)];refine lZ fun i _=>lZ fun j _=>?_;by_cases ij:i<j
 ·rw [ae ij,ae ij]
  have fl:∀(l:List Nat) (c:Nat→Bool),(l.filter c).length=(l.map fun k=>if c k then 1 else 0).sum:=fun l c=>by
   induction l with
   | nil=>rfl
   | cons x l ih=>
    rw [nR,di,eZ];by_cases h:c x;·rw [ae h,ae h,eB,ih];omega
    ·rw [aa h,aa h,ih];omega
  by_cases h:((i:Int),(j:Int))∈M
  ·rw [ae h,fl]
   refine lZ fun k _=>?_;unfold iA;by_cases jk:j<k;·rw [ae jk,bQ jk,jK.mpr (.inl h)]
   ·rw [aa jk,bW jk]
    rfl
  ·rw [aa h,xw fun k _=>?_]
   by_cases jk:j<k
   ·rw [ae jk]
    unfold iA;rw [aa fun h'=>?_];rw [kK,kK] at h';rcases jK.mp h'.1.1 with h' | h';·exact h h'
    ·have:=lt _ h'
     omega
   ·rw [aa jk]
 ·rw [aa ij,aa ij]
theorem Rz(M:aw)(x y z:Nat):iA (rL M) x y z=iA (rL M) y x z:=by unfold iA;rw [t6 M y x];cases rL M x y <;> cases rL M x z <;> cases rL M y z <;> rfl
theorem RA(M:aw)(x y z:Nat):iA (rL M) x y z=iA (rL M) x z y:=by unfold iA;rw [t6 M z y];cases rL M x y <;> cases rL M x z <;> cases rL M y z <;> rfl
theorem Io(a:Nat→Bool):∀l:List Nat,2*p2 (fun y z=>if a y && a z then 1 else 0) l+(l.map fun y=>if a y then 1 else 0).sum=(l.map fun y=>if a y then 1 else 0).sum*(l.map fun y=>if a y then 1 else 0).sum
 | []=>rfl
 | x::l=>by
  have ih:=Io a l;simp only [p2,di,eZ];by_cases h:a x
  ·simp only [h,sX,jS]
   simp only [Nat.add_mul,Nat.mul_add];omega
  ·simp only [h,vG,yv,if_false]
   rw [xw fun _ _=>rfl,d9,d9];exact ih
def Good(r:Nat→Nat→Bool)(m:Nat→Nat):List Nat→Prop
 | []=>True
 | x::l=>m x=(l.map fun y=>if r x y then 1 else 0).sum∧(∀y∈l,∀z∈l,y≠z→r x y=true→r x z=true→r y z=true)∧Good r m l
theorem Ip{r:Nat→Nat→Bool}{m:Nat→Nat}:∀{l:List Nat},l.Nodup→Good r m l→(l.map fun x=>m x*m x+3*m x+1).sum=4*p2 (ku r) l+2*p3 (iA r) l+l.length
 | [],_,_=>rfl
 | x::l,nd,⟨h1,h2,h3⟩=>by
  obtain ⟨n1,n2⟩:=jj.mp nd;have ih:=Ip n2 h3;have e:p2 (iA r x) l=p2 (fun y z=>if r x y && r x z then 1 else 0) l:=Dl n2 fun y hy z hz yz=>by
   unfold iA;by_cases a:r x y <;> by_cases b:r x z;·simp [a,b,h2 y hy z hz yz a b]
   ·simp [a,b]
   ·simp [a,b]
   ·simp [a,b]
  have e2:(l.map (ku r x)).sum=m x:=h1.symm;have pk:=Io (r x) l;rw [←h1] at pk;show m x*m x+3*m x+1+(l.map fun x=>m x*m x+3*m x+1).sum=4*((l.map (ku r x)).sum+p2 (ku r) l)+2*(p2 (iA r x) l+p3 (iA r) l)+(l.length+1);rw [ih,e2,e];omega
variable {L:aw} {o:List Nat}
theorem RB(f:eL n L o M)(h:aL n M a b){k:Nat}(hk:o.idxOf a≤k∨o.idxOf b≤k):Wk (aL n L) (cX n o k) a b:=by
 have go:∀{a b:Nat},((a:Int),(b:Int))∈M→(o.idxOf a≤k∨o.idxOf b≤k)→Wk (aL n L) (cX n o k) a b:=fun{a b} hm hk=>by
  obtain ⟨p,q,hp,hq,pq,w,e⟩:=(f.2 _).mp hm;have e:dw a b=dw p q:=by rw [←e];have:=f.lt _ hm;unfold dw;rw [aa (by omega),ae (by omega)]
  rcases Ih e with ⟨rfl,rfl⟩ | ⟨rfl,rfl⟩;·exact w.mono fun x hx=>⟨hx.1,by have:=hx.2;omega⟩
  ·exact (w.symm lY).mono fun x hx=>⟨hx.1,by have:=hx.2;omega⟩
 rcases h.2.2 with h | h;·exact go h hk
 ·exact (go h hk.symm).symm lY
theorem l7(f:eL n L o M)(ha:a<n)(hb:b<n)(ab:o.idxOf a<o.idxOf b):rL M a b=true↔Wk (aL n L) (cX n o (o.idxOf a)) a b:=by
 constructor
 ·intro h
  exact RB f ⟨ha,hb,jK.mp h⟩ (.inl (ax _))
 ·intro w
  have hm:=(f.2 _).mpr ⟨a,b,ha,hb,ab,w,rfl⟩;rw [jK];unfold dw at hm;by_cases h:(b:Int)<(a:Int)
  ·rw [ae h,aa (by omega)] at hm
   exact .inr hm
  ·by_cases h':(b:Int)>(a:Int)
   ·rw [aa h,ae h'] at hm
    exact .inl hm
   ·have e:a=b:=by omega
    subst e;omega
theorem RC(l:List Nat)(c:Nat→Bool):(l.map fun k=>if c k then 1 else 0).sum=(l.filter c).length:=by
 induction l with
 | nil=>rfl
 | cons x l ih=>
  rw [nR,di,eZ];by_cases h:c x;·rw [ae h,ae h,eB,ih];omega
  ·rw [aa h,aa h,ih];omega
theorem Iq{n:Nat}{L M:aw}{o:List Nat}(ho:o.Perm (List.range n))(f:eL n L o M){g:Nat→List Nat}(hg:∀p,p<n→jI n o p (g p)∧kr n L o p (g p)):∀(l pre:List Nat),o=pre++l→Good (rL M) (fun x=>(g x).length) l
 | [],_,_=>trivial
 | x::l,pre,e=>by
  have nd:=oF ho;have Ir:=nd;rw [e,kT] at Ir;obtain ⟨np,nx,dj⟩:=Ir;obtain ⟨RD,nl⟩:=jj.mp nx;have hx:x<n:=(fm ho).mp (by rw [e];simp)
  have ix:o.idxOf x=pre.length:=by rw [e,nS,aa fun h=>dj x h x dy rfl,yF,d9]
  have il:∀y,y∈l↔y<n∧o.idxOf x<o.idxOf y:=fun y=>by
   constructor
   ·intro h
    refine ⟨(fm ho).mp (by rw [e];simp [h]),?_⟩
    have yx:y≠x:=fun q=>RD (q▸h);rw [ix,e,nS,aa fun h'=>dj y h' y (cw _ h) rfl,List.idxOf_cons,show (x == y)=false from by simpa using yx.symm]
    simp only [cond_false];omega
   ·rintro ⟨h,h'⟩
    have hm:=(fm ho).mpr h;rw [e,dg,cf] at hm;rcases hm with hm | rfl | hm
    ·rw [ix,e,nS,ae hm] at h'
     have:=mr hm;omega
    ·omega
    ·exact hm
  refine ⟨?_,?_,Iq ho f hg l (pre++[x]) (by rw [e];simp)⟩
  ·rw [RC]
   obtain ⟨gk,gw⟩:=hg x hx;refine ((sW (gk.up.imp fun h=>bL h) (nl.filter _)).mpr fun q=>?_).length_eq;rw [gw q,cu,il q];constructor
   ·rintro ⟨h1,h2,h3⟩
    exact ⟨⟨h1,h2⟩,(l7 f hx h1 h2).mpr h3⟩
   ·rintro ⟨⟨h1,h2⟩,h3⟩
    exact ⟨h1,h2,(l7 f hx h1 h2).mp h3⟩
  ·intro y hy z hz yz ry rz
   obtain ⟨y1,y2⟩:=(il y).mp hy;obtain ⟨z1,z2⟩:=(il z).mp hz;have wy:=(l7 f hx y1 y2).mp ry;have wz:=(l7 f hx z1 z2).mp rz;have ne:=jb ho y1 z1 yz;have both:∀k,o.idxOf x<k→Wk (aL n L) (cX n o k) y z:=fun k hk=>by
    have m:∀t,cX n o (o.idxOf x) t→cX n o k t:=fun t ht=>⟨ht.1,by have:=ht.2;omega⟩
    exact ((wy.symm lY).mono m).trans ⟨hx,hk⟩ (wz.mono m)
   by_cases h:o.idxOf y<o.idxOf z;·exact (l7 f y1 z1 h).mpr (both _ y2)
   ·rw [t6]
    exact (l7 f z1 y1 (by omega)).mpr ((both _ z2).symm lY)
theorem Iu(ho:o.Perm (List.range n))(f:eL n L o M){g:Nat→List Nat}(hg:∀p,p<n→jI n o p (g p)∧kr n L o p (g p)) :
  ((List.range n).map fun x=>(g x).length*(g x).length+3*(g x).length+1).sum=gP n M:=by
 have nd:M.Nodup:=f.1.imp fun h e=>by subst e;unfold lexLt at h;omega
 have gs:=Ip (oF ho) (Iq ho f hg o [] rfl);rw [←(ho.map fun x=>(g x).length*(g x).length+3*(g x).length+1).sum_nat,gs];unfold gP l6;rw [zO nd f.lt,Il (fun x y=>by unfold ku;rw [t6]) ho,Rp (Rz M) (RA M) ho,ho.length_eq,dt]
theorem RE(ho:o.Perm (List.range n))(f:eL n L o M)(nl:L.Nodup)(lt:∀z∈L,0≤z.1∧z.1<z.2∧z.2<(n:Int)):gP n L≤gP n M:=by
 have nd:M.Nodup:=f.1.imp fun h e=>by subst e;unfold lexLt at h;omega
 have sub:∀a b:Nat,rL L a b=true→rL M a b=true:=by
  have go:∀a b:Nat,((a:Int),(b:Int))∈L→rL M a b=true:=fun a b h=>by
   have:=lt _ h;have ha:a<n:=by omega
   have hb:b<n:=by omega
   have ne:=jb ho ha hb (by omega)
   by_cases ab:o.idxOf a<o.idxOf b;·exact (l7 f ha hb ab).mpr (.one ⟨ha,hb,.inl h⟩)
   ·rw [t6]
    exact (l7 f hb ha (by omega)).mpr (.one ⟨hb,ha,.inr h⟩)
  intro a b h;rcases jK.mp h with h | h;·exact go a b h
  ·rw [t6]
   exact go b a h
 have h1:p2 (ku (rL L)) (List.range n)≤p2 (ku (rL M)) (List.range n):=Dm fun x _ y _=>by
  unfold ku;by_cases h:rL L x y
  ·rw [ae h,ae (sub x y h)]
   exact ax _
  ·rw [aa h]
   exact ba _
 have h2:l6 n L≤l6 n M:=Ru fun x _ y _ z _=>by
  unfold iA;by_cases h:(rL L x y && rL L x z && rL L y z)=true
  ·rw [ae h]
   rw [kK,kK] at h;rw [sub x y h.1.1,sub x z h.1.2,sub y z h.2];exact ax _
  ·rw [aa h]
   exact ba _
 unfold gP;rw [zO nl lt,zO nd f.lt];omega
def RF(N:Addr):Sp:=fun vs H Q E=>∃(t a:Addr) (n:Nat) (L:aw) (zs:List Int),vs=[.ref t,.ref a]∧dO H t n L∧eX n L∧qD L∧n≤30∧H a=some (.lst (zs.map V.int))∧zs.length<64 ∧
 (¬lR zs n→∀H',aj H H'→E (.ref N) none H') ∧
 ∀o:List Nat,zs=o.map iN→o.Perm (List.range n)→∀(H':Hp),aj H H'→∀d:Nat,(∀M,eL n L o M→d=gP n M)→Q (.int (d:Int)) H'
def RG:Sp:=fun vs H Q _=>∃(t:Addr) (n:Nat) (L:aw),vs=[.ref t]∧dO H t n L∧eX n L∧n≤60∧L.length≤500 ∧
 ∀(H':Hp) (D:Addr) (rs:Nat→Addr) (g:Nat→List Nat),aj H H'→H D=none→(∀i,i<n→H (rs i)=none)→jc H' D n rs g→dP n L g→(∀i,(g i).length≤2*L.length)→((∀p∈L,p.1<p.2)→L.Nodup→∀i,(g i).Nodup)→Q (.ref D) H'
def RH:Sp:=fun vs H Q _=>∃(t:Addr) (n:Nat) (L:aw),vs=[.ref t]∧dO H t n L∧L.Nodup∧(∀z∈L,0≤z.1∧z.1<z.2∧z.2<(n:Int))∧n≤30∧L.length≤500 ∧
 ∀H':Hp,aj H H'→Q (.int (l6 n L:Int)) H'
end My
namespace L2
open PySem
section
variable {prog:Program} {w:World} {A:Around} {E:aK} {s:Shared}
def Dp(h:Heap)(d:Addr)(es:Array DictEntry)(ep:Nat):Prop:=∃o,h.get? d=some o∧o.ExactDict∧o.data=.dict es ep
theorem Dp.ty{d:Addr}{es:Array DictEntry}{ep:Nat}(h:Dp s.heap d es ep):s.TypeIs (.ref d) "dict":=let ⟨o,ho,hc,_⟩:=h;⟨o,ho,hc.1⟩
end
end L2
namespace My
open PySem L2
variable {L:aw}
theorem RI(nd:L.Nodup){k:Nat}(hk:k<L.length)(h:L[k]∈L.take k):False:=by
 obtain ⟨i,hi,e⟩:=vT.mp h;have:=(By.mp nd);have RJ:i<k:=by omega
 exact mh.mp this i k (by omega) hk RJ e
variable {g:Nat→List Nat} {i j:Nat}
theorem Iv(h:∀a,(g a).Nodup)(hj:j∉g i)(a:Nat):(iz g i j a).Nodup:=by
 unfold iz d5;by_cases e:a=i
 ·subst e
  simp only [jS];rw [kT];refine ⟨h a,by simp,fun x hx y hy e=>?_⟩
  rw [bY] at hy;subst hy;subst e;exact hj hx
 ·simp only [e,if_false]
  exact h a
theorem RK{n:Nat}(h:∀a,(g a).Nodup)(nb:dP n L g)(hi:i<n)(hj:j<n)(ij:i≠j)(h1:((i:Int),(j:Int))∉L)(h2:((j:Int),(i:Int))∉L)(a:Nat):(iz (iz g i j) j i a).Nodup:=by
 refine Iv (Iv h fun hm=>?_) (fun hm=>?_) a
 ·rcases (nb i j hi).mp hm with h | h
  ·exact h1 h
  ·exact h2 h
 ·have e:iz g i j j=g j:=by unfold iz d5;simp only [Ne.symm ij,if_false]
  rw [e] at hm;rcases (nb j i hj).mp hm with h | h;·exact h2 h
  ·exact h1 h
end My
namespace L2
open PySem PySem.Spec PyProof.Rows My
theorem zP{wi:TI}{ρ:St→St}{tt:TT}{te:TE}{σ:St}{H:Hp}{Q:VK}{xs:List V}(c:V→Bool)(d6:∀R:It→Hp→Prop,(∀J H1,aj H H1→j8 J xs H1→R J H1)→wi σ H R)(hn:xs.length<sizeLine)
  (test:∀x∈xs,∀(Hc:Hp) (R:Bool→Hp→Prop),aj H Hc→R (c x) Hc→tt (some x::ρ σ) Hc R)
  (elem:∀(x:V) (Hc:Hp) (R:VK),R x Hc→te (some x::ρ σ) Hc R)
  (fin:∀D Hc,H D=none→aj H Hc→Hc D=some (.lst (xs.filter c))→Q (.ref D) Hc):gD wi ρ tt te σ H Q:=by
 refine d6 _ fun J H1 s1 js=>?_;intro D nD;refine ⟨fun i m ys Hc=>m=xs.length-i∧i≤xs.length∧Hc D=some (.lst ys)∧aj H1 Hc∧ys.length≤i∧ys=(xs.take i).filter c,⟨_,rfl,ba _,au,d7 (aj.refl H1) nD,ax _,rfl⟩,?_⟩;rintro i m ys Hc ⟨rfl,hi,eD,sH,ly,hP⟩;refine ⟨eD,?_⟩;by_cases aU:i<xs.length
 ·refine .inr ⟨js.go i Hc sH aU,fun x H' hy=>?_⟩
  obtain ⟨rfl,hx⟩:=js.dW i Hc x H' sH hy;have ex:=hx aU;have mx:x∈xs:=iX ex;have tk:xs.take (i+1)=xs.take i++[x]:=by rw [jo,ex];rfl
  refine test x mx _ _ (s1.trans sH) ?_;by_cases hb:c x=true
  ·rw [ae hb]
   refine elem x _ _ ⟨eD,by omega,xs.length-(i+1),by omega,rfl,aU,au,d7 sH nD,by simp;omega,?_⟩
   rw [tk,pE,←hP,nR,ae hb];rfl
  ·rw [aa hb]
   refine ⟨xs.length-(i+1),by omega,rfl,aU,eD,sH,by omega,?_⟩
   rw [tk,pE,←hP,nR,aa hb,List.filter_nil,o8]
 ·have e:i=xs.length:=by omega
  subst e;rw [gp] at hP;subst hP;exact .inl ⟨js.stop _ Hc sH (ax _),fin D Hc (none_of s1 nD) (s1.trans sH) eD⟩
end L2
namespace My
open PySem L2
def zQ(n:Nat)(L:aw)(z:Int×Int):Nat:=((List.range n).filter fun k=>decide (z.2.toNat<k) && rL L z.1.toNat k && rL L z.2.toNat k).length
def zR(j:Nat)(m:List Nat):V→Bool
 | .int z=>decide ((j:Int)<z) && decide (z.toNat∈m)
 | _=>false
variable {n:Nat} {L:aw}
theorem RL{g:Nat→List Nat}(nb:dP n L g)(gn:∀a,(g a).Nodup){i j:Nat}(hi:i<n)(hj:j<n)(gl:∀k∈g i,k<n):zQ n L ((i:Int),(j:Int))=(((g i).map fun k:Nat=>V.int (k:Int)).filter (zR j (g j))).length:=by
 rw [yE,aD];unfold zQ;refine ((sW (jm.filter _) ((gn i).filter _)).mpr fun k=>?_).length_eq;rw [cu,cu,b7];show (k<n∧(decide (((j:Nat):Int).toNat<k) && rL L ((i:Nat):Int).toNat k && rL L ((j:Nat):Int).toNat k)=true)↔k∈g i∧(decide ((j:Int)<(k:Int)) && decide (((k:Nat):Int).toNat∈g j))=true;rw [cZ,cZ,cZ,kK,kK,kK,eY,eY,eY,jK,jK,nb i k hi,nb j k hj];constructor
 ·rintro ⟨h1,⟨h2,h3⟩,h4⟩
  exact ⟨h3,by omega,h4⟩
 ·rintro ⟨h1,h2,h3⟩
  exact ⟨gl k ((nb i k hi).mpr h1),⟨by omega,h1⟩,h3⟩
section
variable {P a d:Addr} {H Hc:Hp} {n m:Nat} {L:aw}
end
def RM:Sp:=fun vs H Q _=>∃(t a:Addr) (n:Nat) (L:aw) (o:List Nat),vs=[.ref t,.ref a]∧dO H t n L∧eX n L∧n≤30∧L.length≤500∧H a=some (.lst (o.map fun k:Nat=>V.int (k:Int)))∧o.Perm (List.range n) ∧
 ∀(H':Hp) (t':Addr) (M:aw),aj H H'→dO H' t' n M→eL n L o M→Q (.ref t') H'
variable {M:aw} {o:List Nat}
theorem Iw(f:eL n L o M):M.Nodup:=f.1.imp fun h e=>by subst e;unfold lexLt at h;omega
theorem RN(f:eL n L o M)(qF:n≤30):M.length≤435:=by
 rw [zO (Iw f) f.lt];refine a9 (Dm (g':=fun _ _=>1) fun x _ y _=>?_) ?_
 ·unfold ku
  split <;> decide
 ·have:∀m:Fin 31,p2 (fun _ _=>1) (List.range m)≤435:=by decide +kernel
  exact this ⟨n,by omega⟩
section
variable {n:Nat} {E:Nat→Nat→Prop} {pos rk:Nat→Nat}
def xy(n:Nat)(E:Nat→Nat→Prop)(pos:Nat→Nat):Prop:=∀a b c,a<n→b<n→c<n→pos a<pos b→pos a<pos c→b≠c→E a b→E a c→E b c
end
open PySem PySem.W PyProof.Rows Tm
section
variable {prog:Program} {w:World} {A:Around} {E:aK} {s:Shared}
def Dq(k:Keyed):Int:=match k.1 with | .int n _=>n | _=>0
structure oK (n:Nat) (kz:Nat→Int) (p:List Nat):Prop where
 pm:p.Perm (List.range n)
 dn:p.Pairwise fun i j=>kz j≤kz i
variable {vs:List Value}
theorem RO{ns:List Int}(h:IntsAre vs ns):∀(i:Nat) (z:Int),ns[i]?=some z→∃t,vs[i]?=some (.int z t):=by
 induction h with
 | nil=>intro i z hz;cases hz
 | cons _ _ _ ih=>
  intro i z hz;cases i with
  | zero=>cases hz;exact ⟨_,rfl⟩
  | succ i=>exact ih i z hz
variable {kz:Nat→Int}
theorem RP{keys:Array Value}(hk:IntsAre keys.toList ((List.range vs.length).map kz)){Q:SortSt→Shared→Prop}
  (hQ:∀(p:List Nat) (st:SortSt),oK vs.length kz p→((arrOf st).map (·.2)).reverse.toList=p.map (fun i=>vs.getD i Value.none)→failedOf st=none→Q st s) :
  wpAny (model prog w) A (sortRuns'.run (SortSt.mk' oneType' (keys.zip vs.toArray).reverse #[] 7 none)) (fun r s'=>Q r.2 s') E s:=by
 have hl:=hk.length;rw [eA,aD,dt] at hl;have ki:∀i,i<vs.length→∃t,keys.toList.getD i Value.none=.int (kz i) t:=fun i hi=>by
  obtain ⟨t,e⟩:=RO hk i (kz i) (by rw [bP,o_ hi];rfl)
  exact ⟨t,by rw [dB,e];rfl⟩
 have el:(keys.zip vs.toArray).toList=(List.range vs.length).map fun i=>(keys.toList.getD i Value.none,vs.getD i Value.none):=by
  refine gY (by simp [hl]) fun i h1 h2=>?_
  have hi:i<vs.length:=by simpa using h2
  have aV:i<keys.size:=by omega
  simp [hi,aV]
 have er:(keys.zip vs.toArray).reverse.toList=((List.range vs.length).reverse).map fun i=>(keys.toList.getD i Value.none,vs.getD i Value.none):=by rw [sO,el,List.map_reverse]
 have az:(keys.zip vs.toArray).reverse.size=vs.length:=by simp [hl]
 have lt:i7 prog w A s oneType' Dq (fun k=>∃n t,k.1=.int n t):=by rintro ⟨u,u'⟩ ⟨v,v'⟩ ⟨a,t,rfl⟩ ⟨b,t',rfl⟩ C hC;exact kat_lt_int hC
 have ok:fj (fun k=>∃n t,k.1=.int n t) (keys.zip vs.toArray).reverse:=fun i hi=>by
  have e1:(keys.zip vs.toArray).reverse.getD i nn=(keys.zip vs.toArray).reverse.toList[i]'(by rw [eA];exact hi):=by rw [Array.getD_eq_getD_getElem?,Array.getElem?_eq_getElem hi];simp
  have e2:=d8 (fun l=>l[i]?) er;have hm:(keys.zip vs.toArray).reverse.toList[i]'(by rw [eA];exact hi)∈(keys.zip vs.toArray).reverse.toList:=cS _
  rw [e1];generalize (keys.zip vs.toArray).reverse.toList[i]'(by rw [eA];exact hi)=x at hm
  rw [er] at hm;obtain ⟨j,hj,rfl⟩:=cx.mp hm;obtain ⟨t,e⟩:=ki j (by simpa using hj)
  exact ⟨_,_,e⟩
 refine bC (G6 (E:=E) (Q:=fun _ st=>Q st s) (g:=7) lt ok fun aR st pm sg ha hf=>?_) (fun r s' h'=>by obtain ⟨rfl,h'⟩:=h';exact h') fun _ _ e=>e
 obtain ⟨p,hp,ep⟩:=perm_back (nN.mp pm) _ er;have pl:p.length=vs.length:=by rw [hp.length_eq,List.length_reverse,dt]
 have CP:∀i∈p,i<vs.length:=fun i hi=>by simpa using hp.mem_iff.mp hi
 have hsz:aR.size=vs.length:=by rw [pm.size_eq,az]
 have kv:∀i (hi:i<p.length),vA Dq aR i=kz p[i]:=fun i hi=>by
  have e1:aR.getD i nn=(keys.toList.getD p[i] Value.none,vs.getD p[i] Value.none):=by
   have e2:aR.toList[i]?=some (keys.toList.getD p[i] Value.none,vs.getD p[i] Value.none):=by rw [ep,bP,bx hi];rfl
   rw [Array.getD_eq_getD_getElem?,←Br,e2];rfl
  unfold vA;rw [e1];obtain ⟨t,e⟩:=ki p[i] (CP _ (cS _));unfold Dq;rw [e]
 refine hQ p.reverse st ⟨(nM p).trans (hp.trans (nM _)),?_⟩ ?_ hf
 ·rw [Bw]
  refine mh.mpr fun i j hi hj ij=>?_;have:=sg i j (ba _) (by omega) (by rw [az];omega)
  rw [kv i hi,kv j hj] at this;exact this
 ·rw [ha,sO,Array.toList_map,ep,cm,List.map_reverse]
  rfl
theorem RQ(h:n<2):oK n kz (List.range n):=by
 refine ⟨List.Perm.refl _,?_⟩
 match n,h with
 | 0,_=>exact .nil
 | 1,_=>exact Bz _ _
theorem RR{kA:Array Value}(h:vs.length<2)(hs:kA.size=vs.length):(((kA.zip vs.toArray).reverse).map (·.2)).reverse.toList=(List.range vs.length).map (fun i=>vs.getD i Value.none):=by
 match vs,h,hs with
 | [],_,_=>simp
 | [v],_,hs=>obtain ⟨k,rfl⟩:=Array.size_eq_one_iff.mp hs;simp
theorem RS{a:Addr}{P:PySem.Fin→Shared→Prop}(ho:s.heap.get? a=some (seqObj "list" vs.toArray n))(h1:vs.length<10000)
  (turn:∀i v,vs[i]?=some v→∀(h:Heap) (tk:Nat) (Q:aK),(∀b o,b≠a→s.heap.get? b=some o→h.get? b=some o)→(∀t dr,Q (.int (kz i) t) {s with heap:=h,toks:=dr})→wpAny (model prog w) A (call (.builtin "len") [v]) Q (fun _ _=>False) {s with heap:=h,toks:=tk})
  (h:∀h' tk out c p,oK vs.length kz p→(∀b o,b≠a→s.heap.get? b=some o→h'.get? b=some o)→h'.get? a=some (seqObj "list" out c)→out.toList=p.map (fun i=>vs.getD i Value.none)→P (.done (.ret .none)) {s with heap:=h',toks:=tk}) :
  wpAny (model prog w) A (ksk_tree a (.builtin "len") true) P E s:=by
 have sl:vs.length≤sizeLine:=by rw [iD];omega
 have lt:=aT ho;obtain ⟨e1,g1⟩:∃e,(s.heap.update a (Obj.mapSeq fun _=>#[])).get? a=some (seqObj "list" #[] e):=⟨_,nO ho fun _=>#[]⟩;have z1:(s.heap.update a (Obj.mapSeq fun _=>#[])).objs.size=s.heap.objs.size:=vS _ _ _;have z2:((s.heap.update a (Obj.mapSeq fun _=>#[])).push (seqObj "tuple" vs.toArray 0)).objs.size=s.heap.objs.size+1:=by rw [pB,z1]
 unfold ksk_tree;refine aC (listItems_at ho rfl (aC (sR ho rfl ?_ (by rw [bR];omega) (ba _))))
 refine aC (seqEpoch_at g1 rfl (aC (wpAny_newTuple ?_ (by show vs.length≤_;omega))))
 refine aC (sS (kJ ?_) (ba _));show wpAny (model prog w) A (ksk_rest a (.builtin "len") true vs.toArray e1 (.ref ((s.heap.update a (Obj.mapSeq fun _=>#[])).push (seqObj "tuple" vs.toArray 0)).objs.size)) P E {s with heap:=((s.heap.update a (Obj.mapSeq fun _=>#[])).push (seqObj "tuple" vs.toArray 0)).push (seqObj "list" #[] 0)};have gk:(((s.heap.update a (Obj.mapSeq fun _=>#[])).push (seqObj "tuple" vs.toArray 0)).push (seqObj "list" #[] 0)).get? (s.heap.objs.size+1)=some (seqObj "list" #[] 0):=by rw [←z2];exact dH _ rfl
 have up:∀b u,(s.heap.update a (Obj.mapSeq fun _=>#[])).get? b=some u→(((s.heap.update a (Obj.mapSeq fun _=>#[])).push (seqObj "tuple" vs.toArray 0)).push (seqObj "list" #[] 0)).get? b=some u:=fun b u hu=>bX _ (bX _ hu);have ga:=up a _ g1;have Iy:∀b o,b≠a→s.heap.get? b=some o→(((s.heap.update a (Obj.mapSeq fun _=>#[])).push (seqObj "tuple" vs.toArray 0)).push (seqObj "list" #[] 0)).get? b=some o:=fun b o nb g=>up b o (by rw [sQ _ _ _ _ nb];exact g)
 rw [z2];generalize ((s.heap.update a (Obj.mapSeq fun _=>#[])).push (seqObj "tuple" vs.toArray 0)).push (seqObj "list" #[] 0)=hp at gk ga Iy;have ka:s.heap.objs.size+1≠a:=Nat.ne_of_gt (kM lt);have old:∀b o,s.heap.get? b=some o→b≠s.heap.objs.size+1:=fun b o g=>bL (kM (aT g));generalize s.heap.objs.size+1=kS at gk ka old;unfold ksk_rest;refine aC (kP ?_)
 first
  | rw [List.forIn_toArray]
  | (rw [←Array.forIn_toList];simp only [List.toList_toArray])
  | rw [←Array.forIn_toList]
 refine aC (ksk_fold (fun i s'=>∃h' tk kA e,s'={s with heap:=h',toks:=tk}∧h'.get? kS=some (seqObj "list" kA e)∧h'.get? a=some (seqObj "list" #[] e1)∧(∀b o,b≠a→s.heap.get? b=some o→h'.get? b=some o)∧IntsAre kA.toList (((List.range vs.length).map kz).take i)) vs 0 _
  ⟨hp,s.toks,#[],0,rfl,gk,ga,Iy,by simpa using IntsAre.nil⟩ ?step ?done)
 case step=>
  rintro j x s' hx ⟨h',tk,kA,e,rfl,xA,w_,zS,hk⟩;simp only [d9] at hk ⊢;have hj:j<vs.length:=(bM.mp hx).1;have hz:kA.size≤vs.length:=by have h1:=hk.length;rw [eA,me,aD,dt] at h1;omega
  refine aC (wpAny_attempt (bC (turn j x hx h' tk (fun v eQ=>∃t dr,v=.int (kz j) t∧eQ={s with heap:=h',toks:=dr}) zS fun t dr=>⟨t,dr,rfl,rfl⟩) (fun v eQ he=>?_) fun _ _ hF=>hF.elim));obtain ⟨t,dr,rfl,rfl⟩:=he
  try dsimp only
  have sb:=pG h' kS (Obj.mapSeq (·.push (.int (kz j) t)));obtain ⟨c2,gy⟩:∃c2,(h'.update kS (Obj.mapSeq (·.push (.int (kz j) t)))).get? kS=some (seqObj "list" (kA.push (.int (kz j) t)) c2):=⟨_,nO xA (·.push (.int (kz j) t))⟩;have ek:((List.range vs.length).map kz).take (j+1)=((List.range vs.length).map kz).take j++[kz j]:=by rw [List.take_add_one,bP,o_ hj];rfl
  have ea:(kA.push (Value.int (kz j) t)).toList=kA.toList++[Value.int (kz j) t]:=by simp
  refine aC (sR xA rfl ?_ (by rw [iD];omega) (a9 (Nat.le_of_eq (Array.size_push ..)) (by rw [iD];omega)))
  exact bE ⟨rfl,_,_,kA.push (.int (kz j) t),c2,rfl,gy,(sb.2 a ka.symm).trans w_,fun b o nb g=>(sb.2 b (old b o g)).trans (zS b o nb g),by rw [ea,ek];exact ksk_snoc hk⟩
 case done=>
  rintro s' ⟨h',tk,kA,e,rfl,xA,w_,zS,hk⟩;have cP:IntsAre kA.toList ((List.range vs.length).map kz):=by
   rw [sM (by rw [aD,dt];omega)] at hk
   exact hk
  have hsz:kA.size=vs.length:=by have h1:=cP.length;rw [eA,aD,dt] at h1;exact h1
  try dsimp only
  refine aC (listItems_at xA rfl ?_);have fin:∀(st:SortSt) (p:List Nat),oK vs.length kz p→((arrOf st).map (·.2)).reverse.toList=p.map (fun i=>vs.getD i Value.none)→failedOf st=none→wpAny (model prog w) A (ksk_tail a true e1 (.ref kS) st) P E {s with heap:=h',toks:=tk}:=fun st p fp Iz hf=>by
   have sb:=pG h' kS (Obj.mapSeq fun _=>(#[]:Array Value));have xf:(h'.update kS (Obj.mapSeq fun _=>(#[]:Array Value))).get? a=some (seqObj "list" #[] e1):=(sb.2 a ka.symm).trans w_;have RT:=pG (h'.update kS (Obj.mapSeq fun _=>(#[]:Array Value))) a (Obj.mapSeq fun _=>((arrOf st).map (·.2)).reverse);obtain ⟨c2,gy⟩:∃c2,((h'.update kS (Obj.mapSeq fun _=>(#[]:Array Value))).update a (Obj.mapSeq fun _=>((arrOf st).map (·.2)).reverse)).get? a=some (seqObj "list" ((arrOf st).map (·.2)).reverse c2):=⟨_,nO xf fun _=>((arrOf st).map (·.2)).reverse⟩;have lo:((arrOf st).map (·.2)).reverse.size=vs.length:=by rw [←eA,Iz,aD,fp.pm.length_eq,dt]
   unfold ksk_tail
   try dsimp only
   refine aC (sR xA rfl ?_ (by rw [hsz];omega) (ba _))
   refine aC (wpAny_letGo (aC (seqEpoch_at xf rfl ?_)));refine aC (sR xf rfl ?_ (ba _) (by simp only [jS];rw [lo];omega))
   rw [hf];simp only [bne_self_eq_false,yv,if_false,jS];exact bE (h _ _ _ c2 p fp (fun b o nb g=>(RT.2 b nb).trans ((sb.2 b (old b o g)).trans (zS b o nb g))) gy Iz)
  unfold ksk_end
  try dsimp only
  simp only [jS];refine aC (kP ?_);by_cases h2:vs.toArray.size<2
  ·rw [ae h2,ae h2]
   refine aC (bE ?_);rw [StateT.run_pure];refine aC (bE ?_);have len:vs.length<2:=by simpa using h2
   exact fin _ (List.range vs.length) (RQ len) (RR len hsz) rfl
  ·rw [aa h2,aa h2]
   have len:2≤vs.length:=by simpa using h2
   rw [ksk_kind cP (by rw [hsz];exact len)]
   refine aC (bE ?_);refine aC (bC (RP (s:={s with heap:=h',toks:=tk}) (vs:=vs) (keys:=kA) (kz:=kz) cP (Q:=fun st s'=>s'={s with heap:=h',toks:=tk}∧∃p,oK vs.length kz p∧((arrOf st).map (·.2)).reverse.toList=p.map (fun i=>vs.getD i Value.none)∧failedOf st=none) fun p st a1 a2 a3=>⟨rfl,p,a1,a2,a3⟩) ?_ fun _ _ e=>e);rintro ⟨⟨⟩,st⟩ s' ⟨rfl,p,a1,a2,a3⟩;exact fin st p a1 a2 a3
end
open PySem PySem.W PyProof.Rows
section
variable {prog:Program} {w:World} {A:Around} {E:aK} {s:Shared}
theorem IsTup.to{h h':Heap}{a:Addr}{ak:Array Value}(t:IsTup h a ak)(k:∀o,h.get? a=some o→h'.get? a=some o):IsTup h' a ak:=let ⟨o,g,r⟩:=t;⟨o,k _ g,r⟩
theorem RU{l:Addr}{vs:List Value}{kz:Nat→Int}{Q:aK}(hl:s.heap.IsList l vs.toArray)(h1:vs.length<10000)(hv:∀i v,vs[i]?=some v→∃b ak,v=.ref b∧IsTup s.heap b ak∧kz i=ak.size∧ak.size<10000)
  (h:∀h' tk out c p,oK vs.length kz p→(∀b o,s.heap.get? b=some o→h'.get? b=some o)→h'.get? (s.heap.objs.size+1)=some (seqObj "list" out c)→out.toList=p.map (fun i=>vs.getD i Value.none)→Q (.ref (s.heap.objs.size+1)) {s with heap:=h',toks:=tk}) :
  wpAny (model prog w) A (call (.builtin "sorted") [.ref l] [(Str.ofString "key",.builtin "len"),(Str.ofString "reverse",.bool true)]) Q E s:=by
 have sl:vs.length≤sizeLine:=by rw [iD];omega
 refine call_function_entry_kw kind_sorted plain_sorted entry_sorted (ksk_s2 _ _ _) ?_;unfold Builtin.«sorted»;refine aC (m:=checkCount "sorted" 1 1 _) (bE (aC (collect_list hl (aC (sS ?_ sl)) sl)));have zz:((s.heap.push (seqObj "list" #[] 0)).update s.heap.objs.size (Obj.mapSeq (·++vs.toArray))).objs.size=s.heap.objs.size+1:=by rw [vS,pB]
 have kp:∀b o,s.heap.get? b=some o→(((s.heap.push (seqObj "list" #[] 0)).update s.heap.objs.size (Obj.mapSeq (·++vs.toArray))).push (seqObj "list" vs.toArray 0)).get? b=some o:=fun b o g=>by
  have lt:=aT g;rw [nQ _ _ _ (bL (by rw [zz];exact kM lt)),sQ _ _ _ _ (bL lt),nQ _ _ _ (bL lt)]
  exact g
 have gL:(((s.heap.push (seqObj "list" #[] 0)).update s.heap.objs.size (Obj.mapSeq (·++vs.toArray))).push (seqObj "list" vs.toArray 0)).get? (s.heap.objs.size+1)=some (seqObj "list" vs.toArray 0):=by rw [←zz];exact dH _ rfl
 show wpAny _ _ _ _ _ {s with heap:=((s.heap.push (seqObj "list" #[] 0)).update s.heap.objs.size (Obj.mapSeq (·++vs.toArray))).push (seqObj "list" vs.toArray 0)};rw [zz];generalize ((s.heap.push (seqObj "list" #[] 0)).update s.heap.objs.size (Obj.mapSeq (·++vs.toArray))).push (seqObj "list" vs.toArray 0)=hp at kp gL;have ne:∀b o,s.heap.get? b=some o→b≠s.heap.objs.size+1:=fun b o g=>bL (kM (aT g));refine aC (kJ (wpAny_call_entry_kw slot_list_sort ⟨_,gL,rfl⟩ entry_list_sort ?_ (ksk_l2 _ _ _)));rw [ksk_t5];refine RS (s:={s with heap:=hp}) (kz:=kz) gL h1 (fun i v hi h' tk Q' kk hQ=>?_) fun h' tk out c p fp kk g e=>⟨_,rfl,bE ⟨_,rfl,h h' tk out c p fp (fun b o gb=>kk b o (ne b o gb) (kp b o gb)) g e⟩⟩;obtain ⟨b,ak,rfl,t,ek,i1⟩:=hv i v hi;rw [ek] at hQ;refine len_tuple (s:={s with heap:=h',toks:=tk}) (items:=ak) (IsTup.to t fun o g=>kk b o (ne b o g) (kp b o g)) (by omega) ?_
 exact hQ _ _
end
end My
namespace L2
open PySem PySem.W PyProof.Rows My
def RV(t:TA):TE:=fun σ H Q=>t σ H fun xs H1=>∃(l:Addr) (vs:List V) (ks:Nat→Nat),xs=[.ref l]∧H1 l=some (.lst vs)∧vs.length<10000∧(∀(i:Nat) (v:V),vs[i]?=some v→∃b ys,v=.ref b∧H1 b=some (.tup ys)∧ks i=ys.length∧ys.length<10000) ∧
 ∀(D:Addr) (p:List Nat),H1 D=none→oK vs.length (fun i=>(ks i:Int)) p→Q (.ref D) (upd H1 D (.lst (p.map fun i=>vs.getD i .aN)))
variable {X:Cx}
theorem RW{e:Expr}{es:List Expr}{t:TA}{p p2 pos Dr RX cp:Pos}{j:Nat}(ha:PA X (e::es) t)(hg:Gl X (Str.ofString "sorted"))(hm:X.mg (Str.ofString "sorted")=none)(hv:bootBuiltins (Str.ofString "sorted")=some (.builtin "sorted"))
  (RY:Gl X (Str.ofString "len")) (zT:X.mg (Str.ofString "len")=none) (RZ:bootBuiltins (Str.ofString "len")=some (.builtin "len"))
  (he:backTo pos (starEach (e::es) X.env)=(false,eval e X.env)::backTo pos (starEach es X.env):=by rfl) (jw:(backTo pos (starEach (e::es) X.env)).any (·.1)=false:=by rfl) :
  PE X (.Call (.Name (Str.ofString "sorted") p) (e::es) [⟨some (Str.ofString "key"),.Name (Str.ofString "len") p2,Dr⟩,⟨some (Str.ofString "reverse"),.Constant (.bool true) j cp,RX⟩] pos) (RV t):=by
 intro pins s σ H Q I h
 refine vI (mF I hg hm hv ?_)
 refine callWith_kw (aM (ha pos pins s σ H _ I h) fun us s1 ⟨xs,H1,I1,r1,q1⟩=>?_) he jw
 obtain ⟨l,vs,ks,rfl,hl,h1,gG,k⟩:=q1
 obtain ⟨u,rfl,ru⟩:=vals1 r1
 cases ru
 show wpAny _ _ (evalAll [(do let v ←eval (.Name (Str.ofString "len") p2) X.env;standAt pos;pure v),(do let v ←eval (.Constant (.bool true) j cp) X.env;standAt pos;pure v)]) _ _ s1
 refine wpAny_evalAll_cons (aC (mF I1 RY zT RZ (aC (o6 (bE ?_)))))
 refine wpAny_evalAll_cons (aC (Constant_bool (aC (o6 (bE ?_)))))
 refine wpAny_evalAll_nil ?_
 show wpAny _ _ (call (.builtin "sorted") [.ref l] [(Str.ofString "key",.builtin "len"),(Str.ofString "reverse",.bool true)]) _ _ s1
 obtain ⟨ak,rv,pl,hz⟩:=I1.list (.of hl)
 have t7:=rv.length
 refine RU (kz:=fun i=>(ks i:Int)) pl.isList (by omega) (fun i v hi=>?_) fun h' tk out c p fp kp g e=>?_
 ·have aV:i<vs.length:=by
   have:=(bM.mp hi).1
   omega
  have gi:vs[i]?=some vs[i]:=by simp [aV]
  obtain ⟨b,ys,eb,hb,ek,y1⟩:=gG i _ gi
  obtain ⟨u,eu,ru⟩:=rv.get gi
  rw [hi] at eu
  cases eu
  rw [eb] at ru
  cases ru
  obtain ⟨iK,r2,tp,_⟩:=I1.tuple (.of hb)
  have l2:=r2.length
  exact ⟨b,iK.toArray,rfl,tp,by rw [bR,←l2,ek],by rw [bR];omega⟩
 ·rw [←t7] at fp
  refine ⟨.ref (s1.heap.objs.size+1),_,I1.laid (t':=tk) (o:=.lst (p.map fun i=>vs.getD i .aN)) kp (iE _) ⟨?_,p.map fun i=>ak.getD i Value.none,c,?_,?_⟩,rfl,k _ p (I1.ay.fresh (iE _)) fp⟩
  ·rw [aD,fp.pm.length_eq,dt]
   exact a9 (ma h1) (by decide)
  ·exact CQ rv p fun i hi=>b7.mp (fp.pm.mem_iff.mp hi)
  ·rw [g,←e,Array.toArray_toList]
def IA:List V→Hp→VK→Prop:=fun xs H Q=>∃(a:Addr) (zs:List Int),xs=[.ref a]∧H a=some (.tup (zs.map V.int))∧zs.length<64∧∀(ws:List Int) (D:Addr),ws.Perm zs→ws.Pairwise (·≤·)→H D=none→Q (.ref D) (upd H D (.lst (ws.map V.int)))
theorem R0:e_ X (.builtin "sorted") IA:=by
 intro pins s σ H xs us Q I r h;obtain ⟨a,zs,rfl,ha,xg,k⟩:=h;obtain ⟨u,rfl,ru⟩:=vals1 r;cases ru;obtain ⟨ak,rv,⟨o,g,c,n,d⟩,hz⟩:=I.tuple (.of ha);have hl:=rv.length;rw [aD] at hl;have sl:ak.length≤sizeLine:=by rw [iD];omega
 refine Calls.call_function_entry kind_sorted plain_sorted entry_sorted (args_sorted1 _) ?_;unfold Builtin.«sorted»;refine aC (m:=checkCount "sorted" 1 1 _) (bE (aC (wpAny_collect_seq a (.inr rfl) g c d (fun h1 k1=>aC (sS ?_ sl)) (by rw [bR];exact sl))))
 have I1:Inv X pins σ H {s with heap:=h1}:=I.kept (t':=s.toks) k1;have gL:(h1.push (seqObj "list" ak.toArray 0)).get? h1.objs.size=some (seqObj "list" ak.toArray 0):=dH _ rfl;show wpAny _ _ _ _ _ {s with heap:=h1.push (seqObj "list" ak.toArray 0)};refine aC (kJ (wpAny_call_entry slot_list_sort ⟨_,gL,rfl⟩ entry_list_sort (list_sort_tree (s:={s with heap:=h1.push (seqObj "list" ak.toArray 0)}) gL (intsAre_of rv) (by omega) fun out jx a1 a2 a3=>⟨_,rfl,?_⟩) (args_list_sort _)))
 obtain ⟨e,he⟩:=sortedHeap_at (out:=out) gL;refine bE ⟨_,rfl,.ref h1.objs.size,_,I1.laid (t':=s.toks) (o:=.lst (jx.map .int)) (fun b u gb=>?_) (ax _) ⟨?_,out.toList,e,C6 a1,?_⟩,rfl,k jx _ a2 a3 (I1.ay.fresh (ax _))⟩
 ·have lt:=aT gb
  rw [sortedHeap_old (bL lt) (by rw [pB];exact kM lt)]
  exact bX _ gb
 ·rw [aD,a2.length_eq]
  rw [iD];omega
 ·simpa using he
end L2
namespace My
open PySem PySem.W PyProof.Rows
section
variable {prog:Program} {w:World} {A:Around} {E:aK} {s:Shared} {R:Result→Shared→Prop}
def jL(s:Shared)(h:Heap):Prop:=∀b o,s.heap.get? b=some o→h.get? b=some o
def zU(prog:Program)(w:World)(A:Around)(s:Shared)(vs:List Value)(kf:Nat→Int):Prop:=∀i j v u,vs[i]?=some v→vs[j]?=some u→∀(h:Heap) (tk:Nat) (Q:aK),jL s h→(∀dr,Q (.bool (decide (kf i<kf j))) {s with heap:=h,toks:=dr})→wpAny (model prog w) A (richCompare .Lt v u) Q (fun _ _=>False) {s with heap:=h,toks:=tk}
variable {l:Addr} {vs:List Value} {kf:Nat→Int} {kw:List (Str×Value)}
theorem R1{I S:Addr}(hh:A.handled=none)(hl:s.heap.IsList l vs.toArray)(hI:s.heap.objs.size≤I)(hS:s.heap.objs.size≤S)(qG:S≠I)(cmp:zU prog w A.in1 s vs kf)
  (hR:∀i v h' dr,vs[i]?=some v→(∀j,j<vs.length→kf i≤kf j∧(j<i→kf i<kf j))→jL s h'→R (.ok (.ret v)) {s with heap:=h',toks:=dr}) :
  ∀(r j i:Nat) (h:Heap) (tk:Nat) (vb:Value) (c:Nat),vs.length-(j+1)=r→j+1≤vs.length→jL s h→h.get? S=some (seqObj "list" #[vb,vb] c)→h.IsListIter I l (j+1)→vs[i]?=some vb→i≤j→(∀j',j'≤j→kf i≤kf j'∧(j'<i→kf i<kf j'))→
   codeAny (model prog w) A (.builtin "min.loop" ⟨[.ref I,.none,.ref S],kw⟩) R {s with heap:=h,toks:=tk}:=by
 have xB:(toString "min"++toString ".loop":String)="min.loop":=by decide
 have lI:l≠I:=fun e=>by obtain ⟨o,g,_⟩:=hl;exact dG _ (dA (aT g) (e▸hI))
 have W:=Walks.list (prog:=prog) (w:=w) (A:=A.in1) hh I l lI vs.toArray;have hsz:vs.toArray.size=vs.length:=bR ..;have lk:∀{h:Heap},jL s h→h.IsList l vs.toArray:=fun{h} kp=>by obtain ⟨o,g,r⟩:=hl;exact ⟨o,kp _ _ g,r⟩
 have kI:∀{h h':Heap},jL s h→(∀b o,b∉[I]→h.get? b=some o→h'.get? b=some o)→jL s h':=fun kp k b o g=>k b o (fun z=>by rw [bY.mp z] at g;exact dG _ (dA (aT g) hI)) (kp b o g)
 have kS:∀{h:Heap} {f:Obj→Obj},jL s h→jL s (h.update S f):=fun{h f} kp b o g=>((pG h S f).2 b (fun z=>by rw [z] at g;exact dG _ (dA (aT g) hS))).trans (kp b o g)
 intro r
 induction r with
 | zero=>
  intro j i h tk vb c hr hj kp gS hit zV w5 qH;have R3:j+1=vs.length:=by omega
  refine nH yG ?_;rw [pH nU _];show wpAny _ A.in1 (seqItems? (.ref S) >>= _) _ _ _;refine aC (wpAny_seqItems gS rfl ?_);show wpAny _ A.in1 (tryCatch (pyNext (.ref I)) _ >>= _) _ _ _;refine aC (vU (W.done _ _ _ ⟨by rw [hsz,←R3];exact hit,lk kp⟩ fun h' dr cP=>?_))
  have oM:=cP S _ (by simpa using qG) gS
  show wpAny _ A.in1 (updateSeq S (fun _=>#[]) >>= _) _ _ _;refine aC (wpAny_updateSeq oM rfl (aC (wpAny_letGo (bE ?_))));exact hR i vb _ _ zV (fun j' dY=>qH j' (by omega)) (kS (kI kp cP))
 | succ r ih=>
  intro j i h tk vb c hr hj kp gS hit zV w5 qH;have aU:j+1<vs.length:=by omega
  refine nH yG ?_;rw [pH nU _];show wpAny _ A.in1 (seqItems? (.ref S) >>= _) _ _ _;refine aC (wpAny_seqItems gS rfl ?_);show wpAny _ A.in1 (tryCatch (pyNext (.ref I)) _ >>= _) _ _ _;refine aC (vU (W.item (j+1) _ _ _ (by rw [hsz];exact aU) ⟨hit,lk kp⟩ fun v h' dr hP zW cP=>?_))
  have hv:vs[j+1]?=some v:=by simpa using hP
  have xC:=kI kp cP;have oM:=cP S _ (by simpa using qG) gS
  show wpAny _ A.in1 (tryCatch (holding [v,v] (richCompare .Lt v vb >>= _)) _ >>= _) _ _ _;refine aC (vU (kJ (aC (bC (cmp (j+1) i v vb hv zV h' dr (fun a eQ=>∃zX,a=.bool (decide (kf (j+1)<kf i))∧eQ={s with heap:=h',toks:=zX}) xC fun zX=>⟨zX,rfl,rfl⟩) (fun a eQ he=>?_) fun _ _ hF=>hF.elim))));obtain ⟨zX,rfl,rfl⟩:=he;refine aC (kJ (md ?_));refine aC (wpAny_letGo (bE ?_));by_cases fP:kf (j+1)<kf i
  ·obtain ⟨c2,gy⟩:∃c2,(h'.update S (Obj.mapSeq fun _=>#[v,v])).get? S=some (seqObj "list" #[v,v] c2):=⟨_,nO oM fun _=>#[v,v]⟩
   simp only [fP,decide_true,jS];refine aC (wpAny_updateSeq oM rfl (aC (wpAny_letGo ?_)));rw [xB];obtain ⟨oI,g1,g2⟩:=id zW.1;refine bE ⟨sY nU _,ih (j+1) (j+1) _ _ v c2 (by omega) aU (kS xC) gy ⟨oI,((pG h' S _).2 I qG.symm).trans g1,g2⟩ hv (ax _) fun j' dY=>?_⟩
   by_cases e:j'=j+1
   ·subst e
    exact ⟨by omega,fun _=>by omega⟩
   ·have Ds:=qH j' (by omega)
    have IC:=Ds.1;exact ⟨by omega,fun _=>by omega⟩
  ·simp only [fP,decide_false,yv,if_false]
   refine aC (wpAny_letGo ?_);rw [xB];refine bE ⟨sY nU _,ih (j+1) i _ _ vb c (by omega) aU xC oM zW.1 zV (by omega) fun j' dY=>?_⟩
   by_cases e:j'=j+1
   ·subst e
    exact ⟨by omega,fun _=>by omega⟩
   ·exact qH j' (by omega)
theorem ID{dflt:Option Value}{Q:aK}(hh:A.handled=none)(ha:argsOk "min" ⟨[.ref l],kw⟩)(hb:Builtin.Builtins.bindParams "min" ["key","default"] 0 ⟨[],kw⟩=pure [none,dflt])
  (hl:s.heap.IsList l vs.toArray) (cmp:zU prog w A.in1 s vs kf) (qh:0<vs.length∨∃d,dflt=some d)
  (hQ:∀i v h' dr,vs[i]?=some v→(∀j,j<vs.length→kf i≤kf j∧(j<i→kf i<kf j))→jL s h'→Q v {s with heap:=h',toks:=dr})
  (hD:vs.length=0→∀d,dflt=some d→∀h' dr,jL s h'→Q d {s with heap:=h',toks:=dr}) :
  wpAny (model prog w) A (call (.builtin "min") [.ref l] kw) Q E s:=by
 have xB:(toString "min"++toString ".loop":String)="min.loop":=by decide
 obtain ⟨ol,R4,_⟩:=id hl;have t7:l<s.heap.objs.size:=aT R4;refine kmk_tree PySem.F.kind_min PySem.F.plain_min PySem.F.entry_min ha ?_;show wpAny _ A.in1 (Builtin.Builtins.bindParams "min" ["key","default"] 0 ⟨[],kw⟩ >>= _) _ _ s;refine aC (wpAny_of_eq hb ?_);refine aC (bE ?_);refine aC (vH hl ?_);refine aC (sS ?_ (ba _));rw [xB];have hS:(s.heap.push {cls:=.type "list_iterator",data:=.fields #[.ref l,.int 0 0]}).objs.size=s.heap.objs.size+1:=pB ..;have gI:((s.heap.push {cls:=.type "list_iterator",data:=.fields #[.ref l,.int 0 0]}).push (seqObj "list" #[] 0)).get? s.heap.objs.size=some {cls:=.type "list_iterator",data:=.fields #[.ref l,.int 0 0]}:=bX _ (dH _ rfl);have gS:((s.heap.push {cls:=.type "list_iterator",data:=.fields #[.ref l,.int 0 0]}).push (seqObj "list" #[] 0)).get? (s.heap.objs.size+1)=some (seqObj "list" #[] 0):=by rw [←hS];exact dH _ rfl
 have kp:jL s ((s.heap.push {cls:=.type "list_iterator",data:=.fields #[.ref l,.int 0 0]}).push (seqObj "list" #[] 0)):=fun b o e=>bX _ (bX _ e);refine bE ⟨sY nU _,?_⟩;rw [hS];show codeAny _ _ _ _ {s with heap:=(s.heap.push {cls:=.type "list_iterator",data:=.fields #[.ref l,.int 0 0]}).push (seqObj "list" #[] 0)};generalize (s.heap.push {cls:=.type "list_iterator",data:=.fields #[.ref l,.int 0 0]}).push (seqObj "list" #[] 0)=hp at gI gS kp;obtain ⟨S,eS⟩:∃S,S=s.heap.objs.size+1:=⟨_,rfl⟩;obtain ⟨I,eI⟩:∃I,I=s.heap.objs.size:=⟨_,rfl⟩;have qG:S≠I:=by rw [eS,eI];exact Nat.ne_of_gt (Nat.lt_succ_self _)
 have IE:s.heap.objs.size≤I:=Nat.le_of_eq eI.symm;have t8:s.heap.objs.size≤S:=by rw [eS];exact iE _
 have R5:l≠I:=by rw [eI];exact bL t7
 rw [←eS] at gS ⊢;rw [←eI] at gI ⊢;have W:=Walks.list (prog:=prog) (w:=w) (A:=A.in1) hh I l R5 vs.toArray;have hsz:vs.toArray.size=vs.length:=bR ..;have lk:hp.IsList l vs.toArray:=by obtain ⟨o,g,r⟩:=hl;exact ⟨o,kp _ _ g,r⟩
 have kI:∀{h':Heap},(∀b o,b∉[I]→hp.get? b=some o→h'.get? b=some o)→jL s h':=fun k b o g=>k b o (fun z=>by rw [bY.mp z] at g;exact dG _ (dA (aT g) IE)) (kp b o g)
 by_cases hz:0<vs.length
 ·refine nH yG ?_
  rw [pH nU _];show wpAny _ A.in1 (seqItems? (.ref S) >>= _) _ _ _;refine aC (wpAny_seqItems gS rfl ?_);show wpAny _ A.in1 (tryCatch (pyNext (.ref I)) _ >>= _) _ _ _;refine aC (vU (W.item 0 _ _ _ (by rw [hsz];exact hz) ⟨⟨_,gI,rfl,rfl⟩,lk⟩ fun v h' dr hP zW cP=>?_))
  have hv:vs[0]?=some v:=by simpa using hP
  obtain ⟨R6,R7,R8⟩:=id zW.1;have oM:=cP S _ (by simpa using qG) gS
  have xC:=kI cP;obtain ⟨c2,gy⟩:∃c2,(h'.update S (Obj.mapSeq fun _=>#[v,v])).get? S=some (seqObj "list" #[v,v] c2):=⟨_,nO oM fun _=>#[v,v]⟩;show wpAny _ A.in1 (updateSeq S (fun _=>#[v,v]) >>= _) _ _ _;refine aC (wpAny_updateSeq oM rfl ?_);rw [xB];refine bE ⟨sY nU _,R1 hh hl IE t8 qG cmp hQ _ 0 0 _ _ v c2 rfl hz (fun b o g=>((pG h' S _).2 b (fun z=>?_)).trans (xC b o g)) gy ⟨R6,((pG h' S _).2 I qG.symm).trans R7,R8⟩ hv (ax _) fun j' dY=>?_⟩
  ·rw [z] at g
   exact dG _ (dA (aT g) t8)
  ·have e:j'=0:=by omega
   subst e;exact ⟨jl _,fun h=>absurd h (dG _)⟩
 ·have z0:vs.length=0:=by omega
  obtain ⟨d,rfl⟩:∃d,dflt=some d:=qh.elim (fun h=>absurd h hz) id;refine nH yG ?_;rw [pH nU _];show wpAny _ A.in1 (seqItems? (.ref S) >>= _) _ _ _;refine aC (wpAny_seqItems gS rfl ?_);show wpAny _ A.in1 (tryCatch (pyNext (.ref I)) _ >>= _) _ _ _;refine aC (vU (W.done _ _ _ ⟨⟨_,gI,rfl,by rw [hsz,z0];rfl⟩,lk⟩ fun h' dr cP=>?_))
  exact aC (kP (bE (hD z0 d rfl h' dr (kI cP))))
end
open PySem PySem.W PyProof.Rows L2
theorem R9(a v:Value):argsOk "min" ⟨[a],[(Str.ofString "default",v)]⟩:=by unfold argsOk;kernel_rfl
theorem R_(a:Value):argsOk "min" ⟨[a],[]⟩:=by unfold argsOk;kernel_rfl
section
variable {prog:Program} {w:World} {A:Around} {s:Shared}
variable {vs:List Value}
theorem Sa{kf:Nat→Int}(hv:∀(i:Nat) (v:Value),vs[i]?=some v→∃t,v=Value.int (kf i) t):zU prog w A s vs kf:=fun i j v u hi hj h tk Q kp hQ=>by obtain ⟨t,rfl⟩:=hv i v hi;obtain ⟨t',rfl⟩:=hv j u hj;exact HT.F5 A _ _ _ _ _ prog w _ Q (hQ tk)
theorem Sb{x y:Nat→Int}(hu:A.units<cLine)(hv:∀i v,vs[i]?=some v→eK s.heap v (x i) (y i)∧0≤y i∧y i<1000):zU prog w A s vs (fun i=>x i*1000+y i):=fun i j v u hi hj h tk Q kp hQ=>by
 obtain ⟨⟨a,o,t1,t2,e,rfl,g,c,d⟩,y0,y1⟩:=hv i v hi;obtain ⟨⟨b,o',t3,t4,e',rfl,g',c',d'⟩,y2,y3⟩:=hv j u hj;have:=hQ tk;rw [show decide (x i*1000+y i<x j*1000+y j)=HT.lexLt [x i,y i] [x j,y j] from by
  rw [HT.BX,HT.BX];by_cases q:x i=x j
  ·rw [ae q]
   by_cases q':y i=y j
   ·rw [ae q']
    exact bW (by omega)
   ·rw [aa q']
    exact vR.mpr (by omega)
  ·rw [aa q]
   exact vR.mpr (by omega)] at this
 exact HT.Nh (s:={s with heap:=h,toks:=tk}) (items:=#[.int (x i) t1,.int (y i) t2]) (items2:=#[.int (x j) t3,.int (y j) t4]) ⟨o,kp _ _ g,c,e,d⟩ ⟨o',kp _ _ g',c',e',d'⟩ (.cons _ _ (.cons _ _ .nil)) (.cons _ _ (.cons _ _ .nil)) hu this
end
end My
namespace L2
open PySem PySem.W PyProof.Rows My
def Dt(zs:List Int)(d m:Int):Prop:=(zs=[]∧m=d)∨(m∈zs∧∀z∈zs,m≤z)
def IF(t:TA)(td:TE):TE:=fun σ H Q=>t σ H fun xs H1=>td σ H1 fun y H2=>∃(l:Addr) (zs:List Int) (d:Int),xs=[.ref l]∧y=.int d∧H2 l=some (.lst (zs.map V.int))∧zs.length≤10000∧∀m,Dt zs d m→Q (.int m) H2
variable {X:Cx}
theorem Se{e de:Expr}{es:List Expr}{t:TA}{td:TE}{p pos Dr:Pos}(hc:X.calm=true)(ha:PA X (e::es) t)(hd:PE X de td)(hg:Gl X (Str.ofString "min"))(hm:X.mg (Str.ofString "min")=none)(hv:bootBuiltins (Str.ofString "min")=some (.builtin "min"))
  (he:backTo pos (starEach (e::es) X.env)=(false,eval e X.env)::backTo pos (starEach es X.env):=by rfl) (jw:(backTo pos (starEach (e::es) X.env)).any (·.1)=false:=by rfl) :
  PE X (.Call (.Name (Str.ofString "min") p) (e::es) [⟨some (Str.ofString "default"),de,Dr⟩] pos) (IF t td):=by
 intro pins s σ H Q I h
 refine vI (mF I hg hm hv ?_)
 refine callWith_kw (aM (ha pos pins s σ H _ I h) fun us s1 ⟨xs,H1,I1,r1,q1⟩=>?_) he jw
 show wpAny _ _ (evalAll [(do let v ←eval de X.env;standAt pos;pure v)]) _ _ s1
 refine wpAny_evalAll_cons (aC (aM (hd pins s1 σ H1 _ I1 q1) fun u s2 ⟨y,H2,I2,r2,q2⟩=>aC (o6 (bE (wpAny_evalAll_nil ?_)))))
 obtain ⟨l,zs,d,rfl,rfl,hl,h1,k⟩:=q2
 obtain ⟨u',rfl,ru⟩:=vals1 r1
 cases ru
 obtain ⟨Du,rfl⟩:=r2
 show wpAny _ _ (call (.builtin "min") [.ref l] [(Str.ofString "default",.int d Du)]) _ _ s2
 obtain ⟨ak,rv,pl,hz⟩:=I2.list (.of hl)
 have t7:=rv.length
 rw [aD] at t7
 have at':∀(i:Nat) (v:Value),ak[i]?=some v→∃t,v=Value.int (zs.getD i 0) t:=fun i v hi=>by
  have aV:i<zs.length:=by
   have:=(bM.mp hi).1
   omega
  obtain ⟨u,eu,ru⟩:=rv.get (i:=i) (x:=.int (zs[i])) (by simp [aV])
  rw [hi] at eu
  cases eu
  obtain ⟨t,rfl⟩:=ru
  exact ⟨t,by rw [dB,bx aV];rfl⟩
 refine ID (kf:=fun i=>zs.getD i 0) (dflt:=some (.int d Du)) (I2.ok.hd hc) (R9 _ _) rfl pl.isList (Sa at') (.inr ⟨_,rfl⟩) (fun i v h' dr hi best kp=>?_) (fun z0 d' e' h' dr kp=>?_)
 ·obtain ⟨t,rfl⟩:=at' i v hi
  have aV:i<zs.length:=by
   have:=(bM.mp hi).1
   omega
  have gd:∀j (hj:j<zs.length),zs.getD j 0=zs[j]:=fun j hj=>by rw [dB,bx hj];rfl
  refine ⟨.int (zs.getD i 0),H2,I2.kept (t':=dr) kp,⟨t,rfl⟩,k _ (.inr ⟨by rw [gd i aV];exact cS _,fun z hz=>?_⟩)⟩
  obtain ⟨j,hj,rfl⟩:=sN hz
  have:=(best j (by omega)).1
  rw [gd j hj] at this
  exact this
 ·cases e'
  have z1:zs=[]:=Bx.mp (by omega)
  exact ⟨.int d,H2,I2.kept (t':=dr) kp,⟨Du,rfl⟩,k _ (.inl ⟨z1,rfl⟩)⟩
def Sf:List V→Hp→VK→Prop:=fun xs H Q=>∃(l:Addr) (vs:List V) (x y:Nat→Int),xs=[.ref l]∧H l=some (.lst vs)∧0<vs.length∧(∀(i:Nat) (v:V),vs[i]?=some v→(∃b,v=.ref b∧H b=some (.tup [.int (x i),.int (y i)]))∧0≤y i∧y i<1000) ∧
 ∀(i:Nat) (v:V),vs[i]?=some v→(∀j,j<vs.length→x i*1000+y i≤x j*1000+y j)→Q v H
theorem Sg(hc:X.calm=true)(hu:X.A.units+64<cLine):e_ X (.builtin "min") Sf:=by
 intro pins s σ H xs us Q I r h;obtain ⟨l,vs,x,y,rfl,hl,h0,hv,k⟩:=h;obtain ⟨u,rfl,ru⟩:=vals1 r;cases ru;obtain ⟨ak,rv,pl,hz⟩:=I.list (.of hl);have t7:=rv.length;have at':∀i v,ak[i]?=some v→eK s.heap v (x i) (y i)∧0≤y i∧y i<1000:=fun i v hi=>by
  have aV:i<vs.length:=by have:=(bM.mp hi).1;omega
  have gi:vs[i]?=some vs[i]:=by simp [aV]
  obtain ⟨⟨b,eb,hb⟩,CS⟩:=hv i _ gi;obtain ⟨u,eu,ru⟩:=rv.get gi;rw [hi] at eu;cases eu;rw [eb] at ru;cases ru;obtain ⟨_,iK,r2,o,g,cl,e,d⟩:=(show cg X.prog X.w H s.heap b (.tup [.int (x i),.int (y i)]) from I.ay b _ hb);obtain ⟨u1,u2,rfl,q1,q2⟩:=vals2 r2;obtain ⟨t1,rfl⟩:=q1;obtain ⟨t2,rfl⟩:=q2;exact ⟨⟨b,o,t1,t2,e,rfl,g,cl,d⟩,CS⟩
 have Sh:X.A.in1.units<cLine:=by show X.A.units+1<cLine;omega
 refine ID (kf:=fun i=>x i*1000+y i) (dflt:=none) (I.ok.hd hc) (R_ _) rfl pl.isList (Sb Sh at') (.inl (by omega)) (fun i v h' dr hi best kp=>?_) (fun z0=>by omega)
 have aV:i<vs.length:=by have:=(bM.mp hi).1;omega
 have gi:vs[i]?=some vs[i]:=by simp [aV]
 obtain ⟨u,eu,ru⟩:=rv.get gi;rw [hi] at eu;cases eu;exact ⟨vs[i],H,I.kept (t':=dr) kp,ru,k i _ gi fun j hj=>(best j (by omega)).1⟩
end L2
namespace My
open PySem L2
theorem Si{k:Nat}(h:k≤1000):k≤sizeLine:=a9 h (by decide)
def Sj:Sp:=fun vs H Q _=>∃(d:Addr) (done:List Int) (p:Int),vs=[.ref d,.int p]∧H d=some (.tup (done.map V.int))∧done.length≤60 ∧
 ∀(H':Hp) (t:Addr) (ws:List Int),ws.Perm (done++[p])→ws.Pairwise (·≤·)→H t=none→aj H H'→H' t=some (.tup (ws.map V.int))→Q (.ref t) H'
def a_:Nat→List (List Nat)
 | 0=>[[]]
 | k+1=>a_ k++(a_ k).map (·++[k])
theorem xD:∀n,(a_ n).length=2 ^ n
 | 0=>rfl
 | n+1=>by unfold a_;rw [dh,aD,xD n,Nat.pow_succ];omega
theorem dR:∀{n:Nat} {q:List Nat},q∈a_ n↔q.Pairwise (· < ·)∧∀x∈q,x<n
 | 0,q=>by
  show q∈[[]]↔_;rw [bY];constructor
  ·rintro rfl
   exact ⟨.nil,fun x h=>by cases h⟩
  ·rintro ⟨_,h⟩
   cases q with
   | nil=>rfl
   | cons a _=>exact absurd (h a dy) (sP _)
 | n+1,q=>by
  show q∈a_ n++(a_ n).map (·++[n])↔_;rw [dg,cx];constructor
  ·rintro (h | ⟨p,h,rfl⟩)
   ·obtain ⟨h1,h2⟩:=dR.mp h
    exact ⟨h1,fun x hx=>by have:=h2 x hx;omega⟩
   ·obtain ⟨h1,h2⟩:=dR.mp h
    refine ⟨vP.mpr ⟨h1,Bz _ _,fun a ha b hb=>?_⟩,fun x hx=>?_⟩
    ·rw [bY.mp hb]
     exact h2 a ha
    ·rcases dg.mp hx with hx | hx
     ·have:=h2 x hx
      omega
     ·rw [bY.mp hx]
      omega
  ·rintro ⟨h1,h2⟩
   by_cases hn:n∈q
   ·right
    obtain ⟨a,b,rfl⟩:=List.append_of_mem hn;obtain ⟨p1,p2,p3⟩:=vP.mp h1;have b0:b=[]:=by
     cases b with
     | nil=>rfl
     | cons c b=>
      have c1:=(mj.mp p2).1 c dy;have c2:=h2 c (by simp)
      omega
    subst b0;exact ⟨a,dR.mpr ⟨p1,fun x hx=>p3 x hx n dy⟩,rfl⟩
   ·left
    refine dR.mpr ⟨h1,fun x hx=>?_⟩;have:=h2 x hx;have:x≠n:=fun e=>hn (e▸hx);omega
variable {n:Nat}
theorem xE{q:List Nat}(h1:q.Pairwise (· < ·))(h2:∀x∈q,x<n):q.length≤n:=by
 have:=(jm (n:=n));have sub:q ⊆ List.range n:=fun x hx=>b7.mpr (h2 x hx);have nd:q.Nodup:=h1.imp fun h=>bL h;have:=nd.length_le_of_subset sub
 rwa [dt] at this
def jM(H:Hp)(xs:List V)(qs:List (List Nat)):Prop:=xs.length=qs.length∧∀(i:Nat) (v:V) (q:List Nat),xs[i]?=some v→qs[i]?=some q→∃b,v=.ref b∧H b=some (.tup (q.map fun k:Nat=>V.int (k:Int)))
variable {H:Hp} {xs:List V} {qs:List (List Nat)}
theorem jM.mono{H':Hp}(h:jM H xs qs)(s:aj H H'):jM H' xs qs:=⟨h.1,fun i v q h1 h2=>by obtain ⟨b,e,g⟩:=h.2 i v q h1 h2;exact ⟨b,e,s _ _ g⟩⟩
theorem jM.cat{ys:List V}{rs:List (List Nat)}(h:jM H xs qs)(h':jM H ys rs):jM H (xs++ys) (qs++rs):=⟨by rw [dh,dh,h.1,h'.1],fun i v q h1 h2=>by
 by_cases z:i<xs.length
 ·rw [gW z] at h1
  rw [gW (by have:=h.1;omega)] at h2
  exact h.2 i v q h1 h2
 ·rw [gU (by omega)] at h1
  rw [gU (by have:=h.1;omega),←h.1] at h2
  exact h'.2 _ v q h1 h2⟩
def Sk:Sp:=fun vs H Q _=>∃n:Nat,vs=[.int (n:Int)]∧n≤9∧∀(D:Addr) (xs:List V) (H':Hp),aj H H'→H D=none→H' D=some (.lst xs)→jM H' xs (a_ n)→Q (.ref D) H'
def IG(n:Nat)(L:aw)(done:List Nat)(p c:Nat):Prop:=∃f,dP n L f∧lW n f done p c
open Classical in
noncomputable def cR (n:Nat) (L:aw) (done:List Nat) (p:Nat):Int:=if h:∃c,IG n L done p c then ((choose h:Nat):Int)*(choose h:Nat)+3*(choose h:Nat)+1 else 0
variable {p:Nat}
theorem IH{L:aw}{f:Nat→List Nat}{done:List Nat}{c:Nat}(nb:dP n L f)(h:lW n f done p c):(c:Int)*c+3*c+1=cR n L done p:=by have e:∃c,IG n L done p c:=⟨c,f,nb,h⟩;unfold cR;rw [dif_pos e];obtain ⟨g,b9,h'⟩:=Classical.choose_spec e;rw [lW.same nb b9 h h']
def bo(n:Nat)(done:List Nat):List Nat:=(List.range n).filter fun p=>!decide (p∈done)
def aZ:List Nat→Nat→List Nat
 | [],p=>[p]
 | x::l,p=>if p<x then p::x::l else x::aZ l p
theorem ky:∀{l:List Nat} {p q:Nat},q∈aZ l p↔q=p∨q∈l
 | [],p,q=>by simp [aZ]
 | x::l,p,q=>by
  unfold aZ
  split
  ·simp
  ·rw [cf,ky,cf]
   constructor
   ·rintro (h | h | h)
    ·exact .inr (.inl h)
    ·exact .inl h
    ·exact .inr (.inr h)
   ·rintro (h | h | h)
    ·exact .inr (.inl h)
    ·exact .inl h
    ·exact .inr (.inr h)
theorem oO:∀{l:List Nat} {p:Nat},l.Pairwise (· < ·)→p∉l→(aZ l p).Pairwise (· < ·)
 | [],p,_,_=>Bz _ _
 | x::l,p,h,hp=>by
  obtain ⟨h1,h2⟩:=mj.mp h;unfold aZ
  split
  ·rename_i lt
   exact mj.mpr ⟨fun a ha=>by
    rcases cf.mp ha with rfl | ha;·exact lt
    ·have:=h1 a ha
     omega,h⟩
  ·rename_i lt
   have px:p≠x:=fun e=>hp (e▸dy);refine mj.mpr ⟨fun a ha=>?_,oO h2 fun z=>hp (cw _ z)⟩;rcases ky.mp ha with rfl | ha;·omega
   ·exact h1 a ha
theorem zY:∀{l:List Nat} {p:Nat},(aZ l p).length=l.length+1
 | [],p=>rfl
 | x::l,p=>by
  unfold aZ
  split
  ·rfl
  ·rw [eB,zY,eB]
theorem II{done:List Nat}{ws:List Int}(up:done.Pairwise (· < ·))(hp:p∉done)(pm:ws.Perm (done.map iN++[(p:Int)]))(so:ws.Pairwise (·≤·)):ws=(aZ done p).map iN:=by
 obtain ⟨vs,pv,rfl⟩:=perm_back pm (done++[p]) (by rw [eN];rfl)
 have nd:(done++[p]).Nodup:=by
  rw [kT];refine ⟨up.imp fun h=>bL h,by simp,fun a ha b hb e=>?_⟩
  rw [bY] at hb;subst hb;subst e;exact hp ha
 have vu:vs.Pairwise (· < ·):=Ro pv nd so;rw [Ik vu (oO up hp) fun q=>by rw [pv.mem_iff,ky,dg,bY];exact Or.comm]
def xF(done:List Nat):V→Bool
 | .int z=>!decide (z.toNat∈done)
 | _=>false
theorem Sl(done:List Nat)(q:Nat):xF done (.int (0+(q:Int))) = !iL (.int (0+(q:Int))) (done.map fun k:Nat=>V.int (k:Int)):=by rw [kU,mZ];show (!decide (((q:Nat):Int).toNat∈done))=_;rw [cZ]
theorem Sm(n:Nat)(done:List Nat):((List.range n).map fun i:Nat=>V.int (0+(i:Int))).filter (xF done)=(bo n done).map fun k:Nat=>V.int (k:Int):=by
 rw [yE];unfold bo;rw [show (List.range n).filter (xF done ∘ fun i:Nat=>V.int (0+(i:Int)))=(List.range n).filter (fun p=>!decide (p∈done)) from List.filter_congr fun q _=>by show xF done (.int (0+(q:Int)))=_;rw [kU];show (!decide (((q:Nat):Int).toNat∈done))=_;rw [cZ]]
 exact iF fun q _=>by rw [kU]
def cY(q:List Nat):List Key:=q.map fun k:Nat=>.inl (k:Int)
def IJ(H:Hp)(n:Nat)(L:aw)(W:List Nat→Int)(done:List Nat)(xs:List V):Prop:=xs.length=(bo n done).length∧∀(i:Nat) (v:V) (p:Nat),xs[i]?=some v→(bo n done)[i]?=some p→∃b,v=.ref b∧H b=some (.tup [.int (cR n L done p+W (aZ done p)),.int (p:Int)])
def Sn:Sp:=fun vs H Q _=>∃(tp d wo:Addr) (n:Nat) (L:aw) (done:List Nat) (kvs:List (List Key×V)) (W:List Nat→Int),vs=[.ref tp,.ref d,.ref wo]∧dO H tp n L∧eX n L∧n≤9∧H d=some (.tup (done.map fun k:Nat=>V.int (k:Int)))∧done∈a_ n∧H wo=some (.dT kvs) ∧
 (∀p,p<n→p∉done→eW kvs (cY (aZ done p))=some (.int (W (aZ done p))))∧∀(H':Hp) (D:Addr) (xs:List V),aj H H'→H' D=some (.lst xs)→IJ H' n L W done xs→Q (.ref D) H'
end My
namespace L2
open PySem PySem.Spec PyProof.Rows My
variable {K:aH} {Z:aw}
theorem IK{a:Addr}{us:List V}{H1:Hp}(h:H1 a=some (.lst us))(hZ:bU H1 us Z):Dk (mG K a) Z H1:=by
 have js:j8 (mG K a) us H1:=iP (.of h);refine ⟨fun i Hc s hi=>js.go i Hc s (by rw [hZ.1];exact hi),fun i Hc v H' s y=>?_,fun i Hc s hi=>js.stop i Hc s (by rw [hZ.1];exact hi)⟩
 obtain ⟨rfl,hx⟩:=js.dW i Hc v H' s y;refine ⟨aj.refl _,fun z hz=>?_⟩;have hi:i<us.length:=by rw [hZ.1];exact (bM.mp hz).1
 obtain ⟨b,e,g⟩:=hZ.2 i v z (hx hi) hz;exact ⟨b,e,s _ _ g⟩
theorem So{wi:TI}{ρ:St→St}{te:TE}{σ:St}{H:Hp}{Q:VK}(d6:∀R:It→Hp→Prop,(∀J H1,aj H H1→Dk J Z H1→R J H1)→wi σ H R)(hn:Z.length<sizeLine)
  (step:∀z∈Z,∀(Hc:Hp) (R:VK),R (.int z.1) Hc→te (some (.int z.1)::some (.int z.2)::ρ σ) Hc R)
  (fin:∀D Hc,H D=none→aj H Hc→Hc D=some (.lst ((Z.map (·.1)).map V.int))→Q (.ref D) Hc):qp K wi ρ (fun _ H Q=>Q true H) te σ H Q:=by
 refine d6 _ fun J H1 s1 js=>?_;intro D nD;refine ⟨fun i m us Hc=>m=Z.length-i∧i≤Z.length∧Hc D=some (.lst us)∧aj H1 Hc∧us.length≤i∧us=((Z.take i).map (·.1)).map V.int,⟨_,rfl,ba _,au,d7 (aj.refl H1) nD,ax _,rfl⟩,?_⟩;rintro i m us Hc ⟨rfl,hi,eD,sH,lu,hL⟩;refine ⟨eD,?_⟩;by_cases aU:i<Z.length
 ·refine .inr ⟨js.go i Hc sH aU,fun v H' hy=>?_⟩
  obtain ⟨s',k⟩:=js.dW i Hc v H' sH hy;obtain ⟨T,rfl,eT⟩:=k Z[i] (by simp [aU])
  have tk:Z.take (i+1)=Z.take i++[Z[i]]:=by rw [jo,bx aU];rfl
  have mz:Z[i]∈Z:=cS aU;generalize Z[i]=z at eT tk mz;refine ⟨T,_,_,rfl,.of eT,?_⟩;dsimp only;rw [ae rfl];refine step z mz _ _ ?_;refine ⟨s' _ _ eD,by omega,Z.length-(i+1),by omega,rfl,aU,au,d7 (sH.trans s') nD,by simp;omega,?_⟩
  rw [tk,eN,eN,←hL];rfl
 ·have e:i=Z.length:=by omega
  subst e;rw [gp] at hL;subst hL;exact .inl ⟨js.stop _ Hc sH (ax _),fin D Hc (none_of s1 nD) (s1.trans sH) eD⟩
end L2
namespace My
open PySem L2
def t9(d:Int):List Int→Int
 | []=>d
 | z::zs=>zs.foldl min z
theorem fold_min:∀(zs:List Int) (z:Int),zs.foldl min z∈z::zs∧∀y∈z::zs,zs.foldl min z≤y
 | [],z=>⟨dy,fun y hy=>by rw [bY.mp hy];exact jl _⟩
 | x::zs,z=>by
  obtain ⟨h1,h2⟩:=fold_min zs (min z x);show zs.foldl min (min z x)∈_∧_;constructor
  ·rcases cf.mp h1 with e | h
   ·rw [e]
    by_cases q:z≤x
    ·rw [Int.min_eq_left q]
     exact dy
    ·rw [Int.min_eq_right (by omega)]
     exact cw _ dy
   ·exact cw _ (cw _ h)
  ·intro y hy
   have h0:=h2 _ dy;rcases cf.mp hy with e | hy
   ·rw [e]
    exact dq h0 (Int.min_le_left _ _)
   ·rcases cf.mp hy with e | hy
    ·rw [e]
     exact dq h0 (Int.min_le_right _ _)
    ·exact h2 y (cw _ hy)
variable {zs:List Int}
theorem Sq{d m:Int}(h:Dt zs d m):m=t9 d zs:=by
 rcases h with ⟨rfl,rfl⟩ | ⟨h1,h2⟩;·rfl
 ·cases zs with
  | nil=>cases h1
  | cons z zs=>obtain ⟨f1,f2⟩:=fold_min zs z;exact Int.le_antisymm (h2 _ f1) (f2 _ h1)
noncomputable def wF (n:Nat) (L:aw):Nat→List Nat→Int
 | 0,_=>0
 | k+1,S=>t9 0 ((bo n S).map fun p=>cR n L S p+wF n L k (aZ S p))
noncomputable def wW (n:Nat) (L:aw) (S:List Nat):Int:=wF n L (n-S.length) S
variable {n:Nat} {S:List Nat}
theorem IL(h:S∈a_ n)(hl:n≤S.length):bo n S=[]:=by
 obtain ⟨h1,h2⟩:=dR.mp h;refine List.eq_nil_iff_forall_not_mem.mpr fun p hp=>?_;obtain ⟨p1,p2⟩:=cu.mp hp;have pn:=b7.mp p1;have pS:p∉S:=by simpa using p2
 have up:=oO h1 pS;have:=xE (n:=n) up fun x hx=>by
  rcases ky.mp hx with rfl | hx;·exact pn
  ·exact h2 x hx
 rw [zY] at this;omega
variable {L:aw}
theorem xG(h:S∈a_ n):wW n L S=t9 0 ((bo n S).map fun p=>cR n L S p+wW n L (aZ S p)):=by
 unfold wW;by_cases hl:S.length<n
 ·obtain ⟨k,hk⟩:∃k,n-S.length=k+1:=⟨n-S.length-1,by omega⟩
  rw [hk];show t9 0 _=_
  congr 1
  refine iF fun p hp=>?_;rw [zY,show n-(S.length+1)=k by omega]
 ·rw [IL h (by omega),show n-S.length=0 by omega]
  rfl
theorem IM{a b:List Nat}(h:cY a=cY b):a=b:=by
 have h1:∀l:List Nat,(cY l).map (fun k=>match k with | .inl z=>z.toNat | .inr _=>0)=l:=fun l=>by
  unfold cY
  rw [cm]
  conv=>rhs;rw [←sV l]
  exact iF fun k _=>cZ k
 rw [←h1 a,←h1 b,h]
def wD(W:List Nat→Int)(qs:List (List Nat)):List (List Key×V):=qs.map fun q=>(cY q,.int (W q))
theorem xH(W:List Nat→Int):∀{qs:List (List Nat)} {q:List Nat},q∈qs→eW (wD W qs) (cY q)=some (.int (W q))
 | [],_,h=>by cases h
 | r::qs,q,h=>by
  by_cases e:r=q
  ·subst e
   exact xj rfl
  ·show eW ((cY r,V.int (W r))::wD W qs) (cY q)=_
   rw [xk fun z=>e (IM z)];exact xH W ((cf.mp h).resolve_left fun z=>e z.symm)
variable {qs:List (List Nat)} {q:List Nat}
theorem Sr(W:List Nat→Int)(h:q∉qs):putK (wD W qs) (cY q) (.int (W q))=wD W (qs++[q]):=by
 unfold putK;rw [aa fun z=>?_]
 ·unfold wD
  rw [eN];rfl
 ·obtain ⟨kv,hm,e⟩:=yB.mp z
  obtain ⟨r,hr,rfl⟩:=cx.mp hm;exact h (IM (fz e)▸hr)
theorem Dv:∀n,(a_ n).Nodup
 | 0=>by show [[]].Nodup;simp
 | n+1=>by
  show (a_ n++(a_ n).map (·++[n])).Nodup;rw [kT];refine ⟨Dv n,(pF.mpr ((Dv n).imp fun h e=>h (List.append_cancel_right e))),fun a ha b hb e=>?_⟩;obtain ⟨c,_,rfl⟩:=cx.mp hb;have:=(dR.mp ha).2 n (by rw [e];simp)
  omega
def Ss:Sp:=fun vs H Q _=>∃(tp:Addr) (n:Nat) (L:aw),vs=[.ref tp]∧dO H tp n L∧eX n L∧n≤9 ∧
 ∀(H':Hp) (D:Addr) (qs:List (List Nat)),aj H H'→H D=none→H' D=some (.dT (wD (wW n L) qs))→qs.Perm (a_ n)→Q (.ref D) H'
variable {H:Hp}
theorem Su{K:aH}{wi:TI}{ρ:St→St}{tt:TT}{te td:TE}{σ:St}{Q:VK}(h:qp K wi ρ tt te σ H fun x H1=>td σ H1 fun y H2=>∃(l:Addr) (zs:List Int) (d:Int),[x]=[V.ref l]∧y=.int d∧H2 l=some (.lst (zs.map V.int))∧zs.length≤10000∧∀m,Dt zs d m→Q (.int m) H2):IF (tE (qp K wi ρ tt te) wd) td σ H Q:=h
structure Dw (n:Nat) (qs:List (List Nat)):Prop where
 pm:qs.Perm (a_ n)
 dn:qs.Pairwise fun a b=>b.length≤a.length
theorem Sv{p:List Nat}(h:oK (a_ n).length (fun i=>((((a_ n).getD i []).length:Nat):Int)) p):Dw n (p.map fun i=>(a_ n).getD i []):=by
 refine ⟨?_,?_⟩
 ·have e:(List.range (a_ n).length).map (fun i=>(a_ n).getD i [])=a_ n:=by
   refine gY (by simp) fun i h1 h2=>?_
   simp [h2]
  have:=h.pm.map fun i=>(a_ n).getD i [];rw [e] at this;exact this
 ·rw [pF]
  exact h.dn.imp fun h=>Int.ofNat_le.mp h
variable {j p:Nat}
theorem Sw(h:Dw n qs)(hq:qs[j]?=some q)(pn:p<n)(pq:p∉q):aZ q p∈qs.take j:=by
 have hj:=(bM.mp hq).1;obtain ⟨q1,q2⟩:=dR.mp (h.pm.mem_iff.mp (iX hq));have hm:aZ q p∈qs:=h.pm.mem_iff.mpr (dR.mpr ⟨oO q1 pq,fun x hx=>by
  rcases ky.mp hx with rfl | hx;·exact pn
  ·exact q2 x hx⟩)
 obtain ⟨i,hi,e⟩:=sN hm;by_cases ij:i<j;·exact vT.mpr ⟨i,by omega,e⟩
 ·exfalso
  have jN:qs[j]=q:=by have:=bx hj;rw [hq] at this;exact (Option.some.inj this).symm
  have l1:=zY (l:=q) (p:=p);by_cases z:i=j
  ·subst z
   rw [←e,jN] at l1;omega
  ·have:=mh.mp h.dn j i hj hi (by omega)
   rw [e,jN,l1] at this;omega
theorem Sx(h:Dw n qs)(hq:qs[j]?=some q):q∉qs.take j∧qs.take (j+1)=qs.take j++[q]:=by
 have hj:=(bM.mp hq).1;have nd:qs.Nodup:=h.pm.nodup_iff.mpr (Dv n);refine ⟨fun hm=>?_,by rw [jo,hq];rfl⟩
 obtain ⟨i,hi,e⟩:=vT.mp hm;have jN:qs[j]=q:=by have:=bx hj;rw [hq] at this;exact (Option.some.inj this).symm
 exact mh.mp (By.mp nd) i j (by omega) hj (by omega) (e.trans jN.symm)
variable {xs:List V}
theorem Sy(h:jM H xs qs){p:List Nat}(hp:∀i∈p,i<qs.length):jM H (p.map fun i=>xs.getD i .aN) (p.map fun i=>qs.getD i []):=by
 refine ⟨by rw [aD,aD],fun k v q h1 h2=>?_⟩
 rw [bP] at h1 h2;cases e:p[k]? with
 | none=>rw [e] at h1;cases h1
 | some i=>
  rw [e] at h1 h2;cases h1;cases h2;have hi:=hp i (iX e);have hx:i<xs.length:=by rw [h.1];exact hi
  refine h.2 i _ _ ?_ ?_
  ·show xs[i]?=some (xs.getD i V.aN)
   rw [dB,bx hx];rfl
  ·show qs[i]?=some (qs.getD i [])
   rw [dB,bx hi];rfl
theorem Dy{W:List Nat→Int}{done:List Nat}(h:IJ H n L W done xs):bU H xs ((bo n done).map fun p=>(cR n L done p+W (aZ done p),(p:Int))):=by
 refine ⟨by rw [h.1,aD],fun k v z h1 h2=>?_⟩
 rw [bP] at h2;cases e:(bo n done)[k]? with
 | none=>rw [e] at h2;cases h2
 | some p=>rw [e] at h2;cases h2;exact h.2 k v p h1 e
noncomputable def gQ (n:Nat) (L:aw):List Nat→List Nat→Int
 | _,[]=>0
 | S,p::o=>cR n L S p+gQ n L (aZ S p) o
theorem IP(n:Nat)(L:aw):∀(o:List Nat) (S:List Nat) (p:Nat),gQ n L S (o++[p])=gQ n L S o+cR n L (o.foldl aZ S) p
 | [],S,p=>by show cR n L S p+0=0+cR n L S p;omega
 | x::o,S,p=>by show cR n L S x+gQ n L (aZ S x) (o++[p])=cR n L S x+gQ n L (aZ S x) o+cR n L (o.foldl aZ (aZ S x)) p;rw [IP n L o (aZ S x) p];omega
theorem IQ{z:Int}(h:zs≠[]):t9 z zs∈zs∧∀y∈zs,t9 z zs≤y:=by
 cases zs with
 | nil=>exact absurd rfl h
 | cons x zs=>exact fold_min zs x
structure qI (n:Nat) (L:aw) (o S:List Nat):Prop where
 eq:S=o.foldl aZ []
 pm:S.Perm o
 mem:S∈a_ n
 IS:gQ n L [] o+wW n L S=wW n L []
theorem qI.start(n:Nat)(L:aw):qI n L [] []:=⟨rfl,.nil,dR.mpr ⟨.nil,fun x h=>by cases h⟩,by show 0+_=_;omega⟩
theorem IT:∀(l:List Nat) (p:Nat),(aZ l p).Perm (l++[p])
 | [],p=>.refl _
 | x::l,p=>by
  unfold aZ
  split
  ·exact (List.perm_append_singleton p (x::l)).symm
  ·exact (IT l p).cons x
variable {o:List Nat}
theorem qI.next(h:qI n L o S)(hp:p∈bo n S)(hm:∀q∈bo n S,cR n L S p+wW n L (aZ S p)≤cR n L S q+wW n L (aZ S q)):qI n L (o++[p]) (aZ S p):=by
 obtain ⟨p1,p2⟩:=cu.mp hp;have pn:=b7.mp p1;have pS:p∉S:=by simpa using p2
 obtain ⟨m1,m2⟩:=dR.mp h.mem;refine ⟨by rw [List.foldl_append,←h.eq];rfl,(IT S p).trans (h.pm.append_right [p]),dR.mpr ⟨oO m1 pS,fun x hx=>?_⟩,?_⟩
 ·rcases ky.mp hx with rfl | hx
  ·exact pn
  ·exact m2 x hx
 ·have st:=xG (L:=L) h.mem
  obtain ⟨f1,f2⟩:=IQ (z:=0) (zs:=(bo n S).map fun p=>cR n L S p+wW n L (aZ S p)) (fun e=>by rw [yH] at e;rw [e] at hp;cases hp)
  rw [←st] at f1 f2;obtain ⟨q,hq,e⟩:=cx.mp f1;have h1:=hm q hq;have h2:=f2 _ (cx.mpr ⟨p,hp,rfl⟩);have:=h.IS;rw [IP,←h.eq];omega
theorem Sz(h:S∈a_ n)(hl:S.length<n):0<(bo n S).length:=by
 refine Nat.pos_of_ne_zero fun e=>?_;have e:=Bx.mp e;have sub:List.range n ⊆ S:=fun x hx=>by
  refine yI fun no=>?_;have:x∈bo n S:=cu.mpr ⟨hx,by simpa using no⟩
  rw [e] at this;cases this
 have:=(jm (n:=n)).length_le_of_subset sub;rw [dt] at this;omega
theorem SA(h:S∈a_ n)(hl:S.length=n):S=List.range n:=by
 obtain ⟨h1,h2⟩:=dR.mp h;refine Ik h1 (oJ n) fun p=>⟨fun hp=>b7.mpr (h2 p hp),fun hp=>?_⟩;refine yI fun no=>?_;have:p∈bo n S:=cu.mpr ⟨hp,by simpa using no⟩
 rw [IL h (by omega)] at this
 cases this
def SD:Sp:=fun vs H Q _=>∃(tp:Addr) (n:Nat) (L:aw),vs=[.ref tp]∧dO H tp n L∧eX n L∧n≤9 ∧
 ∀(H':Hp) (t lo:Addr) (o:List Nat),aj H H'→H lo=none→H' t=some (.tup [.ref lo,.int (wW n L [])])→H' lo=some (.lst (o.map fun k:Nat=>V.int (k:Int)))→o.Perm (List.range n)→gQ n L [] o=wW n L []→Q (.ref t) H'
theorem SE(h:(p::o).Perm (bo n S)):o.Perm (bo n (aZ S p)):=by
 have nl:(bo n S).Nodup:=jm.filter _;have nd:=h.nodup_iff.mpr nl;obtain ⟨n1,n2⟩:=jj.mp nd;refine (sW n2 (jm.filter _)).mpr fun q=>?_;have hq:=h.mem_iff (a:=q);have e1:∀T:List Nat,q∈bo n T↔q<n∧q∉T:=fun T=>by unfold bo;rw [cu,b7];simp
 rw [e1,cf] at hq;show q∈o↔q∈bo n (aZ S p);rw [e1,ky];constructor
 ·intro ho
  have:=hq.mp (.inr ho);exact ⟨this.1,fun z=>z.elim (fun e=>n1 (e▸ho)) this.2⟩
 ·rintro ⟨h1,h2⟩
  rcases hq.mpr ⟨h1,fun z=>h2 (.inr z)⟩ with e | ho;·exact absurd (.inl e) h2
  ·exact ho
theorem IU{n:Nat}{L:aw}:∀(o S:List Nat),S∈a_ n→o.Perm (bo n S)→wW n L S≤gQ n L S o
 | [],S,hS,h=>by have e:bo n S=[]:=h.symm.eq_nil;rw [xG hS,e];exact jl _
 | p::o,S,hS,h=>by
  have hp:p∈bo n S:=h.mem_iff.mp dy;obtain ⟨p1,p2⟩:=cu.mp hp;have pn:=b7.mp p1;have pS:p∉S:=by simpa using p2
  obtain ⟨m1,m2⟩:=dR.mp hS;have ih:=IU (L:=L) o (aZ S p) (dR.mpr ⟨oO m1 pS,fun x hx=>by
   rcases ky.mp hx with rfl | hx;·exact pn
   ·exact m2 x hx⟩) (SE h)
  have f2:=(IQ (z:=0) (zs:=(bo n S).map fun p=>cR n L S p+wW n L (aZ S p)) (fun e=>by rw [yH] at e;rw [e] at hp;cases hp)).2
  rw [←xG hS] at f2;have h2:=f2 _ (cx.mpr ⟨p,hp,rfl⟩);show wW n L S≤cR n L S p+gQ n L (aZ S p) o;omega
theorem SF(ho:o.Perm (List.range n)):wW n L []≤gQ n L [] o:=by
 refine IU o [] (dR.mpr ⟨.nil,fun x h=>by cases h⟩) (ho.trans ?_)
 have:bo n []=List.range n:=by unfold bo;exact List.filter_eq_self.mpr fun a _=>by simp
 rw [this]
theorem IV:∀(pre S:List Nat) (q:Nat),q∈pre.foldl aZ S↔q∈pre∨q∈S
 | [],S,q=>by simp
 | x::pre,S,q=>by
  show q∈pre.foldl aZ (aZ S x)↔_;rw [IV pre,ky,cf];constructor
  ·rintro (h | h | h)
   ·exact .inl (.inr h)
   ·exact .inl (.inl h)
   ·exact .inr h
  ·rintro ((h | h) | h)
   ·exact .inr (.inl h)
   ·exact .inl h
   ·exact .inr (.inr h)
open Classical in
theorem SG(ho:o.Perm (List.range n))(bj:eX n L){x:Nat}(xn:x<n)(hS:∀y,y∈S↔cX n o (o.idxOf x) y){ms:List Nat}(h:jI n o x ms∧kr n L o x ms):((ms.length:Nat):Int)*ms.length+3*ms.length+1=cR n L S x:=by
 have nb:dP n L (fun i=>(List.range n).filter fun j=>rL L i j):=fun i j hi=>by
  rw [cu,b7,jK];constructor;·exact fun h=>h.2
  ·intro h
   refine ⟨?_,h⟩;rcases h with e | e
   ·have:=bj _ e
    omega
   ·have:=bj _ e
    omega
 generalize (fun i=>(List.range n).filter fun j=>rL L i j)=f at nb;have ad:∀a b,fu n f a b↔aL n L a b:=fun a b=>by
  unfold fu aL;constructor
  ·rintro ⟨h1,h2⟩
   have h3:=(nb a b h1).mp h2;refine ⟨h1,?_,h3⟩;rcases h3 with e | e
   ·have:=bj _ e
    omega
   ·have:=bj _ e
    omega
  ·rintro ⟨h1,_,h3⟩
   exact ⟨h1,(nb a b h1).mpr h3⟩
 have rc:∀q,kq (fu n f) (·∈S) x q↔q=x∨Wk (aL n L) (cX n o (o.idxOf x)) x q:=fun q=>by
  rw [Ie];constructor
  ·rintro (e | w)
   ·exact .inl e
   ·exact .inr ((w.imp fun a b=>(ad a b).mp).mono fun y=>(hS y).mp)
  ·rintro (e | w)
   ·exact .inl e
   ·exact .inr ((w.imp fun a b=>(ad a b).mpr).mono fun y=>(hS y).mpr)
 have wl:∀q,Wk (aL n L) (cX n o (o.idxOf x)) x q→q<n:=fun q w=>by
  cases w with
  | one ab=>exact ab.2.1
  | more _ _ ab=>exact ab.2.1
 refine IH nb ⟨(List.range n).filter fun q=>decide (kq (fu n f) (·∈S) x q),⟨jm.filter _,fun k hk=>b7.mp (cu.mp hk).1⟩,fun q=>?_,?_⟩
 ·rw [cu,b7,eY]
  refine ⟨fun h=>h.2,fun h=>⟨?_,h⟩⟩;rcases (rc q).mp h with e | w;·rw [e];exact xn
  ·exact wl q w
 ·refine ((sW (h.1.up.imp fun h=>bL h) ((jm.filter _).filter _)).mpr fun q=>?_).length_eq
  rw [h.2 q,cu,cu,b7,eY,rc q];constructor
  ·rintro ⟨h1,h2,h3⟩
   refine ⟨⟨h1,.inr h3⟩,?_⟩;have qx:q≠x:=fun e=>by subst e;omega
   have qS:q∉S:=fun z=>by have:=((hS q).mp z).2;omega
   simp [qx,qS]
  ·rintro ⟨⟨h1,h2⟩,h3⟩
   have qx:q≠x:=fun e=>by simp [e] at h3
   have qS:q∉S:=fun z=>by simp [z] at h3
   refine ⟨h1,?_,h2.resolve_left qx⟩;have ne:=jb ho h1 xn qx;have:¬o.idxOf q<o.idxOf x:=fun z=>qS ((hS q).mpr ⟨h1,z⟩);omega
theorem IW{n:Nat}{L:aw}{o:List Nat}(ho:o.Perm (List.range n))(bj:eX n L){g:Nat→List Nat}(hg:∀p,p<n→jI n o p (g p)∧kr n L o p (g p)):∀(l pre:List Nat),o=pre++l→gQ n L (pre.foldl aZ []) l=(l.map fun x=>(((g x).length:Nat):Int)*(g x).length+3*(g x).length+1).sum
 | [],_,_=>rfl
 | x::l,pre,e=>by
  have nd:=oF ho;rw [e,kT] at nd;obtain ⟨np,nx,dj⟩:=nd;have xn:x<n:=(fm ho).mp (by rw [e];simp)
  have ix:o.idxOf x=pre.length:=by rw [e,nS,aa fun h=>dj x h x dy rfl,yF,d9]
  have hS:∀y,y∈pre.foldl aZ []↔cX n o (o.idxOf x) y:=fun y=>by
   rw [IV,ix];unfold cX;constructor
   ·rintro (h | h)
    ·refine ⟨(fm ho).mp (by rw [e];simp [h]),?_⟩
     rw [e,nS,ae h];exact mr h
    ·cases h
   ·rintro ⟨h1,h2⟩
    refine .inl (yI fun no=>?_);rw [e,nS,aa no] at h2;omega
  have c:=SG ho bj xn hS (hg x xn);have ih:=IW ho bj hg l (pre++[x]) (by rw [e];simp)
  rw [List.foldl_append] at ih;show cR n L (pre.foldl aZ []) x+gQ n L (aZ (pre.foldl aZ []) x) l=_;rw [di,eZ,←c];exact d8 _ ih
def SH:Sp:=fun vs H Q _=>∃(t a:Addr) (n:Nat) (L:aw) (o:List Nat),vs=[.ref t,.ref a]∧dO H t n L∧eX n L∧n≤30∧L.length≤500∧H a=some (.lst (o.map fun k:Nat=>V.int (k:Int)))∧o.Perm (List.range n) ∧
 ∀(H':Hp) (M:aw),aj H H'→eL n L o M→Q (.int (gP n M:Int)) H'
theorem SI{M:aw}(ho:o.Perm (List.range n))(bj:eX n L)(f:eL n L o M){g:Nat→List Nat}(hg:∀p,p<n→jI n o p (g p)∧kr n L o p (g p)):gQ n L [] o=(gP n M:Int):=by
 have h1:=IW ho bj hg o [] rfl;have h2:=Iu ho f hg;have h3:∀l:List Nat,(l.map fun x=>(((g x).length:Nat):Int)*(g x).length+3*(g x).length+1).sum=(((l.map fun x=>(g x).length*(g x).length+3*(g x).length+1).sum:Nat):Int):=fun l=>by
  induction l with
  | nil=>rfl
  | cons x l ih=>rw [di,eZ,di,eZ,ih];push_cast;rfl
 show gQ n L (([]:List Nat).foldl aZ []) o=_;rw [h1,h3,←h2,(ho.map fun x=>(g x).length*(g x).length+3*(g x).length+1).sum_nat]
end My
namespace L2
open PySem
section
variable {prog:Program} {w:World} {A:Around} {E:aK} {s:Shared}
theorem SJ{d:Addr}{es:Array DictEntry}{ep:Nat}{Q:aK}(hd:(d == sysModules)=false)(hm:Dp s.heap d es ep)(Gp:(es.size:Int)<2 ^ 63)
  (h:Q (.int es.size (s.toks+1)) {s with toks:=s.toks+1+1}):wpAny (model prog w) A (call (.builtin "len") [.ref d]) Q E s:=by
 refine PyProof.Rows.call_len_slot (n:=es.size) hm.ty F.slot_dict_len (fun Q' hq=>?_) (by omega) (by omega) h
 refine wpAny_call_entry F.slot_dict_len hm.ty F.entry_dict_len ?_ (F.args_dict_len_1 _);obtain ⟨o,ho,hc,SK⟩:=hm;show wpAny _ _ (dictSize d >>= _) _ _ s;unfold dictSize;refine aC (aC (wpAny_dictEntries ho SK (bE ?_)));show wpAny _ _ (Builtin.Dict.pendingCount d >>= _) _ _ s;refine aC (wpAny_pendingCount_other hd ?_);refine wpAny_ret_mkInt ?_;show Q' (.int ((es.size:Int)+(0:Int)) s.toks) _;rw [Int.add_zero];exact hq
end
theorem SM{X:Cx}:e_ X (.builtin "len") (fun xs H Q=>∃a kvs,xs=[V.ref a]∧H a=some (.dT kvs)∧kvs.length≤10000∧Q (.int kvs.length) H):=by
 intro pins s σ H xs us Q I r h;obtain ⟨d,kvs,rfl,hp,hn,q⟩:=h;obtain ⟨u,rfl,ru⟩:=vals1 r;cases ru;obtain ⟨_,sys,yN,kt,o,es,ep,g,c,dd,e4,e5,e6⟩:=HA I.ay hp;have sz:es.size=kvs.length:=by rw [size_of_entries e4,←Paired.length kt]
 exact SJ sys ⟨o,g,c,dd⟩ (by omega) ⟨.int kvs.length,H,I.tok _,⟨s.toks+1,by rw [sz]⟩,q⟩
open PySem PySem.Spec PyProof.Rows My
variable {K:aH} {wi:TI} {ρ:St→St} {te:TE} {σ:St} {H:Hp} {Q:VK}
theorem SN{Z:aw}(f:Int×Int→V)(d6:∀R:It→Hp→Prop,(∀J H1,aj H H1→Dk J Z H1→R J H1)→wi σ H R)(hn:Z.length<sizeLine)
  (step:∀z∈Z,∀(Hc:Hp) (R:VK),aj H Hc→R (f z) Hc→te (some (.int z.1)::some (.int z.2)::ρ σ) Hc R)
  (fin:∀D Hc,H D=none→aj H Hc→Hc D=some (.lst (Z.map f))→Q (.ref D) Hc):qp K wi ρ (fun _ H Q=>Q true H) te σ H Q:=by
 refine d6 _ fun J H1 s1 js=>?_;intro D nD;refine ⟨fun i m us Hc=>m=Z.length-i∧i≤Z.length∧Hc D=some (.lst us)∧aj H1 Hc∧us.length≤i∧us=(Z.take i).map f,⟨_,rfl,ba _,au,d7 (aj.refl H1) nD,ax _,rfl⟩,?_⟩;rintro i m us Hc ⟨rfl,hi,eD,sH,lu,hL⟩;refine ⟨eD,?_⟩;by_cases aU:i<Z.length
 ·refine .inr ⟨js.go i Hc sH aU,fun v H' hy=>?_⟩
  obtain ⟨s',k⟩:=js.dW i Hc v H' sH hy;obtain ⟨T,rfl,eT⟩:=k Z[i] (by simp [aU])
  have tk:Z.take (i+1)=Z.take i++[Z[i]]:=by rw [jo,bx aU];rfl
  have mz:Z[i]∈Z:=cS aU;generalize Z[i]=z at eT tk mz;refine ⟨T,_,_,rfl,.of eT,?_⟩;dsimp only;rw [ae rfl];refine step z mz _ _ (s1.trans (sH.trans s')) ?_;refine ⟨s' _ _ eD,by omega,Z.length-(i+1),by omega,rfl,aU,au,d7 (sH.trans s') nD,by simp;omega,?_⟩
  rw [tk,eN,←hL];rfl
 ·have e:i=Z.length:=by omega
  subst e;rw [gp] at hL;subst hL;exact .inl ⟨js.stop _ Hc sH (ax _),fin D Hc (none_of s1 nD) (s1.trans sH) eD⟩
theorem SO{r:List V→Hp→VK→Prop}{tt:TT}(h:qp K wi ρ tt te σ H fun x H1=>r [x] H1 Q):wg r (tE (qp K wi ρ tt te) wd) σ H Q:=h
end L2
namespace My
open PySem L2
open Classical in
noncomputable def qJ (n:Nat) (L:aw) (W:List Nat→Int) (S:List Nat):Bool:=decide (∀p∈bo n S,W S≤cR n L S p+W (aZ S p))
def SQ:Sp:=fun vs H Q _=>∃(tp d wo:Addr) (n:Nat) (L:aw) (done:List Nat) (kvs:List (List Key×V)) (W:List Nat→Int),vs=[.ref tp,.ref d,.ref wo]∧dO H tp n L∧eX n L∧n≤9∧H d=some (.tup (done.map fun k:Nat=>V.int (k:Int)))∧done∈a_ n∧H wo=some (.dT kvs) ∧
 (∀p,p<n→p∉done→eW kvs (cY (aZ done p))=some (.int (W (aZ done p))))∧eW kvs (cY done)=some (.int (W done))∧∀H':Hp,aj H H'→Q (.bl (qJ n L W done)) H'
theorem zZ{n:Nat}{L:aw}{o:List Nat}(ho:o.Perm (List.range n))(cl:xy n (aL n L) (fun a=>o.idxOf a)):∀(k a b:Nat),a<n→b<n→k≤o.idxOf a→k≤o.idxOf b→a≠b→Wk (aL n L) (cX n o k) a b→aL n L a b
 | 0,a,b,_,_,_,_,_,w=>by
  cases w with
  | one ab=>exact ab
  | more _ t _=>exact absurd t.2 (sP _)
 | k+1,a,b,an,bn,ka,kb,ne,w=>by
  have lo:=lT ho;have ia:o.idxOf a<o.length:=mr ((fm ho).mpr an);have hk:k<o.length:=by omega
  have pn:o[k]<n:=(fm ho).mp (cS hk);have ip:o.idxOf o[k]=k:=xr (oF ho) hk;generalize o[k]=p at pn ip;have th:∀x,cX n o (k+1) x↔cX n o k x∨x=p:=fun x=>by
   unfold cX;constructor
   ·rintro ⟨h1,h2⟩
    by_cases e:o.idxOf x=k
    ·right
     refine yI fun z=>?_;exact absurd (e.trans ip.symm) (jb ho h1 pn z)
    ·exact .inl ⟨h1,by omega⟩
   ·rintro (⟨h1,h2⟩ | rfl)
    ·exact ⟨h1,by omega⟩
    ·exact ⟨pn,by omega⟩
  have ap:a≠p:=fun e=>by subst e;omega
  have bp:b≠p:=fun e=>by subst e;omega
  rcases (Wk.step th).mp w with h | ⟨h1,h2⟩;·exact zZ ho cl k a b an bn (by omega) (by omega) ne h
  ·have e1:=zZ ho cl k a p an pn (by omega) (by omega) ap h1
   have e2:=zZ ho cl k p b pn bn (by omega) (by omega) bp.symm h2
   exact cl p a b pn an bn (show o.idxOf p<o.idxOf a by omega) (show o.idxOf p<o.idxOf b by omega) ne (lY _ _ e1) e2
variable {n:Nat} {L:aw} {o:List Nat}
theorem SR(ho:o.Perm (List.range n))(pw:L.Pairwise lexLt)(lt:∀z∈L,0≤z.1∧z.1<z.2∧z.2<(n:Int))(cl:xy n (aL n L) (fun a=>o.idxOf a)):eL n L o L:=by
 refine ⟨pw,fun z=>⟨fun hz=>?_,?_⟩⟩
 ·obtain ⟨z0,z1,z2⟩:=lt z hz
  obtain ⟨i,j⟩:=z;dsimp only at z0 z1 z2;obtain ⟨a,rfl⟩:=fL z0;obtain ⟨b,rfl⟩:=fL (show 0≤j by omega)
  have an:a<n:=by omega
  have bn:b<n:=by omega
  have ne:=jb ho an bn (by omega)
  by_cases h:o.idxOf a<o.idxOf b
  ·refine ⟨a,b,an,bn,h,.one ⟨an,bn,.inl hz⟩,?_⟩
   unfold dw;rw [aa (by omega),ae (by omega)]
  ·refine ⟨b,a,bn,an,by omega,.one ⟨bn,an,.inr hz⟩,?_⟩
   unfold dw;rw [ae (by omega),aa (by omega)]
 ·rintro ⟨p,q,pn,qn,pq,w,rfl⟩
  have ne:p≠q:=fun e=>by subst e;omega
  have h:=zZ ho cl (o.idxOf p) p q pn qn (ax _) (ma pq) ne w;unfold dw;rcases h.2.2 with e | e
  ·have:=lt _ e
   rw [aa (by omega),ae (by omega)]
   exact e
  ·have:=lt _ e
   rw [ae (by omega),aa (by omega)]
   exact e
theorem SS(ho:o.Perm (List.range n))(f:eL n L o L):xy n (aL n L) (fun a=>o.idxOf a):=fun a b c an bn cn ab ac bc e1 e2=>by
 have ne:=jb ho bn cn bc;have both:∀k,o.idxOf a<k→Wk (aL n L) (cX n o k) b c:=fun k hk=>(Wk.one (lY _ _ e1)).more ⟨an,hk⟩ e2;by_cases h:o.idxOf b<o.idxOf c;·exact ⟨bn,cn,jK.mp ((l7 f bn cn h).mpr (both _ ab))⟩
 ·exact lY _ _ ⟨cn,bn,jK.mp ((l7 f cn bn (by omega)).mpr ((both _ ac).symm lY))⟩
end My
namespace L2
open PySem PySem.W PyProof.Rows
section
variable {prog:Program} {w:World} {A:Around} {E:aK} {s:Shared}
theorem SU{Q:List Value→Shared→Prop}{r:Addr}{b:Int}{t u v:Tok}{n:Nat}(hh:A.handled=none)(hr:IsRange s.heap r 0 b 1 t u v)(xI:Builtin.Range.small 0 b 1=true)(hn:Builtin.Range.rangeSize 0 b 1=n)(hlen:n≤2 ^ 24)
  (hQ:∀h' tk (acc:Array Value),(∀b o',s.heap.get? b=some o'→h'.get? b=some o')→ItemsOf (fun i v=>∃t,v=.int (0+(i:Int)*1) t) acc n→Q acc.toList {s with heap:=h',toks:=tk}):wpAny (model prog w) A (collect (.ref r)) Q E s:=by
 unfold collect
 refine aC (wpAny_runValue (nH F.entry_proto_collect ?_))
 rw [pH F.plain_proto_collect _]
 show wpAny _ A.in1 (newList [] >>= fun l=>again (.builtin "list.__iadd__" ⟨[l,.ref r],[]⟩)) _ _ s
 refine aC (sL ?_)
 refine bE ⟨sY F.plain_list_iadd _,nH F.entry_list_iadd ?_⟩
 rw [pH F.plain_list_iadd _]
 show wpAny _ A.in1 (Builtin.List.listExtendWith (.ref s.heap.objs.size) (.ref r) (.ref s.heap.objs.size)) _ _ _
 have hS:(s.heap.push {cls:=.type "list",data:=.seq ([]:List Value).toArray}).get? s.heap.objs.size=some {cls:=.type "list",data:=.seq #[] 0}:=dH _ rfl
 refine bC (wpAny_extend_range (A:=A) (R:=fun r' s'=>∃h' tk acc c,r'=.ok (.ret (.ref s.heap.objs.size))∧s'={s with heap:=h',toks:=tk}∧(∀b o',s.heap.get? b=some o'→h'.get? b=some o')∧h'.get? s.heap.objs.size=some {cls:=.type "list",dict:=none,data:=.seq acc c,slots:=#[]}∧ItemsOf (fun i v=>∃t,v=.int (0+(i:Int)*1) t) acc n)
  (s:={s with heap:=s.heap.push {cls:=.type "list",data:=.seq ([]:List Value).toArray}}) hh (bX _ hr) xI hn hlen _ _ 0 hS fun h' tk acc c k g it=>⟨h',tk,acc,c,rfl,rfl,fun b o' hb=>k b o' (bL (aT hb)) (bX _ hb),g,it⟩) (fun fin s' h=>?_) (fun e s' h=>?_)
 ·have done:∀s',(∃h' tk acc c,s'={s with heap:=h',toks:=tk}∧(∀b o',s.heap.get? b=some o'→h'.get? b=some o')∧h'.get? s.heap.objs.size=some {cls:=.type "list",dict:=none,data:=.seq acc c,slots:=#[]}∧ItemsOf (fun i v=>∃t,v=.int (0+(i:Int)*1) t) acc n)→wpAny (model prog w) A (match Value.ref s.heap.objs.size with
    | Value.ref a=>do
     match (←load a).data with
      | Data.seq xs _=>pure xs.toList
      | _=>unsupported "internal:collect"
    | _=>unsupported "internal:collect") Q E s':=fun s' ⟨h',tk,acc,c,e,k,g,it⟩=>by
   subst e
   show wpAny _ A (load s.heap.objs.size >>= _) _ _ _
   exact aC (wpAny_load g (bE (hQ h' tk acc k it)))
  cases fin with
  | done f=>
   obtain ⟨h',tk,acc,c,e,es,k,g,it⟩:=h
   cases e
   exact done s' ⟨h',tk,acc,c,es,k,g,it⟩
  | again c'=>exact ⟨h.1,codeAny_mono h.2 fun r eQ hr=>by
    obtain ⟨h',tk,acc,c,e,es,k,g,it⟩:=hr
    subst e
    exact done eQ ⟨h',tk,acc,c,es,k,g,it⟩⟩
 ·obtain ⟨_,_,_,_,e,_⟩:=h
  exact absurd e (by simp)
end
open AutoSeq1 (wpAny_loadPart')
section
variable {prog:Program} {w:World} {A:Around} {E:aK} {s:Shared}
variable {r:Addr} {b:Int} {u:Tok} {n:Nat}
theorem SV{Q₁:aK}{t v:Tok}(hh:A.handled=none)(hr:IsRange s.heap r 0 b 1 t u v)(xI:Builtin.Range.small 0 b 1=true)(hn:Builtin.Range.rangeSize 0 b 1=n)(hlen:n≤10000)
  (h:∀(h':Heap) (tk:Nat) (acc:Array Value),(∀b o',s.heap.get? b=some o'→h'.get? b=some o')→ItemsOf (fun i v=>∃t,v=.int (0+(i:Int)*1) t) acc n→Q₁ (.ref h'.objs.size) {s with heap:=h'.push {cls:=.type "tuple",data:=.seq acc},toks:=tk}) :
  codeAny (model prog w) A (.call (.builtin "tuple.__new__") ⟨[.type "tuple",.ref r],[]⟩) (wants Q₁ E) s:=by
 refine codeAny_of_tree ?_
 show wpAny _ A.in1 (do checkBuiltinCall "tuple.__new__" ⟨[.type "tuple",.ref r],[]⟩;again (.builtin "tuple.__new__" ⟨[.type "tuple",.ref r],[]⟩)) _ _ s
 refine aC (wpAny_of_eq (F.newCall_tuple_1 _) (bE ⟨sY F.plain_tuple_new _,nH F.entry_tuple_new ?_⟩))
 rw [pH F.plain_tuple_new _]
 have Zo:=sub_tuple_self
 have Zp:=init_tuple_lookup
 have Zq:=madeHere_tuple
 have SW:s.TypeIs (.ref r) "range":=⟨_,hr,rfl⟩
 have SX:=fun(Q:List Value→Shared→Prop) (E:aK)=>SU (prog:=prog) (w:=w) (A:=A.in1) (E:=E) (Q:=Q) (show A.in1.handled=none from hh) hr xI hn (by omega)
 wp_walk using wpAny_typeOf SW,SX
 intro h' tk acc hk z5
 show wpAny _ _ (Builtin.Tuple.tupleExact acc.toList.toArray >>= fun v=>ret v) _ _ _
 unfold Builtin.Tuple.tupleExact
 refine aC (sL ?_ (by show acc.toList.toArray.size≤sizeLine;simp only [Array.toArray_toList];rw [z5.1,iD];omega))
 refine bE ?_
 have e:acc.toList.toArray=acc:=by simp
 rw [e]
 exact h h' tk acc hk z5
theorem SY{Q:aK}{t v:Tok}(hh:A.handled=none)(hr:IsRange s.heap r 0 b 1 t u v)(xI:Builtin.Range.small 0 b 1=true)(hn:Builtin.Range.rangeSize 0 b 1=n)(hlen:n≤10000)
  (hQ:∀(h':Heap) (tk:Nat) (acc:Array Value),(∀b o',s.heap.get? b=some o'→h'.get? b=some o')→ItemsOf (fun i v=>∃t,v=.int (0+(i:Int)*1) t) acc n→Q (.ref h'.objs.size) {s with heap:=h'.push {cls:=.type "tuple",data:=.seq acc},toks:=tk}) :
  wpAny (model prog w) A (call (.type "tuple") [.ref r]) Q E s:=by
 refine callType_codes (Q₁:=fun obj s₁=>s₁.TypeIs obj "tuple"∧Q obj s₁) F.called_tuple (F.typeCall_tuple_1 _) F.entry_object_init
  (SV hh hr xI hn hlen fun h' tk acc hk z5=>⟨⟨_,dH _ rfl,rfl⟩,hQ h' tk acc hk z5⟩) fun obj s₁ h₁=>?_
 exact ⟨h₁.1,F.args_object_init_2 obj _,object_init_meets F.called_tuple.init.lookup F.called_tuple.made (by decide) prog w A.in1 _ s₁ ⟨h₁.1,rfl,h₁.2⟩⟩
end
def S0:List V→Hp→VK→Prop:=fun xs H Q=>∃p n,xs=[.ref p]∧H p=some (.dS 0 (n:Nat))∧n≤10000∧∀l,H l=none→Q (.ref l) (upd H l (.tup (bT n)))
theorem S1{X:Cx}(hc:X.calm=true):e_ X (.type "tuple") S0:=by
 intro pins s σ H xs us Q I r h;obtain ⟨p,n,rfl,hp,hn,q⟩:=h;obtain ⟨u,rfl,ru⟩:=vals1 r;cases ru;obtain ⟨t,u,v,e⟩:=(show cg X.prog X.w H s.heap p (.dS 0 n) from I.ay p _ hp);refine SY (n:=n) (I.ok.hd hc) e (small_one (by omega) (by omega) (by omega) (by omega)) (by rw [rangeSize_one];split <;> omega) hn fun h' tk acc hk hit=>?_
 have I1:Inv X pins σ H {s with heap:=h',toks:=tk}:=I.kept (t':=tk) hk;refine ⟨.ref h'.objs.size,_,I1.laid (t':=tk) (o:=.tup (bT n)) (fun b o e=>bX _ e) (ax _) ⟨?_,acc.toList,?_,?_⟩,rfl,q _ (I1.ay.fresh (ax _))⟩
 ·unfold bT
  rw [aD,dt];exact a9 hn (by decide)
 ·refine Ck ?_ fun i x u h1 h2=>?_
  ·unfold bT
   rw [aD,dt,eA,hit.1]
  ·have wJ:acc[i]?=some u:=by simpa using h2
   obtain ⟨dr,e'⟩:=hit.2 i u wJ;unfold bT at h1;rw [bP] at h1;have hi:i<n:=by have z:=(Array.getElem?_eq_some_iff.mp wJ).1;rw [hit.1] at z;exact z
   rw [o_ hi] at h1;cases h1;exact ⟨dr,by rw [e'];simp⟩
 ·rw [Array.toArray_toList]
  exact IsTup.new _ _
end L2
namespace My
open PySem L2
noncomputable def qK (n:Nat) (L:aw) (W:List Nat→Int) (d:Nat):Bool:=!(decide (0<W (List.range n)) || !decide (W []=(d:Int))) && (a_ n).all (qJ n L W)
def S2(N:Addr):Sp:=fun vs H Q E=>∃(tp a wo:Addr) (n:Nat) (L:aw) (o:List Nat) (qs:List (List Nat)) (W:List Nat→Int),vs=[.ref tp,.ref a,.ref wo]∧dO H tp n L∧eX n L∧qD L∧n≤9∧H a=some (.lst (o.map fun k:Nat=>V.int (k:Int)))∧o.Perm (List.range n)∧H wo=some (.dT (wD W qs))∧qs.Perm (a_ n) ∧
 ∀(H':Hp) (d:Nat),aj H H'→(∀M,eL n L o M→d=gP n M)→Q (.bl (qK n L W d)) H'
end My
namespace L2
open PySem PySem.Spec PyProof.Rows My
theorem S3{wi:TI}{ρ:St→St}{tt:TT}{te:TE}{σ:St}{H:Hp}{Q:VK}{xs:List V}(c:V→Bool)(d6:∀R:It→Hp→Prop,(∀J H1,aj H H1→j8 J xs H1→R J H1)→wi σ H R)(hn:xs.length<sizeLine)
  (test:∀x∈xs,∀(Hc:Hp) (R:Bool→Hp→Prop),aj H Hc→(∀Hd,aj Hc Hd→R (c x) Hd)→tt (some x::ρ σ) Hc R)
  (elem:∀(x:V) (Hc:Hp) (R:VK),R x Hc→te (some x::ρ σ) Hc R)
  (fin:∀D Hc,H D=none→aj H Hc→Hc D=some (.lst (xs.filter c))→Q (.ref D) Hc):gD wi ρ tt te σ H Q:=by
 refine d6 _ fun J H1 s1 js=>?_;intro D nD;refine ⟨fun i m ys Hc=>m=xs.length-i∧i≤xs.length∧Hc D=some (.lst ys)∧aj H1 Hc∧ys.length≤i∧ys=(xs.take i).filter c,⟨_,rfl,ba _,au,d7 (aj.refl H1) nD,ax _,rfl⟩,?_⟩;rintro i m ys Hc ⟨rfl,hi,eD,sH,ly,hP⟩;refine ⟨eD,?_⟩;by_cases aU:i<xs.length
 ·refine .inr ⟨js.go i Hc sH aU,fun x H' hy=>?_⟩
  obtain ⟨rfl,hx⟩:=js.dW i Hc x H' sH hy;have ex:=hx aU;have mx:x∈xs:=iX ex;have tk:xs.take (i+1)=xs.take i++[x]:=by rw [jo,ex];rfl
  refine test x mx _ _ (s1.trans sH) fun Hd sd=>?_;have t_:=sd _ _ eD;have IY:=sH.trans sd;by_cases hb:c x=true
  ·rw [ae hb]
   refine elem x _ _ ⟨t_,by omega,xs.length-(i+1),by omega,rfl,aU,au,d7 IY nD,by simp;omega,?_⟩
   rw [tk,pE,←hP,nR,ae hb];rfl
  ·rw [aa hb]
   refine ⟨xs.length-(i+1),by omega,rfl,aU,t_,IY,by omega,?_⟩
   rw [tk,pE,←hP,nR,aa hb,List.filter_nil,o8]
 ·have e:i=xs.length:=by omega
  subst e;rw [gp] at hP;subst hP;exact .inl ⟨js.stop _ Hc sH (ax _),fin D Hc (none_of s1 nD) (s1.trans sH) eD⟩
end L2
namespace My
open PySem L2
def m6(g:Nat→List Nat)(zs:List Nat)(p:Nat):List Nat:=(g p).filter fun q=>decide (q∈zs)
def ua(g:Nat→List Nat)(zs:List Nat)(p a:Nat):List Nat:=(m6 g zs p).filter fun b=>!decide (b=a) && !decide (b∈g a)
def jO(g:Nat→List Nat)(zs:List Nat)(p:Nat):Bool:=((m6 g zs p).filter fun a=>!(ua g zs p a).isEmpty).isEmpty
theorem Dz(c:V→Bool)(l:List Nat):(l.map fun k:Nat=>V.int (k:Int)).filter c=(l.filter fun k:Nat=>c (.int (k:Int))).map fun k:Nat=>V.int (k:Int):=by rw [yE];rfl
variable {g:Nat→List Nat} {zs:List Nat}
theorem IZ{p:Nat}:jO g zs p=true↔∀a b,a∈g p→b∈g p→a∈zs→b∈zs→b≠a→b∈g a:=by
 unfold jO;rw [List.isEmpty_iff,yJ];constructor
 ·intro h a b ha hb az bz ne
  have h1:=h a (cu.mpr ⟨ha,bQ az⟩);rw [Bool.not_eq_true,Bool.not_eq_false'] at h1;rw [List.isEmpty_iff] at h1;unfold ua at h1;rw [yJ] at h1;have h2:=h1 b (cu.mpr ⟨hb,bQ bz⟩);rw [bW ne,Bool.not_false,sX,Bool.not_eq_true,Bool.not_eq_false'] at h2;exact fz h2
 ·intro h a ha
  rw [Bool.not_eq_true,Bool.not_eq_false',List.isEmpty_iff];unfold ua;rw [yJ];intro b hb;obtain ⟨S4,S5⟩:=cu.mp ha;obtain ⟨Ds,IC⟩:=cu.mp hb;by_cases e:b=a
  ·rw [bQ e]
   simp
  ·rw [bQ (h a b S4 Ds (fz S5) (fz IC) e)]
   simp
def S6:Sp:=fun vs H Q _=>∃(D lf:Addr) (n:Nat) (rs:Nat→Addr) (g:Nat→List Nat) (zs:List Nat),vs=[.ref D,.ref lf]∧jc H D n rs g∧(∀i,i<n→∀j∈g i,j<n)∧(∀i,i<n→(g i).length≤900)∧H lf=some (.lst (zs.map fun k:Nat=>V.int (k:Int)))∧(∀z∈zs,z<n)∧zs.length≤100 ∧
 ∀(H':Hp) (r:Addr),aj H H'→H r=none→H' r=some (.lst ((zs.filter (jO g zs)).map fun k:Nat=>V.int (k:Int)))→Q (.ref r) H'
theorem I0(k:Nat):mX (.int (k:Int))=k:=cZ k
structure ub (n:Nat) (g:Nat→List Nat) (zs fs:List Nat):Prop where
 pm:(zs++fs).Perm (List.range n)
 cl:∀A x B,fs=A++x::B→∀b c,(b∈B∨b∈zs)→(c∈B∨c∈zs)→b≠c→b∈g x→c∈g x→c∈g b
variable {n j:Nat}
theorem ub.step{fs:List Nat}(h:ub n g zs fs)(jz:j∈zs)(jf:jO g zs j=true):ub n g (zs.erase j) (fs++[j]):=by
 refine ⟨?_,fun A x B e b c hb hc ne gb gc=>?_⟩
 ·refine List.Perm.trans ?_ h.pm
  have h1:=List.perm_cons_erase jz;have h2:(zs.erase j++(fs++[j])).Perm ((j::zs.erase j)++fs):=by rw [←gm];exact pj
  exact h2.trans (h1.symm.append_right fs)
 ·rcases List.eq_nil_or_concat B with rfl | ⟨B',y,rfl⟩
  ·have e':=List.append_inj' e rfl
   have ex:=List.cons.inj e'.2;rw [←ex.1] at gb gc;have fP:b∈zs:=by
    rcases hb with h | h;·cases h
    ·exact BA h
   have e9:c∈zs:=by
    rcases hc with h | h;·cases h
    ·exact BA h
   exact IZ.mp jf b c gb gc fP e9 (Ne.symm ne)
  ·have e2:fs++[j]=(A++x::B')++[y]:=by rw [e,List.concat_eq_append];simp
   obtain ⟨e3,e4⟩:=List.append_inj' e2 rfl;have ey:=(List.cons.inj e4).1;subst ey;have cv:∀z,(z∈B'.concat j∨z∈zs.erase j)→(z∈B'∨z∈zs):=fun z hz=>by
    rcases hz with h | h
    ·rw [List.concat_eq_append,dg,bY] at h
     rcases h with h | h;·exact .inl h
     ·exact .inr (h▸jz)
    ·exact .inr (BA h)
   exact h.cl A x B' e3 b c (cv b hb) (cv c hc) ne gb gc
variable {L:aw}
theorem ub.S7{fs:List Nat}(h:ub n g [] fs)(nb:dP n L g):xy n (aL n L) (fun a=>fs.idxOf a):=by
 intro a b c an bn cn ab ac bc e1 e2;have pm:=h.pm;rw [List.nil_append] at pm;have mem:∀x,x<n→x∈fs:=fun x hx=>pm.mem_iff.mpr (b7.mpr hx);obtain ⟨A,B,e⟩:=List.append_of_mem (mem a an);have nd:fs.Nodup:=pm.nodup_iff.mpr jm;have aA:a∉A:=fun hm=>by rw [e,kT] at nd;exact nd.2.2 a hm a (by simp) rfl
 have ia:fs.idxOf a=A.length:=by rw [e,nS,aa aA,yF];omega
 have I_:∀x,x<n→A.length<fs.idxOf x→x∈B:=fun x xn hx=>by
  have hm:=mem x xn;rw [e] at hm;rcases dg.mp hm with h | h
  ·have:fs.idxOf x<A.length:=by rw [e,nS,ae h];exact mr h
   omega
  ·rcases cf.mp h with h | h
   ·subst h
    omega
   ·exact h
 dsimp only at ab ac;rw [ia] at ab ac;have hb:b∈g a:=(nb a b an).mpr e1.2.2;have hc:c∈g a:=(nb a c an).mpr e2.2.2;exact ⟨bn,cn,(nb b c bn).mp (h.cl A a B e b c (.inl (I_ b bn ab)) (.inl (I_ c cn ac)) bc hb hc)⟩
theorem Ja(f:Nat→Nat):∀(zs:List Nat),zs≠[]→∃z∈zs,∀y∈zs,f z≤f y
 | [],h=>absurd rfl h
 | [z],_=>⟨z,by simp,fun y hy=>by rw [bY.mp hy];exact ax _⟩
 | z::w::l,_=>by
  obtain ⟨m,hm,h⟩:=Ja f (w::l) (by simp)
  by_cases e:f z≤f m
  ·refine ⟨z,by simp,fun y hy=>?_⟩
   rcases cf.mp hy with rfl | hy;·exact ax _
   ·exact a9 e (h y hy)
  ·refine ⟨m,cw _ hm,fun y hy=>?_⟩
   rcases cf.mp hy with rfl | hy;·omega
   ·exact h y hy
variable {o:List Nat}
theorem S8(ho:o.Perm (List.range n))(cl:xy n (aL n L) (fun a=>o.idxOf a))(oP:qD L)(nb:dP n L g)(hz:zs≠[])(zn:∀z∈zs,z<n):zs.filter (jO g zs)≠[]:=by
 obtain ⟨z,mz,h⟩:=Ja (fun a=>o.idxOf a) zs hz;intro e;rw [yJ] at e;refine e z mz (IZ.mpr fun a b ga gb az bz ne=>?_);have inj:∀x y,x<n→y<n→o.idxOf x=o.idxOf y→x=y:=fun x y hx hy e=>by have mx:x∈o:=ho.mem_iff.mpr (b7.mpr hx);have my:y∈o:=ho.mem_iff.mpr (b7.mpr hy);have h1:=yC (mr mx);have h2:=yC (mr my);rw [←h1,←h2];simp only [e]
 have nz:∀x,x∈g z→x≠z:=fun x hx e=>by
  subst e;rcases (nb x x (zn _ mz)).mp hx with h | h;·exact oP _ h rfl
  ·exact oP _ h rfl
 have lt:∀x,x∈g z→x∈zs→o.idxOf z<o.idxOf x:=fun x hx xz=>by
  have h1:=h x xz;rcases Nat.lt_or_ge (o.idxOf z) (o.idxOf x) with h2 | h2;·exact h2
  ·exact absurd (inj x z (zn x xz) (zn z mz) (by omega)) (nz x hx)
 exact (nb a b (zn a az)).mpr (cl z a b (zn z mz) (zn a az) (zn b bz) (lt a ga az) (lt b gb bz) (Ne.symm ne) ⟨zn z mz,zn a az,(nb z a (zn z mz)).mp ga⟩ ⟨zn z mz,zn b bz,(nb z b (zn z mz)).mp gb⟩).2.2
def S9(K:aH):Sp:=fun vs H Q _=>∃(P a tp:Addr) (ns:List Int) (n:Nat) (L:aw),vs=[.ref P,.ref tp]∧bO H P a∧bt K (er P H) a (ns.map V.int)∧tp≠P∧dO H tp n L∧L.Pairwise lexLt∧(∀z∈L,0≤z.1∧z.1<z.2∧z.2<(n:Int))∧1≤n∧n≤30∧L.length≤450 ∧
 (∀H':Hp,aF P H H'→bO H' P a→(∀o,o.Perm (List.range n)→¬eL n L o L)→Q .aN H') ∧
 ∀(l:Addr) (o:List Nat) (H':Hp),aF P H H'→bO H' P a→l≠P→H l=none→H' l=some (.lst (o.map fun k:Nat=>V.int (k:Int)))→o.Perm (List.range n)→eL n L o L→Q (.ref l) H'
def DA:Nat→Nat
 | 0=>1
 | k+1=>DA k*(k+1)
theorem Jb:∀{k},k≤5→DA k≤120
 | 0,_=>by decide
 | 1,_=>by decide
 | 2,_=>by decide
 | 3,_=>by decide
 | 4,_=>by decide
 | 5,_=>by decide
 | k+6,h=>by omega
def kB(H:Hp)(k:Nat)(v:V):Prop:=∃(b:Addr) (o:List Nat),v=.ref b∧H b=some (.lst (o.map fun k:Nat=>V.int (k:Int)))∧o.Perm (List.range k)
variable {H:Hp} {k:Nat}
theorem kB.mono{H':Hp}{v:V}(h:kB H k v)(s:aj H H'):kB H' k v:=by obtain ⟨b,o,e,eb,p⟩:=h;exact ⟨b,o,e,s _ _ eb,p⟩
def S_:Sp:=fun vs H Q _=>∃(n:Nat),vs=[.int (n:Int)]∧n≤5∧∀(H':Hp) (D:Addr) (xs:List V),aj H H'→H D=none→H' D=some (.lst xs)→xs.length≤120→(∀v∈xs,kB H' n v)→Q (.ref D) H'
theorem Ta(h:o.Perm (List.range k))(i:Nat):(o.take i++[k]++o.drop i).Perm (List.range (k+1)):=by
 rw [List.range_succ];have h1:(o.take i++[k]++o.drop i).Perm (o.take i++o.drop i++[k]):=by rw [gm,gm];exact yu _ pj
 rw [pA] at h1;exact h1.trans (h.append_right [k])
open PySem L2 Classical
theorem Jc(n:Nat)(L:aw)(o:List Nat)(p:Nat):∃ms,jI n o p ms∧kr n L o p ms:=by
 refine ⟨(List.range n).filter fun q=>decide (o.idxOf p<o.idxOf q∧Wk (aL n L) (cX n o (o.idxOf p)) p q),⟨yy.sublist List.filter_sublist,fun q hq=>?_,fun q hq=>?_⟩,fun q=>?_⟩;·exact b7.mp (cu.mp hq).1
 ·exact (fz (cu.mp hq).2).1
 ·rw [cu,b7,eY]
theorem Tb(n:Nat)(L:aw)(o:List Nat):∃g:Nat→List Nat,∀p,p<n→jI n o p (g p)∧kr n L o p (g p):=
 ⟨fun p=>choose (Jc n L o p),fun p _=>choose_spec (Jc n L o p)⟩
variable {M:aw}
theorem z6(ho:o.Perm (List.range n))(bj:eX n L)(f:eL n L o M):gQ n L [] o=(gP n M:Int):=by obtain ⟨g,hg⟩:=Tb n L o;exact SI ho bj f hg
theorem Jd(ho:o.Perm (List.range n))(bj:eX n L)(f:eL n L o M):wW n L []≤(gP n M:Int):=by rw [←z6 ho bj f];exact SF ho
theorem Je(n:Nat)(L:aw)(o:List Nat):∃M,eL n L o M:=by
 let f:Nat→Nat→Bool:=fun i j=>decide (∃p q:Nat,p<n∧q<n∧o.idxOf p<o.idxOf q∧Wk (aL n L) (cX n o (o.idxOf p)) p q∧((i:Int),(j:Int))=dw p q)
 refine ⟨xi n f n,Hq n,fun z=>⟨fun h=>?_,?_⟩⟩
 ·obtain ⟨i,j,_,_,_,hf,rfl⟩:=mem_of h
  exact fz hf
 ·rintro ⟨p,q,hp,hq,DB,hw,rfl⟩
  have ne:p≠q:=fun e=>by rw [e] at DB;exact absurd DB (dG _)
  obtain ⟨i,j,ij,jn,e⟩:∃i j:Nat,i<j∧j<n∧dw p q=((i:Int),(j:Int)):=by
   by_cases h:q<p
   ·refine ⟨q,p,h,hp,?_⟩
    unfold dw;rw [ae (by omega),aa (by omega)]
   ·refine ⟨p,q,by omega,hq,?_⟩
    unfold dw;rw [aa (by omega),ae (by omega)]
  rw [e];exact Ho ij jn (bQ ⟨p,q,hp,hq,DB,hw,e.symm⟩) (by omega)
noncomputable def iU (n:Nat) (L:aw) (j:Nat) (q:List Nat):Int:=if q=[] then wW n L []+j else wW n L q
theorem Jf(n:Nat)(L:aw):iU n L 0=wW n L:=by
 funext q
 unfold iU
 split
 ·rename_i h
  rw [h];simp
 ·rfl
theorem Tc{q:List Nat}:cY q=[]↔q=[]:=by unfold cY;simp
theorem Td{qs:List (List Nat)}(h:[]∈qs):putK (wD (iU n L j) qs) [] (.int (iU n L j []+1))=wD (iU n L (j+1)) qs:=by
 unfold putK;rw [ae]
 ·unfold wD
  rw [cm];refine iF fun q _=>?_;dsimp only [Function.comp];by_cases e:q=[]
  ·subst e
   rw [ae (show cY []=[] from rfl)];unfold iU;rw [ae rfl,ae rfl]
   push_cast
   rw [Int.add_assoc]
  ·rw [aa (fun z=>e (Tc.mp z))]
   unfold iU;rw [aa e,aa e]
 ·rw [yB]
  exact ⟨(cY [],_),cx.mpr ⟨[],h,rfl⟩,bQ rfl⟩
theorem Te(n:Nat):[]∈a_ n:=dR.mpr ⟨List.Pairwise.nil,fun _ h=>by cases h⟩
theorem Tf{d:Nat}(n1:1≤n)(hd:wW n L []=(d:Int)):qK n L (iU n L j) d=decide (j=0):=by
 unfold qK;by_cases h:j=0
 ·subst h
  rw [Jf,bQ (show 0=0 from rfl)];have h1:wW n L (List.range n)=0:=by unfold wW;rw [dt,pb];rfl
  rw [h1,bQ hd,bW (show ¬(0:Int)<0 by omega)]
  rw [Bool.not_true,Bool.or_false,Bool.not_false,sX,mf];intro S hS;unfold qJ;rw [eY];intro p hp;rw [xG hS];have hm:cR n L S p+wW n L (aZ S p)∈(bo n S).map fun p=>cR n L S p+wW n L (aZ S p):=cx.mpr ⟨p,hp,rfl⟩;generalize (bo n S).map (fun p=>cR n L S p+wW n L (aZ S p))=zs at hm;cases zs with
  | nil=>cases hm
  | cons z zs=>exact (fold_min zs z).2 _ hm
 ·rw [bW h]
  have:iU n L j []≠(d:Int):=by unfold iU;rw [ae rfl];omega
  rw [bW this];simp
theorem cI{a b:TS}{D:Ends}{σ:St}(h:∀R:St→Hp→Prop,(∀σ H,b D σ H→R σ H)→a {D with nx:=R} σ H):BK a b D σ H:=h _ fun _ _ h=>h
end My
set_option maxRecDepth 100000
set_option maxHeartbeats 4000000
namespace My
open PySem L2
def top(i:Nat):Stmt:=PySem.Challenge.pw_bandwright_k27_fewest_of_all_orders.main.body.getD i (.Pass ⟨0,0,0,0⟩)
abbrev z7:Stmt:=top 5
abbrev z8:Stmt:=top 7
abbrev z9:Stmt:=top 9
abbrev z_:Stmt:=top 10
abbrev Aa:Stmt:=top 11
abbrev Ab:Stmt:=top 12
abbrev Ac:Stmt:=top 13
abbrev Ad:Stmt:=top 14
abbrev Ae:Stmt:=top 15
abbrev Af:Stmt:=top 18
abbrev Ag:Stmt:=top 19
abbrev Ah:Stmt:=top 20
abbrev Ai:Stmt:=top 21
abbrev Aj:Stmt:=top 22
abbrev Ak:Stmt:=top 23
abbrev Al:Stmt:=top 24
abbrev Am:Stmt:=top 25
abbrev An:Stmt:=top 26
abbrev Ao:Stmt:=top 27
abbrev Ap:Stmt:=top 29
abbrev Aq:Stmt:=top 30
abbrev Ar:Stmt:=top 31
abbrev As:Stmt:=top 32
abbrev Au:Stmt:=top 33
abbrev Av:Stmt:=top 34
abbrev Aw:Stmt:=top 35
abbrev Ax:Stmt:=top 36
abbrev Ay:Stmt:=top 37
abbrev Az:Stmt:=top 38
abbrev AA:Stmt:=top 39
abbrev AB:Stmt:=top 40
abbrev AD:Stmt:=top 41
abbrev AE:Stmt:=top 42
abbrev AF:Stmt:=top 43
abbrev AG:Stmt:=top 44
set_option genInjectivity false in
set_option genSizeOf false in
structure DC where
 qL:Addr
 uc:FuncData
 qM:Addr
 ud:FuncData
 qN:Addr
 ue:FuncData
 qO:Addr
 uf:FuncData
 qQ:Addr
 ug:FuncData
 qR:Addr
 uh:FuncData
 qT:Addr
 uj:FuncData
 qU:Addr
 um:FuncData
 qV:Addr
 uo:FuncData
 qW:Addr
 ur:FuncData
 qX:Addr
 uu:FuncData
 qY:Addr
 uv:FuncData
 qZ:Addr
 uw:FuncData
 q5:Addr
 ux:FuncData
 q8:Addr
 uy:FuncData
 q_:Addr
 uz:FuncData
 ra:Addr
 uA:FuncData
 rb:Addr
 uB:FuncData
 rd:Addr
 uC:FuncData
 rg:Addr
 uD:FuncData
 rh:Addr
 uE:FuncData
 rj:Addr
 uF:FuncData
 rm:Addr
 uG:FuncData
 rn:Addr
 uH:FuncData
 rp:Addr
 uI:FuncData
 rq:Addr
 uJ:FuncData
 rA:Addr
 uK:FuncData
 rB:Addr
 uL:FuncData
 rC:Addr
 uN:FuncData
 rD:Addr
 uO:FuncData
 rE:Addr
 uP:FuncData
 rF:Addr
 uQ:FuncData
 rG:Addr
 uR:FuncData
 rH:Addr
 uS:FuncData
 oQ:Addr
 rJ:FuncData
 l8:Addr
 uT:Addr
abbrev ck (mg:du) (x:Str) (f:Addr):Prop:=mg x=some (.ref f)
abbrev Jg (K:aH) (a:Addr):Prop:=PySem.W.excIn K a [.type "ValueError",.type "Exception",.type "BaseException",.type "object"] "ValueError.__new__"=true
structure Txt (K:aH) (mg:du) (t:DC):Prop where
 uU:aS K "is_whole" z7 t.qL t.uc
 Jh:Binds K t.uc ["thing"] []
 Ji:ck mg "is_whole" t.qL
 rK:aS K "neighbours" z8 t.qM t.ud
 DD:Binds K t.ud ["shape"] []
 DE:ck mg "neighbours" t.qM
 uV:aS K "is_order" z9 t.qN t.ue
 Jj:Binds K t.ue ["thing","n"] []
 Jk:ck mg "is_order" t.qN
 uW:aS K "check_order" z_ t.qO t.uf
 Jl:Binds K t.uf ["order","n"] []
 Jm:ck mg "check_order" t.qO
 uX:aS K "turns_of" Aa t.qQ t.ug
 Jn:Binds K t.ug ["order"] []
 Jo:ck mg "turns_of" t.qQ
 uY:aS K "link_all" Ab t.qR t.uh
 Jp:Binds K t.uh ["linked","places"] []
 Jq:ck mg "link_all" t.qR
 uZ:aS K "later" Ac t.qT t.uj
 Jr:Binds K t.uj ["shape","order"] []
 Js:ck mg "later" t.qT
 rN:aS K "place_deeds" Ad t.qU t.um
 DF:Binds K t.um ["many"] []
 DG:ck mg "place_deeds" t.qU
 u0:aS K "deeds" Ae t.qV t.uo
 Jt:Binds K t.uo ["shape","order"] []
 Ju:ck mg "deeds" t.qV
 oR:aS K "check_size" Af t.qW t.ur
 AH:Binds K t.ur ["shape"] []
 AI:ck mg "check_size" t.qW
 u6:aS K "still_near" Ag t.qX t.uu
 Jv:Binds K t.uu ["linked","done","place"] []
 Jw:ck mg "still_near" t.qX
 u7:aS K "cost" Ah t.qY t.uv
 Jx:Binds K t.uv ["shape","done","place"] []
 Jy:ck mg "cost" t.qY
 rO:aS K "rising_tuples" Ai t.qZ t.uw
 DH:Binds K t.uw ["n"] []
 DI:ck mg "rising_tuples" t.qZ
 rQ:aS K "and_done" Aj t.q5 t.ux
 DJ:Binds K t.ux ["done","place"] []
 DK:ck mg "and_done" t.q5
 oS:aS K "choices" Ak t.q8 t.uy
 AJ:Binds K t.uy ["shape","done","worth_of"] []
 AK:ck mg "choices" t.q8
 rR:aS K "worths" Al t.q_ t.uz
 DL:Binds K t.uz ["shape"] []
 DM:ck mg "worths" t.q_
 rS:aS K "fewest" Am t.ra t.uA
 DN:Binds K t.uA ["shape"] []
 DO:ck mg "fewest" t.ra
 u9:aS K "keeps_to_costs" An t.rb t.uB
 Jz:Binds K t.uB ["shape","done","worth_of"] []
 JA:ck mg "keeps_to_costs" t.rb
 u_:aS K "shows_fewest" Ao t.rd t.uC
 JB:Binds K t.uC ["shape","order","worths"] []
 JD:ck mg "shows_fewest" t.rd
 va:aS K "_law_fill" Ap t.rg t.uD
 JE:Binds K t.uD ["_law_cell","_law_at"] []
 JF:ck mg "_law_fill" t.rg
 gg:aS K "_law_next" Aq t.rh t.uE
 jd:Binds K t.uE ["_law_pen","_law_many"] []
 je:ck mg "_law_next" t.rh
 rT:aS K "_law_turned" Ar t.rj t.uF
 DQ:Binds K t.uF ["_law_pen","_law_some"] []
 DR:ck mg "_law_turned" t.rj
 vc:aS K "_law_tied_by" As t.rm t.uG
 JG:Binds K t.uG ["_law_pen","_law_way","_law_size","_law_wide","_law_i","_law_j"] []
 JH:ck mg "_law_tied_by" t.rm
 vd:aS K "_law_grown_links" Au t.rn t.uH
 JI:Binds K t.uH ["_law_pen","_law_size"] []
 JJ:ck mg "_law_grown_links" t.rn
 ve:aS K "_law_drawn" Av t.rp t.uI
 JK:Binds K t.uI ["_law_pen","_law_most"] []
 JL:ck mg "_law_drawn" t.rp
 vf:aS K "_law_named" Aw t.rq t.uJ
 JM:Binds K t.uJ ["_law_size","_law_links","_law_names"] []
 JN:ck mg "_law_named" t.rq
 oT:aS K "_law_beside" Ax t.rA t.uK
 AL:Binds K t.uK ["_law_shape"] []
 AM:ck mg "_law_beside" t.rA
 vg:aS K "_law_walks" Ay t.rB t.uL
 JO:Binds K t.uL ["_law_beside_here","_law_through","_law_start"] []
 JP:ck mg "_law_walks" t.rB
 vh:aS K "_law_filled" Az t.rC t.uN
 JQ:Binds K t.uN ["_law_shape","_law_order"] []
 JR:ck mg "_law_filled" t.rC
 rV:aS K "_law_triangles" AA t.rD t.uO
 DS:Binds K t.uO ["_law_shape"] []
 DT:ck mg "_law_triangles" t.rD
 vi:aS K "_law_free" AB t.rE t.uP
 JS:Binds K t.uP ["_law_beside_here","_law_left"] []
 JT:ck mg "_law_free" t.rE
 vj:aS K "_law_perfect" AD t.rF t.uQ
 JU:Binds K t.uQ ["_law_pen","_law_shape"] []
 JV:ck mg "_law_perfect" t.rF
 rW:aS K "_law_deeds" AE t.rG t.uR
 DU:Binds K t.uR ["_law_shape","_law_order"] []
 DV:ck mg "_law_deeds" t.rG
 vk:aS K "_law_all_orders" AF t.rH t.uS
 JW:Binds K t.uS ["_law_size"] []
 JX:ck mg "_law_all_orders" t.rH
 vn:aS K "law" AG t.oQ t.rJ
 Tg:Binds K t.rJ ["script"] []
 JY:ck mg "law" t.oQ
 JZ:ck mg "NoOrder" t.l8
 J0:ck mg "NoSize" t.uT
 fI:mg "len"=none
 oU:mg "isinstance"=none
 J1:mg "int"=none
 AN:mg "bool"=none
 vp:mg "tuple"=none
 m8:mg "list"=none
 fv:mg "range"=none
 xJ:mg "all"=none
 J2:mg "any"=none
 J3:mg "sum"=none
 J4:mg "enumerate"=none
 xK:mg "min"=none
 DW:mg "max"=none
 oV:mg "sorted"=none
 Th:mg "ValueError"=none
 J5:∃u,mg "MOST"=some u∧RelV (.int 9) u
 J6:Jg K t.l8
 J7:Jg K t.uT
section
variable {P:Program} {w:World} {K:aH} {mg:du} {base:Heap} {t:DC}
theorem Ti:bZ ["thing"] ["thing"] (bf z7):=cC
theorem Tj(T:Txt K mg t):bJ P w K mg base cO 1 t.qL t.uc ["thing"] OA:=by
 have S:=Ti;refine T.uU.dX S (fun _ _ _ _ H _ Q _ hr h=>?_);obtain ⟨v,rfl,ha,k⟩:=h;refine ⟨_,(aG (bI (Mj (b3 (qa (K:=K)) rfl T.oU boot_isinstance (ai (pv 0) (ai (pP (v:=.ty "int") rfl T.J1 boot_int rfl) ao))) (Fy (Ml (b3 (qa (K:=K)) rfl T.oU boot_isinstance (ai (pv 0) (ai (pP (v:=.ty "bool") rfl T.AN boot_bool rfl) ao)))))))),?_⟩;obtain ⟨Ty,ty,k1,k2,_⟩:=ha.Cf (K:=K);refine ⟨_,rfl,_,_,_,_,rfl,rfl,ty,k1,_,rfl,dc (fun h1=>?_) (fun h1=>?_)⟩
 ·refine ⟨_,rfl,_,_,_,_,rfl,rfl,ty,k2,_,rfl,?_⟩
  have e:(!tS v)=tR v:=by
   cases h2:tS v with
   | true=>rw [Oz h2];rfl
   | false=>rw [h2,Bool.or_false] at h1;rw [h1];rfl
  show Q (.bl (!tS v)) H;rw [e];exact k
 ·have e:tR v=false:=by
   cases h2:tR v with
   | true=>rw [h2] at h1;exact absurd rfl h1
   | false=>rfl
  rw [e] at k;exact k
theorem Tn:bZ ["shape","linked","i","j"] ["shape"] (bf z8):=cC
theorem J8(T:Txt K mg t):bJ P w K mg base cO 1 t.qM t.ud ["shape"] Qy:=by
 have S:=Tn;refine T.rK.dX S (fun _ _ _ _ H _ _ _ hr h=>?_);obtain ⟨tp,n,L,rfl,⟨lt,us,cN,elt,hL⟩,ok,n9,kk⟩:=h;have hu:=gX (jU (show 1≤64 by decide) _) hr.units
 have AO:((List.range n).map fun i:Nat=>V.int (0+(i:Int))).length=n:=by rw [aD,dt]
 refine ⟨_,(aB (wL (i0:=1) (N:=["place"]) (ρ:=(fun σ=>[])) (fh [] rfl) rfl S.nd rfl (Or.inl rfl) (ju rfl T.fv (ai (aW dN (pv 0) aE) ao)) (fun _ _ _=>.nil) (fun _ _ _=>Qp))
  (aB (d_ dJ rfl (BO (aW dN (pv 0) aE)) (pW rfl (iI (cy (i:=2) S.nd rfl (Or.inl rfl)) (iI (cy (i:=3) S.nd rfl (Or.inl rfl)) pV)))
   (aB (qA hu (aW cL (pv 1) (pv 2)) (pv 3) fD rfl)
  (aG (qA hu (aW cL (pv 1) (pv 3)) (pv 2) fD rfl))))
  (aG (bI (pv 1))))),?_⟩
 refine cq (jB (Cr (xs:=(List.range n).map fun i:Nat=>V.int (0+(i:Int))) (n:=n) AO (fun R h=>⟨_,rfl,tp,_,_,_,rfl,rfl,.of cN,rfl,(n:Int),rfl,by omega,by omega,h _ _ (aj.refl _) (by rw [cZ];exact zl)⟩) (b4 (by omega)) (fun _ i y Hx=>Hx y=some (.dK (dk []))∧H y=none) ?_ ?_ ?_))
 ·intro D i y Ha Hb ys ⟨h1,h2⟩ hy e f
  exact ⟨f y _ hy h1,h2⟩
 ·intro D i x hx Hc R sc _ kc
  refine fun p np=>kc p _ (d7 (aj.refl _) np) np ⟨_,au⟩ ⟨au,?_⟩;cases e:H p with
  | none=>rfl
  | some o=>rw [sc _ _ e] at np;cases np
 ·intro D ds H1 nD s1 inj hA eD
  have K0:dE H1 D n ds (fun _=>True) (fun _=>[]):=⟨eD,inj,fun i hi=>(hA i hi).2,fun i hi _=>(hA i hi).1.1,fun i _=>ja.nil n⟩;have fr:∀i,i<n→H (ds i)=none:=fun i hi=>(hA i hi).1.2;dsimp only [aO];refine cq ⟨_,rfl,tp,_,_,_,rfl,rfl,.of (s1 _ _ cN),rfl,lt,rfl,⟨_,.of (s1 _ _ elt)⟩,?_⟩;refine BP (K:=K) (a:=lt) (xs:=us) (fun k σ Hc=>∃(f:Nat→List Nat) (v2 v3:Option V),σ=[some (.ref tp),some (.ref D),v2,v3]∧aj H Hc∧dE Hc D n ds (fun _=>True) f∧dP n (L.take k) f) ⟨_,_,_,rfl,s1,K0,dP.nil n⟩ (fun k σ Hc _ ⟨_,_,_,_,sc,_⟩=>.of (sc _ _ elt)) ?_ ?_
  ·rintro k x σ Hc hx ⟨f,v2,v3,rfl,sc,KL,nb⟩
   have hk:k<L.length:=by rw [←hL.1];exact (bM.mp hx).1
   obtain ⟨b,rfl,eb⟩:=hL.2 k x L[k] hx (by simp [hk])
   have pk:=ok L[k] (cS hk);have tk:L.take (k+1)=L.take k++[L[k]]:=by rw [jo,bx hk];rfl
   generalize L[k]=p at eb pk tk;obtain ⟨p1,p2⟩:=p;dsimp only at pk eb;obtain ⟨i,rfl⟩:=fL pk.1;obtain ⟨j,rfl⟩:=fL pk.2.2.1;have hi:i<n:=by omega
   have hj:j<n:=by omega
   refine ⟨b,_,rfl,.of (sc _ _ eb),rfl,_,_,rfl,_,_,rfl,rfl,?_⟩;obtain ⟨q1,K1⟩:=KL.put hi hj trivial n9;obtain ⟨q2,K2⟩:=K1.put hj hi trivial n9;refine ⟨_,rfl,_,rfl,D,_,_,_,rfl,rfl,.of KL.lst,KL.ix hi,_,rfl,_,_,rfl,q1,?_⟩;refine ⟨_,rfl,_,rfl,D,_,_,_,rfl,rfl,.of K1.lst,K1.ix hj,_,rfl,_,_,rfl,q2,?_⟩;have off:∀(Hx:Hp) (i:Nat) (o:HO),i<n→aj H Hx→aj H (upd Hx (ds i) o):=fun Hx i o hi sx a u e=>by
    rw [aP (fun z=>by rw [z,fr i hi] at e;cases e)]
    exact sx _ _ e
   exact ⟨_,_,_,rfl,off _ _ _ hj (off _ _ _ hi sc),K2,by rw [tk];exact nb.more hi hj⟩
  ·rintro σ Hc ⟨f,v2,v3,rfl,sc,KL,nb⟩
   rw [hL.1,gp] at nb;exact ⟨_,rfl,kk _ _ _ _ sc nD fr KL nb⟩
theorem To:bZ ["many"] ["many"] (bf Ad):=cC
theorem J9(T:Txt K mg t):bJ P w K mg base cO 1 t.qU t.um ["many"] QX:=by have S:=To;refine T.rN.dX S (fun _ _ _ _ H _ _ _ hr h=>?_);obtain ⟨m,rfl,m1,k⟩:=h;refine ⟨_,(aG (bI (bb fb (bb fb (bb g7 (pv 0) (pv 0)) (bb g7 aE (pv 0))) aE))),?_⟩;exact ⟨_,rfl,_,rfl,_,_,rfl,rfl,.inl ⟨by omega,by omega⟩,_,rfl,_,_,rfl,rfl,.inl ⟨by omega,by omega⟩,_,_,rfl,rfl,_,_,rfl,rfl,k⟩
theorem Tp:bZ ["shape"] ["shape"] (bf Af):=cC
theorem DX(T:Txt K mg t):bJ P w K mg base (fg P w) 1 t.qW t.ur ["shape"] QY:=by
 have S:=Tp;obtain ⟨uM,hM,rM⟩:=T.J5;refine T.oR.eC S (fun _ _ _ _ H _ _ _ hr h L=>?_);obtain ⟨tp,n,Lk,rfl,⟨lt,us,cN,elt,jA⟩,n9,k⟩:=h;refine ⟨_,(aG (cU (cz oj (aW dN (pv 0) aE) (Mb (v:=.int 9) rfl hM rM)) (aG (Gw L rfl PySem.F.excBase_ValueError T.J7 rfl T.J0 (ai Fw ao))) cT)),?_⟩;refine ⟨_,rfl,tp,_,_,_,rfl,rfl,.of cN,rfl,_,_,rfl,rfl,_,rfl,dc (fun hc=>?_) (fun hc=>?_)⟩
 ·have hc:(9:Int)<(n:Int):=fz hc
  omega
 ·exact k
theorem Tq:bZ ["linked","done","place","met","waiting","here","other"] ["linked","done","place"] (bf Ag):=cC
theorem Tr(T:Txt K mg t):bJ P w K mg base cO 1 t.qX t.uu ["linked","done","place"] Q4:=by
 have S:=Tq
 refine T.u6.dX S (fun _ _ _ _ H vs Q _ hr h=>?_)
 obtain ⟨D,d,n,ds,f,done,p,rfl,KL,ed,ld,pn,J_,kk⟩:=h
 have hu:=gX (jU (show 1≤64 by decide) _) hr.units
 refine ⟨_,(aB (putL 3 S.nd (HK (HH (pv 2) fD HG) rfl rfl (fun h=>by cases h) (by decide)))
  (aB (putL 4 S.nd (da (ai (pv 2) ao)))
  (aB (v_ dJ (cz oj (b3 gA rfl T.fI fN (ai (pv 4) ao)) aE) (aB (putL 5 S.nd (B5 fA BB BC Gn (pv 4)))
  (aG (d_ dJ rfl (C5 (aW cL (pv 0) (pv 5))) (cy (i:=6) S.nd rfl (Or.inl rfl))
   (aG (cU (BJ (HE hu (pv 6) (pv 3)) rfl) (aB (qA hu (pv 3) (pv 6) fD rfl)
  (aG (cU (om B2 (pv 6) (pv 1) rfl) (aG (eO (gB fA jq jr gC (pv 4) (ai (pv 6) ao)))) cT))) cT))))))
  (aG (bI (hE (N:=["other","place","done"]) (ρ:=(fun σ=>[σ[2]?.join,σ[1]?.join])) (fh [2,1] rfl) rfl (C5 (pv 3)) (fun _ _ _=>(.one (PW.pt (pw_and (cz mK (pv 0) (pv 1)) (pw_and1 (om (Di (K:=K)) (pv 0) (pv 2) rfl)))))) (fun _ _ _=>(pv 0)))))))),?_⟩
 refine cI fun _ kC=>(jB fun mt iV=>⟨_,rfl,au,[((Sum.inl (p:Int):Key),V.bl true)],rfl,by show 1≤15;decide,?_⟩)
 have Zr:=iV
 have s0:∀b o,b≠mt→H b=some o→upd (upd H mt (.dK [])) mt (.dK (kj [] [((Sum.inl (p:Int):Key),V.bl true)])) b=some o:=fun b o ne e=>by rw [aP ne,aP ne];exact e
 have em:upd (upd H mt (.dK [])) mt (.dK (kj [] [((Sum.inl (p:Int):Key),V.bl true)])) mt=some (.dK (dk [p])):=by rw [au];rfl
 generalize upd (upd H mt (.dK [])) mt (.dK (kj [] [((Sum.inl (p:Int):Key),V.bl true)]))=H1 at s0 em ⊢
 have sm:aj H H1:=fun b o e=>s0 b o (fun z=>by rw [z,iV] at e;cases e) e
 dsimp only [aO]
 refine kC _ _ ?_
 refine cI fun _ jg=>⟨_,rfl,by show 1≤sizeLine;decide,fun l nl=>?_⟩
 have sl:aj H1 (upd H1 l (.lst [V.int (p:Int)])):=aJ nl
 have el:upd H1 l (.lst [V.int (p:Int)]) l=some (.lst (([p]:List Nat).map fun k:Nat=>V.int (k:Int))):=au
 generalize upd H1 l (.lst [V.int (p:Int)])=H2 at sl el ⊢
 have iB:H l=none:=none_of sm nl
 have lm:l≠mt:=fun z=>by rw [z,em] at nl;cases nl
 have s2:=sm.trans sl
 have mD:mt≠D:=fun z=>absurd KL.lst (by rw [←z,iV];exact fun h=>by cases h)
 have lD:l≠D:=fun z=>absurd KL.lst (by rw [←z,iB];exact fun h=>by cases h)
 have DY:∀i,i<n→ds i≠mt:=fun i hi z=>absurd (KL.at' i hi trivial) (by rw [z,iV];exact fun h=>by cases h)
 have AQ:∀i,i<n→ds i≠l:=fun i hi z=>absurd (KL.at' i hi trivial) (by rw [z,iB];exact fun h=>by cases h)
 have Ka:∀i,i<n→d≠ds i:=fun i hi z=>absurd (KL.at' i hi trivial) (by rw [←z,ed];exact fun h=>by cases h)
 dsimp only [aO]
 refine jg _ _ ?_
 refine cq ⟨fun m σ Hc=>∃(ks ws:List Nat) (v5 v6:Option V),σ=[some (.ref D),some (.ref d),some (.int (p:Int)),some (.ref mt),some (.ref l),v5,v6]∧m=2*(n-ks.length)+ws.length∧qB n ds H Hc∧mY Hc D n ds f∧Hc mt=some (.dK (dk ks))∧Hc l=some (.lst (ws.map fun k:Nat=>V.int (k:Int)))∧dQ n (fu n f) (·∈done) p none (fun _=>True) ks ws∧ws.length≤ks.length,⟨_,[p],[p],_,_,rfl,rfl,fun b o e _=>s2 _ _ e,(KL.mono s2).fr,sl _ _ em,el,dQ.start pn,ax _⟩,?_⟩
 rintro m' σ Hc ⟨ks,ws,v5,v6,rfl,Ts,oc,Kc,xM,m9,wk,wl⟩
 have Kb:=wk.pl.len
 refine ⟨_,rfl,l,_,rfl,.inl (.of m9),_,_,rfl,rfl,_,rfl,dc (fun hb=>?_) (fun hb=>?_)⟩
 ·have hb:(0:Int)<((ws.map fun k:Nat=>V.int (k:Int)).length:Int):=fz hb
  rw [aD] at hb
  have xN:ws≠[]:=fun z=>by rw [z] at hb;simp at hb
  obtain ⟨us,h,rfl⟩:∃us h,ws=us++[h]:=⟨ws.dropLast,ws.getLast xN,(List.dropLast_concat_getLast xN).symm⟩
  have Tu:(us++[h]).length=us.length+1:=by simp
  have hh:=wk.wt h (dI _ (bY.mpr rfl))
  have hn:h<n:=wk.pl.2 h hh.1
  have kD:=wk.pop
  refine ⟨_,fun _ _ h=>h,?_⟩
  refine ⟨_,rfl,.inl ⟨rfl,_,.of m9⟩,l,_,.int (h:Int),rfl,rfl,m9,by simp,?_⟩
  rw [eN,di,sI,List.dropLast_concat]
  have o1:∀b u,b≠l→Hc b=some u→upd Hc l (.lst (us.map fun k:Nat=>V.int (k:Int))) b=some u:=fun b u ne e=>by rw [aP ne];exact e
  have xO:upd Hc l (.lst (us.map fun k:Nat=>V.int (k:Int))) l=some (.lst (us.map fun k:Nat=>V.int (k:Int))):=au
  have xP:∀{Hx Hy:Hp},qB n ds H Hx→(∀b u,b≠l→Hx b=some u→Hy b=some u)→qB n ds H Hy:=fun h k b u e ne=>k b u (fun z=>by rw [z,iB] at e;cases e) (h b u e ne)
  have DZ:∀{Hx Hy:Hp},qB n ds H Hx→(∀b u,b≠mt→Hx b=some u→Hy b=some u)→qB n ds H Hy:=fun h k b u e ne=>k b u (fun z=>by rw [z,iV] at e;cases e) (h b u e ne)
  have K1:=Kc.keep o1 lD AQ
  have rX:=xP oc o1
  have xQ:=o1 _ _ (Ne.symm lm) xM
  generalize upd Hc l (.lst (us.map fun k:Nat=>V.int (k:Int)))=H3 at o1 xO K1 rX xQ ⊢
  dsimp only [aO]
  refine Ib (a:=ds h) (kvs:=dk (f h)) (fun Q q=>⟨_,rfl,_,rfl,D,_,_,_,rfl,rfl,.of K1.lst,ko hn,q⟩) (K1.at' h hn) fun ob Hf rY off=>?_
  have Kf:=K1.bH off hn rY KL.inj (KL.ne h hn)
  have Tv:qB n ds H Hf:=fun b u e ne=>off b u (ne h hn) (rX b u e ne)
  have Tw:=off _ _ (Ne.symm (DY h hn)) xQ
  have xR:=off _ _ (Ne.symm (AQ h hn)) xO
  refine Q5 (fun i σ He=>∃(ks us:List Nat) (v6:Option V),σ=[some (.ref D),some (.ref d),some (.int (p:Int)),some (.ref mt),some (.ref l),some (.int (h:Int)),v6]∧qB n ds H He∧mY He D n ds f∧He (ds h)=some (.bH ob (.dK (dk (f h))))∧He mt=some (.dK (dk ks))∧He l=some (.lst (us.map fun k:Nat=>V.int (k:Int)))∧dQ n (fu n f) (·∈done) p (some h) (·∈(f h).take i) ks us∧us.length≤ks.length∧h∈ks∧2*(n-ks.length)+us.length<m') ⟨ks,us,_,rfl,Tv,Kf,rY,Tw,xR,⟨kD.pl,kD.st,kD.rc,kD.wt,fun x hx ox=>(kD.cl x hx ox).imp id fun e b hb=>(e b hb).imp id fun z=>⟨z.1,by simp⟩⟩,by omega,hh.1,by omega⟩ (fun i σ He _ ⟨_,_,_,_,_,_,e,_⟩=>e) ?_ ?_
  ·rintro i k σ He hk ⟨ks,us,v6,rfl,oe,Ke,D4,kF,m_,gh,ul,gR,lt⟩
   have km:k∈f h:=iX hk
   have kn:k<n:=(KL.pl h hn).2 k km
   have tk:=take_snoc hk
   have Tx:=gh.pl.len
   dsimp only [aO]
   refine ⟨_,rfl,_,rfl,mt,_,rfl,.inl ⟨dk ks,Sum.inl (k:Int),.inl kF,rfl,rfl⟩,_,rfl,?_⟩
   rw [C9]
   by_cases jh:k∈ks
   ·rw [ae jh]
    refine fQ ⟨ks,us,_,rfl,oe,Ke,D4,kF,m_,?_,ul,gR,lt⟩
    have w2:=gh.old jh
    refine ⟨w2.pl,w2.st,w2.rc,w2.wt,fun x hx ox=>(w2.cl x hx ox).imp id fun e b hb=>(e b hb).imp id fun z=>⟨z.1,fun q=>z.2 ?_⟩⟩
    rw [tk] at q
    exact (dg.mp q).imp id bY.mp
   ·rw [aa jh]
    refine wC ?_
    have al:=Ia jh
    have o4:∀b u,b≠mt→He b=some u→upd He mt (.dK (dk (b5 ks k))) b=some u:=fun b u ne e=>by rw [aP ne];exact e
    refine cq ⟨_,rfl,_,rfl,mt,upd He mt (.dK (dk (b5 ks k))),rfl,.inl ⟨dk ks,Sum.inl (k:Int),kF,rfl,by rw [xq];exact b4 (by omega),by rw [C8]⟩,?_⟩
    have rZ:upd He mt (.dK (dk (b5 ks k))) mt=some (.dK (dk (b5 ks k))):=au
    have K4:=Ke.keep o4 mD DY
    have ng:=DZ oe o4
    have jP:=o4 _ _ lm m_
    have D5:=o4 _ _ (DY h hn) D4
    generalize upd He mt (.dK (dk (b5 ks k)))=H4 at o4 rZ K4 ng jP D5 ⊢
    have conv:∀{vs:List Nat},dQ n (fu n f) (·∈done) p (some h) (fun x=>x∈(f h).take i∨x=k) (b5 ks k) vs→dQ n (fu n f) (·∈done) p (some h) (·∈(f h).take (i+1)) (b5 ks k) vs:=fun w2=>⟨w2.pl,w2.st,w2.rc,w2.wt,fun x hx ox=>(w2.cl x hx ox).imp id fun e b hb=>(e b hb).imp id fun z=>⟨z.1,fun q=>z.2 (by
     rw [tk] at q
     exact (dg.mp q).imp id bY.mp)⟩⟩
    have Tz:=(gh.pl.add kn).len
    dsimp only
    refine ⟨_,rfl,_,rfl,d,_,rfl,.inr (.of (ng d _ ed Ka)),rfl,xt done,_,rfl,dc (fun hb=>?_) (fun hb=>?_)⟩
    ·have hb:iL (.int (k:Int)) (done.map fun k:Nat=>V.int (k:Int))=true:=hb
     rw [mZ,eY] at hb
     refine ⟨_,rfl,.inl ⟨rfl,_,.of jP⟩,_,rfl,l,_,_,rfl,rfl,jP,b4 (by rw [aD];omega),?_⟩
     have o5:∀b u,b≠l→H4 b=some u→upd H4 l (.lst ((us.map fun k:Nat=>V.int (k:Int))++[V.int (k:Int)])) b=some u:=fun b u ne e=>by rw [aP ne];exact e
     exact ⟨b5 ks k,us++[k],_,rfl,xP ng o5,K4.keep o5 lD AQ,o5 _ _ (AQ h hn) D5,o5 _ _ (Ne.symm lm) rZ,by rw [au,eN];rfl,conv (gh.new jh kn gR hh.2 ⟨hn,km⟩ (.inl ⟨hb,rfl⟩)),by rw [al,dh,kL];omega,gN.mpr (.inl gR),by rw [al,dh,kL];omega⟩
    ·have hb:¬iL (.int (k:Int)) (done.map fun k:Nat=>V.int (k:Int))=true:=hb
     rw [mZ,eY] at hb
     exact ⟨b5 ks k,us,_,rfl,ng,K4,D5,rZ,jP,conv (gh.new jh kn gR hh.2 ⟨hn,km⟩ (.inr ⟨hb,rfl⟩)),by rw [al];omega,gN.mpr (.inl gR),by rw [al];omega⟩
  ·rintro σ He ⟨ks,us,v6,rfl,oe,Ke,D4,kF,m_,gh,ul,gR,lt⟩
   rw [gp] at gh
   exact ⟨_,lt,ks,us,_,_,rfl,rfl,oe,Ke,kF,m_,gh.next fun b hb=>hb.2,ul⟩
 ·have w0:ws=[]:=by
   cases ws with
   | nil=>rfl
   | cons x r=>
    refine absurd (bQ ?_) hb
    show (0:Int)<_
    simp
  subst w0
  dsimp only
  refine wO (Dh (Ib (a:=mt) (kvs:=dk ks) (fun Q q=>⟨_,rfl,q⟩) (.inl xM) fun ob Hf rY off=>?_))
  have TB:Hf d=some (.tup (done.map fun k:Nat=>V.int (k:Int))):=off _ _ (fun z=>by rw [z,iV] at ed;cases ed) (oc d _ ed Ka)
  refine HS rY (fun q=>!decide (q=p) && !decide (q∈done)) (b4 (by omega)) ?_ ?_ ?_
  ·intro q hq Hx R sx hR
   refine ⟨_,rfl,_,rfl,rfl,_,rfl,dc (fun hb=>?_) (fun hb=>?_)⟩
   ·have ne:¬q=p:=fun z=>by
     subst z
     rw [mP,bQ rfl] at hb
     cases hb
    refine ⟨_,rfl,_,rfl,d,_,rfl,.inr (.of (sx _ _ TB)),rfl,xt done,_,rfl,?_⟩
    rw [bW ne,Bool.not_false,sX] at hR
    have e:(if true=true then !iL (.int (q:Int)) (done.map fun k:Nat=>V.int (k:Int)) else iL (.int (q:Int)) (done.map fun k:Nat=>V.int (k:Int))) = !decide (q∈done):=by rw [ae rfl,mZ]
    rw [e]
    exact hR
   ·have eq:q=p:=by
     by_cases z:(q:Int)=(p:Int)
     ·omega
     ·exact absurd (by rw [mP,bW z];rfl) hb
    rw [bQ eq,Bool.not_true,vG] at hR
    exact hR
  ·intro q hq Hx R hR
   exact ⟨_,rfl,hR⟩
  ·intro r Hg nr sg eg
   refine kk Hg r _ (fun b u e ne=>sg _ _ (off _ _ (fun z=>by rw [z,iV] at e;cases e) (oc b u e ne))) eg ⟨ks,wk.pl,wk.done,by rw [aD]⟩
theorem TC:bZ ["shape","done","place"] ["shape","done","place"] (bf Ah):=cC
theorem TF(T:Txt K mg t):bJ P w K mg base (fg P w) 2 t.qY t.uv ["shape","done","place"] Q7:=by
 have S:=TC;refine T.u7.eC S (fun _ _ _ _ H _ _ _ hr h L=>?_);obtain ⟨tp,d,n,Lk,done,p,rfl,hS,hL,n9,ed,ld,pn,kk⟩:=h
 refine ⟨_,(aB (eO (a7 (DX T) hr T.AI T.oR.kp T.AH (lF L) (ai (pv 0) ao)))
  (aG (bI (a7 (J9 T) hr T.DG T.rN.kp T.DF bS (ai (b3 gA rfl T.fI fN (ai (a7 (Tr T) hr T.Jw T.u6.kp T.Jv bS (ai (a7 (J8 T) hr T.DE T.rK.kp T.DD bS (ai (pv 0) ao)) (ai (pv 1) (ai (pv 2) ao)))) ao)) ao))))),?_⟩
 refine ⟨_,rfl,tp,n,Lk,rfl,hS,n9,?_⟩;refine ⟨_,rfl,tp,n,Lk,rfl,hS,hL,by omega,fun H1 D ds f s1 nD D6 KL nb=>?_⟩
 refine ⟨_,rfl,_,rfl,D,d,n,ds,f,done,p,rfl,KL,s1 _ _ ed,ld,pn,by omega,fun H2 r xs off er near=>?_⟩
 have s2:aj H H2:=fun b u e=>off b u (s1 _ _ e) fun i hi z=>by rw [z,D6 i hi] at e;cases e
 have c9:=near.le;exact ⟨r,xs,rfl,.inl (.of er),xs.length,rfl,by omega,kk H2 f xs.length s2 nb near⟩
theorem TH:bZ ["done","place"] ["done","place"] (bf Aj):=cC
theorem Ki(T:Txt K mg t):bJ P w K mg base cO 1 t.q5 t.ux ["done","place"] Sj:=by
 have S:=TH;refine T.rQ.dX S (fun _ _ _ _ H _ Q _ hr h=>?_);obtain ⟨d,done,p,rfl,ed,l1,kk⟩:=h;refine ⟨_,(aG (bI (gx B3 rfl T.vp boot_tuple (ai (b3 R0 rfl T.oV pI (ai (bb (HZ (K:=K)) (pv 0) (gv (ai (pv 1) ao))) ao)) ao)))),?_⟩;have fin:∀(H1:Hp) (b:Addr),aj H H1→H1 b=some (.tup ((done++[p]).map V.int))→wg IA (fun σ H Q=>Q [.ref b] H) [] H1 (fun x H2=>∃q ys,[x]=[V.ref q]∧((bt K H2 q ys∧∀l,H2 l=none→Q (.ref l) (upd H2 l (.tup ys)))∨(dU K H2 q ys∧Q (.ref q) H2))):=fun H1 b s1 eb=>by
  refine ⟨b,done++[p],rfl,eb,by simp;omega,fun ws D pm so nD=>⟨D,_,rfl,.inl ⟨.of au,fun l nl=>?_⟩⟩⟩
  exact kk _ l ws pm so (none_of s1 (none_of (aJ nD) nl)) (s1.trans ((aJ nD).trans (aJ nl))) au
 refine ⟨_,rfl,_,rfl,by show 1≤sizeLine;decide,fun b nb=>?_⟩
 have s1:aj H (upd H b (.tup [.int p])):=aJ nb;have eb:upd H b (.tup [.int p]) b=some (.tup [.int p]):=au;generalize upd H b (.tup [.int p])=H1 at s1 eb ⊢;refine ⟨d,b,_,_,rfl,rfl,.of (s1 _ _ ed),.of eb,by simp,Si (by rw [aD];simp;omega),fun e0=>?_,fun e1 c nc=>?_⟩
 ·have:done=[]:=yH.mp e0
  subst this;exact fin H1 b s1 eb
 ·refine fin _ c (s1.trans (aJ nc)) ?_
  rw [au,eN];rfl
theorem TJ:bZ ["n","told","place"] ["n"] (bf Ai):=cC
theorem Kj(T:Txt K mg t):bJ P w K mg base cO 1 t.qZ t.uw ["n"] Sk:=by
 have S:=TJ;refine T.rO.dX S (fun _ _ _ _ H _ _ _ hr h=>?_);obtain ⟨n,rfl,n9,kk⟩:=h
 refine ⟨_,(aB (putL 1 S.nd (da (ai (gv ao) ao)))
  (aB (d_ dJ rfl (ju rfl T.fv (ai (pv 0) ao)) (cy (i:=2) S.nd rfl (Or.inr rfl))
   (aG (putL 1 S.nd (bb y8 (pv 1) (hE (N:=["each","place"]) (ρ:=(fun σ=>[σ[2]?.join])) (fh [2] rfl) rfl (dM (pv 1)) (fun _ _ _=>.nil) (fun _ _ _=>(bb (HZ (K:=K)) (pv 0) (gv (ai (pv 1) ao)))))))))
  (aG (bI (pv 1))))),?_⟩
 refine ⟨ba _,fun b nb=>⟨by show 1≤sizeLine;decide,fun l nl=>?_⟩⟩
 have s0:aj H (upd (upd H b (.tup [])) l (.lst [.ref b])):=(aJ nb).trans (aJ nl);have lb:b≠l:=fun z=>by rw [z,au] at nl;cases nl
 have eb:upd (upd H b (.tup [])) l (.lst [.ref b]) b=some (.tup []):=by rw [aP lb,au]
 have el:upd (upd H b (.tup [])) l (.lst [.ref b]) l=some (.lst [.ref b]):=au;generalize upd (upd H b (.tup [])) l (.lst [.ref b])=H0 at s0 eb el ⊢;dsimp only [aO];refine cq ⟨_,rfl,(n:Int),rfl,by omega,by omega,?_⟩
 rw [cZ];refine n_ (fun k σ Hc=>∃(D:Addr) (xs:List V) (v2:Option V),σ=[some (.int (n:Int)),some (.ref D),v2]∧aj H Hc∧H D=none∧Hc D=some (.lst xs)∧jM Hc xs (a_ k)) ⟨l,_,_,rfl,s0,none_of (aJ nb) nl,el,⟨rfl,fun i v q h1 h2=>?_⟩⟩ ?_ ?_
 ·match i,h1,h2 with
  | 0,h1,h2=>cases h1;cases h2;exact ⟨b,rfl,eb⟩
  | i+1,h1,h2=>simp at h1
 ·rintro k σ Hc hk ⟨D,xs,v2,rfl,sc,nD,eD,tu⟩
  have p2:2 ^ k≤512:=a9 (vO (by decide) (show k≤9 by omega)) (by decide)
  have lx:xs.length=2 ^ k:=tu.1.trans (xD k);dsimp only [aO];refine jB ⟨_,rfl,ou (xs:=xs) (fun R h=>⟨_,rfl,D,rfl,⟨_,.of eD⟩,h _ _ (aj.refl _) (iP (.of eD))⟩) (b4 (by omega)) (fun _ i y Hz=>∀q,(a_ k)[i]?=some q→∃(b:Addr),y=.ref b∧Hz b=some (.tup ((q++[k]).map fun k:Nat=>V.int (k:Int)))) (fun Dd i y Ha Hb ys h e f q hq=>by obtain ⟨b,h1,h2⟩:=h q hq;exact ⟨b,h1,f b _ (fun z=>by rw [z,e] at h2;cases h2) h2⟩) ?_ ?_⟩
  ·intro Dd i x hx Hz R sz _ kz
   have hi:i<(a_ k).length:=by rw [←tu.1];exact (bM.mp hx).1
   obtain ⟨b,rfl,eb⟩:=tu.2 i x _ hx (bx hi);have jN:(a_ k)[i]?=some (a_ k)[i]:=bx hi;generalize (a_ k)[i]=us at eb jN;have lu:us.length≤60:=by obtain ⟨u1,u2⟩:=dR.mp (iX jN);have:=xE u1 u2;omega
   refine ⟨_,rfl,_,rfl,by show 1≤sizeLine;decide,fun q nq=>?_⟩
   have D7:=sz _ _ eb;have bq:b≠q:=fun z=>by rw [z,nq] at D7;cases D7
   have TK:upd Hz q (.tup [V.int (0+(k:Int))]) b=some (.tup (us.map fun k:Nat=>V.int (k:Int))):=(aP bq).trans D7;refine ⟨b,q,_,_,rfl,rfl,.of TK,.of au,by simp,a9 (show _≤100 by simp;omega) (by decide),fun e=>?_,fun ne p np=>?_⟩
   ·refine kz _ _ (aJ nq) fun r hr=>⟨q,rfl,?_⟩
    rw [jN] at hr;cases hr;have:us=[]:=yH.mp e;subst this;rw [au,kU];rfl
   ·refine kz _ _ ((aJ nq).trans (aJ np)) fun r hr=>⟨p,rfl,?_⟩
    rw [jN] at hr;cases hr;rw [au,kU,eN];rfl
  ·intro Dd ys Hd D8 sd nh ni r6
   refine ⟨D,Dd,xs,ys,rfl,rfl,sd _ _ eD,r6,a9 (show _≤2000 by omega) (by decide),fun l2 r_=>?_⟩
   have ty:jM Hd ys ((a_ k).map (·++[k])):=⟨by rw [nh,aD,tu.1],fun i v q h1 h2=>by
    rw [bP] at h2;cases e:(a_ k)[i]? with
    | none=>rw [e] at h2;cases h2
    | some r=>rw [e] at h2;cases h2;exact ni i v h1 r e⟩
   exact ⟨l2,_,_,rfl,(sc.trans sd).trans (aJ r_),none_of (sc.trans sd) r_,au,((tu.mono sd).cat ty).mono (aJ r_)⟩
 ·rintro σ Hc ⟨D,xs,v2,rfl,sc,nD,eD,tu⟩
  exact ⟨_,rfl,kk D xs Hc sc nD eD tu⟩
theorem TL:bZ ["shape","done","worth_of","left"] ["shape","done","worth_of"] (bf Ak):=cC
theorem D9(T:Txt K mg t):bJ P w K mg base (fg P w) 3 t.q8 t.uy ["shape","done","worth_of"] Sn:=by
 have S:=TL;refine T.oS.eC S (fun _ _ _ _ H _ _ _ hr h L=>?_);obtain ⟨tp,d,wo,n,Lk,done,kvs,W,rfl,df,bj,n9,ed,hd,l9,hW,kk⟩:=h;have fV:=hr.units;have D_:=gX (jU (show 1≤64 by decide) _) hr.units
 refine ⟨_,(aB (wL (i0:=3) (N:=["place","done"]) (ρ:=(fun σ=>[σ[1]?.join])) (fh [1] rfl) rfl S.nd rfl (Or.inl rfl) (ju rfl T.fv (ai (aW dN (pv 0) aE) ao)) (fun _ _ _=>(.one (om (Di (K:=K)) (pv 0) (pv 1) rfl))) (fun _ _ _=>(pv 0)))
  (aG (bI (hE (N:=["place","shape","done","worth_of"]) (ρ:=(fun σ=>[σ[0]?.join,σ[1]?.join,σ[2]?.join])) (fh [0,1,2] rfl) rfl (dM (pv 3)) (fun _ _ _=>.nil) (fun _ _ _=>(gv (ai (bb fb (a7 (TF T) hr T.Jy T.u7.kp T.Jx tK (ai (pv 1) (ai (pv 2) (ai (pv 0) ao)))) (t5 D_ (pv 3) (a7 (Ki T) hr T.DK T.rQ.kp T.DJ bS (ai (pv 2) (ai (pv 0) ao))) (fun _ _=>rfl))) (ai (pv 0) ao)))))))),?_⟩
 obtain ⟨lt,us,cN,elt,jA⟩:=id df;obtain ⟨dup,TM⟩:=dR.mp hd;have dl:done.length≤9:=a9 (xE dup TM) n9;have fl:(done.map fun k:Nat=>V.int (k:Int)).all jy=true:=by rw [mf];intro v hv;obtain ⟨q,_,rfl⟩:=cx.mp hv;rfl
 have AO:((List.range n).map fun i:Nat=>V.int (0+(i:Int))).length=n:=by rw [aD,dt]
 refine cq (jB (zP (xs:=(List.range n).map fun i:Nat=>V.int (0+(i:Int))) (xF done) (fun R h=>⟨_,rfl,tp,_,_,_,rfl,rfl,.of cN,rfl,(n:Int),rfl,by omega,by omega,h _ _ (aj.refl _) (by rw [cZ];exact zl)⟩) (b4 (by omega)) ?_ (fun x Hx R h=>⟨_,rfl,h⟩) fun l H1 nl s1 el=>?_))
 ·intro x si Hd R sd kR
  obtain ⟨q,hq,rfl⟩:=cx.mp si;refine ⟨_,rfl,_,rfl,d,_,rfl,.inr (.of (sd _ _ ed)),rfl,fl,_,rfl,?_⟩;rw [Sl] at kR;exact kR
 rw [Sm] at el;dsimp only [aO];have Zs:(bo n done).length≤n:=a9 (mq _ _) (by rw [dt];exact ax _)
 refine wO (ou (xs:=(bo n done).map fun k:Nat=>V.int (k:Int)) (fun R h=>⟨_,rfl,l,rfl,⟨_,.of el⟩,h _ _ (aj.refl _) (iP (.of el))⟩) (b4 (by rw [aD];omega)) (fun _ i y Hz=>∀p,(bo n done)[i]?=some p→∃b,y=.ref b∧Hz b=some (.tup [.int (cR n Lk done p+W (aZ done p)),.int (p:Int)])) (fun Dd i y Ha Hb ys h e f q hq=>by obtain ⟨b,h1,h2⟩:=h q hq;exact ⟨b,h1,f b _ (fun z=>by rw [z,e] at h2;cases h2) h2⟩) ?_ ?_)
 ·intro Dd i x hx Hz R sz _ kz
  rw [bP] at hx;cases ep:(bo n done)[i]? with
  | none=>rw [ep] at hx;cases hx
  | some p=>
   rw [ep] at hx;cases hx;have pm:=iX ep;have pn:p<n:=by have:=(cu.mp pm).1;exact b7.mp this
   have pd:p∉done:=by have:=(cu.mp pm).2;simpa using this
   have vt:=s1.trans sz;refine ⟨_,rfl,_,rfl,_,rfl,tp,d,n,Lk,done,p,rfl,df.mono vt,bj,n9,vt _ _ ed,by omega,pn,fun H2 f c s2 nb near=>?_⟩
   have gT:=vt.trans s2;refine ⟨_,rfl,_,rfl,_,rfl,d,done.map iN,(p:Int),rfl,by rw [gT _ _ ed,cm];rfl,by rw [aD];omega,fun H3 tq ws pm so sj s3 oW=>?_⟩
   have ew:=II dup pd pm so;subst ew;have fJ:=gT.trans s3;refine ⟨wo,_,rfl,(hW p pn pd)▸gM.t (k:=cY (aZ done p)) (fJ _ _ l9) (by rw [oW];unfold cY;rw [cm,cm];rfl),_,_,rfl,rfl,_,rfl,by show 2≤sizeLine;decide,fun q nq=>?_⟩
   refine kz _ _ ((s2.trans s3).trans (aJ nq)) fun r hr=>⟨q,rfl,?_⟩;rw [ep] at hr;cases hr;rw [au,IH nb near]
 ·intro Dd ys Hd D8 sd nh ni r6
  rw [aD] at nh;exact kk Hd Dd ys (s1.trans sd) r6 ⟨nh,fun i v p h1 h2=>ni i v h1 p h2⟩
theorem TN:bZ ["shape","told","done"] ["shape"] (bf Al):=cC
theorem Kk(T:Txt K mg t):bJ P w K mg base (fg P w) 4 t.q_ t.uz ["shape"] Ss:=by
 have S:=TN;refine T.rR.eC S (fun _ _ _ _ H _ _ _ hr h L=>?_);obtain ⟨tp,n,Lk,rfl,df,bj,n9,kk⟩:=h;have hu:=gX (jU (show 1≤64 by decide) _) hr.units
 refine ⟨_,(aB (eO (a7 (DX T) hr T.AI T.oR.kp T.AH (lF L) (ai (pv 0) ao)))
  (aB (putL 1 S.nd Qq)
  (aB (d_ (HX L) rfl (dM (RW (ai (a7 (Kj T) hr T.DI T.rO.kp T.DH bS (ai (aW dN (pv 0) aE) ao)) ao) rfl T.oV pI rfl T.fI fN)) (cy (i:=2) S.nd rfl (Or.inl rfl))
   (aG (qA hu (pv 1) (pv 2) (Se rfl (ai (GJ (N:=["total","place"]) (ρ:=(fun σ=>[])) (GI [] rfl) rfl (dM (a7 (D9 T) hr T.AK T.oS.kp T.AJ (lF L) (ai (pv 0) (ai (pv 2) (ai (pv 1) ao))))) (fun _ _ _=>.nil) (fun _ _ _=>(pv 0))) ao) aE rfl T.xK boot_min) rfl)))
  (aG (bI (pv 1)))))),?_⟩
 refine ⟨_,rfl,tp,n,Lk,rfl,df,n9,?_⟩;intro D nD;have s0:aj H (upd H D (.dT [])):=aJ nD;have AR:upd H D (.dT []) D=some (.dT []):=au;dsimp only [aO];generalize upd H D (.dT [])=H0 at s0 AR ⊢;obtain ⟨lt,us,cN,elt,jA⟩:=id (df.mono s0);refine cq ⟨_,rfl,tp,_,_,_,rfl,rfl,.of cN,rfl,n,rfl,n9,fun Dx xs H1 s1 TQ vv tu=>?_⟩;have Kl:(a_ n).length≤512:=by rw [xD];exact a9 (vO (by decide) n9) (by decide)
 refine ⟨Dx,xs,fun i=>((a_ n).getD i []).length,rfl,vv,by have:=tu.1;omega,(fun i v hv=>?_),fun D2 p xS fp=>?_⟩
 ·have hi:i<(a_ n).length:=by rw [←tu.1];exact (bM.mp hv).1
  obtain ⟨b,e,g⟩:=tu.2 i v _ hv (bx hi);have lq:(a_ n)[i].length≤9:=by obtain ⟨q1,q2⟩:=dR.mp (cS hi);exact a9 (xE q1 q2) n9
  exact ⟨b,_,e,g,by rw [aD];show ((a_ n).getD i []).length=_;rw [dB,bx hi];rfl,by rw [aD];omega⟩
 rw [tu.1] at fp;have fq:=Sv fp;have tq:=(Sy tu (p:=p) fun i hi=>b7.mp (fp.pm.mem_iff.mp hi)).mono (aJ (o:=.lst (p.map fun i=>xs.getD i .aN)) xS);have iC:upd H1 D2 (.lst (p.map fun i=>xs.getD i .aN)) D2=some (.lst (p.map fun i=>xs.getD i .aN)):=au;have xT:aj H0 (upd H1 D2 (.lst (p.map fun i=>xs.getD i .aN))):=s1.trans (aJ xS);generalize upd H1 D2 (.lst (p.map fun i=>xs.getD i .aN))=H2 at tq iC xT ⊢;generalize (p.map fun i=>xs.getD i .aN)=TR at tq iC ⊢;generalize (p.map fun i=>(a_ n).getD i [])=qs at tq fq;have AS:qs.length≤512:=by rw [fq.pm.length_eq];exact Kl
 have TU:D2≠D:=fun z=>by rw [z,xT _ _ AR] at iC;cases iC
 refine ⟨D2,rfl,⟨_,.of iC⟩,?_⟩;refine k_ (K:=K) (a:=D2) (xs:=TR) (fun j σ Hc=>∃(v2:Option V),σ=[some (.ref tp),some (.ref D),v2]∧aj H Hc∧(∀b o,b≠D→H2 b=some o→Hc b=some o)∧Hc D=some (.dT (wD (wW n Lk) (qs.take j)))) ⟨_,rfl,s0.trans xT,fun b o _ e=>e,xT _ _ AR⟩ (fun j σ Hc _ ⟨_,_,_,kc,_⟩=>.of (kc _ _ TU iC)) ?_ ?_
 ·rintro j x σ Hc hx ⟨v2,rfl,sc,kc,eD⟩
  have hj:j<qs.length:=by rw [←tq.1];exact (bM.mp hx).1
  have hq:qs[j]?=some qs[j]:=bx hj;obtain ⟨b,rfl,eb⟩:=tq.2 j x _ hx hq;generalize qs[j]=q at hq eb;have bD:b≠D:=fun z=>by rw [z,xT _ _ AR] at eb;cases eb
  have Km:=kc _ _ bD eb;have qm:q∈a_ n:=fq.pm.mem_iff.mp (iX hq);obtain ⟨nq,tk⟩:=Sx fq hq;have ll:(bo n q).length≤9:=a9 (mq _ _) (by rw [dt];exact n9)
  dsimp only [aO];refine Su (So (Z:=(bo n q).map fun p=>(cR n Lk q p+wW n Lk (aZ q p),(p:Int))) (fun R h=>?_) (b4 (by rw [aD];omega)) (fun z _ Hx R h=>⟨_,rfl,h⟩) fun D3 H4 TV s4 sk=>?_)
  ·refine ⟨_,rfl,_,rfl,_,rfl,tp,b,D,n,Lk,q,_,wW n Lk,rfl,df.mono sc,bj,n9,Km,qm,eD,(fun p pn pq=>xH _ (Sw fq hq pn pq)),fun H3 Dc ys s3 nj ch=>?_⟩
   exact ⟨Dc,rfl,⟨_,.of nj⟩,h _ _ s3 (IK nj (Dy ch))⟩
  ·refine ⟨D3,_,0,rfl,rfl,sk,by rw [aD,aD];omega,fun m hm=>?_⟩
   have em:m=wW n Lk q:=by rw [Sq hm,cm,xG qm];rfl
   subst em;refine ⟨_,rfl,_,rfl,D,_,rfl,qz.t (k:=cY q) (s4 _ _ eD) (by rw [s4 _ _ Km];unfold cY;rw [cm];rfl) (b4 (by unfold wD;rw [aD,me];omega)),?_⟩
   refine ⟨_,rfl,fun c o e=>?_,fun c o cD e=>(aP cD).trans (s4 _ _ (kc c o cD e)),by rw [au,Sr _ nq,tk]⟩
   rw [aP (fun z=>by rw [z,nD] at e;cases e)]
   exact s4 _ _ (sc _ _ e)
 ·rintro σ Hc ⟨v2,rfl,sc,kc,eD⟩
  rw [tq.1,gp] at eD;exact ⟨_,rfl,kk Hc D qs sc nD eD fq.pm⟩
theorem TY:bZ ["shape","worth_of","order","done","place"] ["shape"] (bf Am):=cC
theorem Kn(T:Txt K mg t):bJ P w K mg base (fg P w) 5 t.ra t.uA ["shape"] SD:=by
 have S:=TY;refine T.rS.eC S (fun _ _ _ _ H _ _ _ hr h L=>?_);obtain ⟨tp,n,Lk,rfl,df,bj,n9,kk⟩:=h;have fV:=hr.units;have hu:=gX (jU (show 1≤64 by decide) _) hr.units
 refine ⟨_,(aB (putL 1 S.nd (a7 (Kk T) hr T.DM T.rR.kp T.DL (lF L) (ai (pv 0) ao)))
  (aB (putL 2 S.nd (da ao))
  (aB (putL 3 S.nd (gv ao))
  (aB (v_ (HX L) (cz wc (b3 gA rfl T.fI fN (ai (pv 2) ao)) (aW dN (pv 0) aE)) (aB (putL 4 S.nd (aW dN (b3 (Sg rfl fV) rfl T.xK boot_min (ai (a7 (D9 T) hr T.AK T.oS.kp T.AJ (lF L) (ai (pv 0) (ai (pv 3) (ai (pv 1) ao)))) ao)) aE))
  (aB (eO (gB fA jq jr gC (pv 2) (ai (pv 4) ao)))
  (aG (putL 3 S.nd (a7 (Ki T) hr T.DK T.rQ.kp T.DJ bS (ai (pv 3) (ai (pv 4) ao))))))))
  (aG (bI (gv (ai (pv 2) (ai (t5 hu (pv 1) (gv ao) (fun _ _=>rfl)) ao))))))))),?_⟩
 refine ⟨_,rfl,tp,n,Lk,rfl,df,bj,n9,fun H1 D qs s1 nD eD pq=>?_⟩;dsimp only [aO];refine ⟨ba _,fun lo xU=>?_⟩;have s2:aj H1 (upd H1 lo (.lst [])):=aJ xU;have nk:upd H1 lo (.lst []) lo=some (.lst []):=au;have Ko:H lo=none:=none_of s1 xU;have iC:=s2 _ _ eD;dsimp only [aO];generalize upd H1 lo (.lst [])=H2 at s2 nk iC ⊢;refine ⟨ba _,fun td TZ=>?_⟩;have s3:aj H2 (upd H2 td (.tup [])):=aJ TZ;have Kp:upd H2 td (.tup []) td=some (.tup []):=au;have AU:=s3 _ _ nk;have sk:=s3 _ _ iC;dsimp only [aO];generalize upd H2 td (.tup [])=H3 at s3 Kp AU sk ⊢;have fJ:=s1.trans (s2.trans s3);have T1:lo≠D:=fun z=>by rw [z,sk] at AU;cases AU
 have oX:∀q,q∈a_ n→eW (wD (wW n Lk) qs) (cY q)=some (.int (wW n Lk q)):=fun q hq=>xH _ (pq.mem_iff.mpr hq);refine cq ⟨fun m σ Hc=>∃(o Sd:List Nat) (dn:Addr) (v4:Option V),σ=[some (.ref tp),some (.ref D),some (.ref lo),some (.ref dn),v4]∧m=n-o.length∧aj H Hc∧Hc D=some (.dT (wD (wW n Lk) qs))∧Hc lo=some (.lst (o.map fun k:Nat=>V.int (k:Int)))∧Hc dn=some (.tup (Sd.map fun k:Nat=>V.int (k:Int)))∧qI n Lk o Sd,⟨_,[],[],td,_,rfl,rfl,fJ,sk,AU,Kp,qI.start n Lk⟩,?_⟩;rintro m σ Hc ⟨o,Sd,dn,v4,rfl,rfl,sc,nj,AV,AW,fw⟩;obtain ⟨lt,us,cN,elt,jA⟩:=id (df.mono sc);obtain ⟨m1,m2⟩:=dR.mp fw.mem;have lS:Sd.length=o.length:=fw.pm.length_eq;have Zt:o.length≤n:=by rw [←lS];exact xE m1 m2
 refine ⟨_,rfl,lo,_,rfl,.inl (.of AV),_,rfl,tp,_,_,_,rfl,rfl,.of cN,rfl,_,_,rfl,rfl,_,rfl,dc (fun hc=>?_) (fun hc=>?_)⟩
 ·have hc:((o.map fun k:Nat=>V.int (k:Int)).length:Int)<(n:Int):=fz hc
  rw [aD] at hc;have Zu:o.length<n:=by omega
  refine ⟨_,fun _ _ h=>h,?_⟩;refine ⟨_,rfl,_,rfl,_,rfl,tp,dn,D,n,Lk,Sd,_,wW n Lk,rfl,df.mono sc,bj,n9,AW,fw.mem,nj,(fun p pn pd=>oX _ (dR.mpr ⟨oO m1 pd,fun x hx=>by
   rcases ky.mp hx with rfl | hx;·exact pn
   ·exact m2 x hx⟩)),fun H4 Dc ys s4 T2 ch=>?_⟩
  have T3:0<(bo n Sd).length:=Sz fw.mem (by omega)
  have lk:=Dy ch;refine ⟨Dc,ys,(fun i=>(((bo n Sd).map fun p=>(cR n Lk Sd p+wW n Lk (aZ Sd p),(p:Int))).getD i (0,0)).1),(fun i=>(((bo n Sd).map fun p=>(cR n Lk Sd p+wW n Lk (aZ Sd p),(p:Int))).getD i (0,0)).2),rfl,T2,by rw [ch.1];exact T3,(fun i v hv=>?_),fun i v hv best=>?_⟩
  ·have hi:i<(bo n Sd).length:=by rw [←ch.1];exact (bM.mp hv).1
   obtain ⟨b,e,g⟩:=ch.2 i v _ hv (bx hi);have pl:(bo n Sd)[i]<n:=b7.mp (cu.mp (cS hi)).1;simp only [dB,bP,bx hi,Option.map_some,Option.getD_some];exact ⟨⟨b,e,g⟩,by omega,by omega⟩
  ·have hi:i<(bo n Sd).length:=by rw [←ch.1];exact (bM.mp hv).1
   obtain ⟨b,rfl,g⟩:=ch.2 i v _ hv (bx hi);have xV:(bo n Sd)[i]∈bo n Sd:=cS hi;have pl:(bo n Sd)[i]<n:=b7.mp (cu.mp xV).1;have qH:∀q∈bo n Sd,cR n Lk Sd (bo n Sd)[i]+wW n Lk (aZ Sd (bo n Sd)[i])≤cR n Lk Sd q+wW n Lk (aZ Sd q):=fun q hq=>by
    obtain ⟨j,hj,rfl⟩:=sN hq;have ql:(bo n Sd)[j]<n:=b7.mp (cu.mp hq).1;have:=best j (by rw [ch.1];exact hj)
    simp only [dB,bP,bx hi,bx hj,Option.map_some,Option.getD_some] at this;omega
   generalize (bo n Sd)[i]=p at g xV pl qH;have pS:p∉Sd:=by have:=(cu.mp xV).2;simpa using this
   have Kq:=s4 _ _ AV;refine ⟨b,_,_,_,rfl,rfl,.of g,rfl,?_⟩;dsimp only [aO];refine ⟨_,rfl,.inl ⟨rfl,_,.of Kq⟩,_,rfl,lo,_,_,rfl,rfl,Kq,b4 (by rw [aD];omega),?_⟩
   have off:∀c u,c≠lo→H4 c=some u→upd H4 lo (.lst ((o.map fun k:Nat=>V.int (k:Int))++[V.int (p:Int)])) c=some u:=fun c u cl e=>(aP cl).trans e;have xW:upd H4 lo (.lst ((o.map fun k:Nat=>V.int (k:Int))++[V.int (p:Int)])) lo=some (.lst ((o++[p]).map fun k:Nat=>V.int (k:Int))):=by rw [au,eN];rfl
   have T4:dn≠lo:=fun z=>by rw [z,AV] at AW;cases AW
   have Kr:=off _ _ T4 (s4 _ _ AW);have Ks:=off _ _ T1.symm (s4 _ _ nj);have s5:aj H (upd H4 lo (.lst ((o.map fun k:Nat=>V.int (k:Int))++[V.int (p:Int)]))):=fun c u e=>off c u (fun z=>by rw [z,Ko] at e;cases e) (s4 _ _ (sc _ _ e))
   generalize upd H4 lo (.lst ((o.map fun k:Nat=>V.int (k:Int))++[V.int (p:Int)]))=H5 at xW Kr Ks s5 ⊢;dsimp only;refine ⟨_,rfl,_,rfl,dn,Sd.map iN,(p:Int),rfl,by rw [Kr,cm];rfl,by rw [aD];omega,fun H6 tq ws pm so sj s6 oW=>?_⟩
   have ew:=II m1 pS pm so;subst ew;refine ⟨_,?_,o++[p],aZ Sd p,tq,_,rfl,rfl,s5.trans s6,s6 _ _ Ks,s6 _ _ xW,by rw [oW,cm];rfl,fw.next xV qH⟩
   rw [dh];simp only [kL];omega
 ·have hc:¬((o.map fun k:Nat=>V.int (k:Int)).length:Int)<(n:Int):=fun z=>hc (bQ z)
  rw [aD] at hc;have oe:o.length=n:=by omega
  have sf:=SA fw.mem (by omega)
  have w0:wW n Lk Sd=0:=by unfold wW;rw [lS,oe,pb];rfl
  have tt:=fw.IS;refine ⟨_,rfl,_,rfl,ba _,fun e0 xX=>?_⟩;have s6:aj Hc (upd Hc e0 (.tup [])):=aJ xX;have e6:upd Hc e0 (.tup []) e0=some (.tup []):=au;generalize upd Hc e0 (.tup [])=H6 at s6 e6 ⊢;refine ⟨D,_,rfl,(oX [] (dR.mpr ⟨.nil,fun x h=>by cases h⟩))▸gM.t (k:=cY []) (s6 _ _ nj) e6,by show 2≤sizeLine;decide,fun t nt=>?_⟩
  exact kk _ t lo o (sc.trans (s6.trans (aJ nt))) Ko au (aJ nt _ _ (s6 _ _ AV)) (fw.pm.symm.trans (sf▸.refl _)) (by omega)
theorem T5:bZ ["thing","n"] ["thing","n"] (bf z9):=cC
theorem T6(T:Txt K mg t):bJ P w K mg base cO 2 t.qN t.ue ["thing","n"] QB:=by
 have S:=T5;refine T.uV.dX S (fun _ _ _ _ H _ _ _ hr h=>?_);obtain ⟨a,zs,n,rfl,ea,sq,n1,k⟩:=h;have fV:=hr.units
 refine ⟨_,(aB (cU (PW.pt (pw_or (pQ (kZ (b3 (qa (K:=K)) rfl T.oU boot_isinstance (ai (pv 0) (ai (pP (v:=.ty "list") rfl T.m8 boot_list rfl) ao))))) (pw_or1 (pQ (kZ (b3 (zg (K:=K) rfl) rfl T.xJ boot_all (ai (hE (N:=["place"]) (ρ:=(fun σ=>[])) (fh [] rfl) rfl (dM (pv 0)) (fun _ _ _=>.nil) (fun _ _ _=>(a7 (Tj T) hr T.Ji T.uU.kp T.Jh bS (ai (pv 0) ao)))) ao))))))) (aG (bI fD)) cT)
  (aG (bI (mL (Dg fV) (b3 C7 rfl T.oV pI (ai (pv 0) ao)) (gx (wI rfl) rfl T.m8 boot_list (ai (gx tP rfl T.fv tQ (ai (pv 1) ao)) ao)))))),?_⟩
 refine ⟨_,rfl,_,_,_,true,rfl,rfl,.of (.lst ea),Oy,true,rfl,fQ ?_⟩;unfold Fx tB;refine qq (OB (xs:=zs.map V.int) (fun R h=>⟨_,rfl,a,rfl,⟨_,.of ea⟩,h _ _ (aj.refl _) (iP (.of ea))⟩) (by rw [aD];exact b4 (by omega)) (fun _ i y _=>y=.bl true) (fun _ _ _ _ _ _ h _ _=>h) ?_ ?_)
 ·intro D i v hi Hc R sc _ kc
  obtain ⟨z,rfl⟩:∃z:Int,v=.int z:=by
   rw [bP] at hi;cases e:zs[i]? with
   | none=>rw [e] at hi;cases hi
   | some z=>rw [e] at hi;exact ⟨z,(Option.some.inj hi).symm⟩
  exact ⟨_,rfl,.int z,rfl,.int z,kc _ Hc (aj.refl _) rfl⟩
 ·intro D ys Hc sc ni hP eD
  refine ⟨D,List.replicate ys.length true,rfl,.of (by rw [eD];exact d8 _ (d8 _ (O0 hP))),?_⟩
  rw [O1];refine ⟨true,rfl,fQ ?_⟩;dsimp only [g6];have AX:=sc _ _ ea;refine ⟨_,rfl,a,zs,rfl,AX,sq,fun ws D2 p o n2=>?_⟩;refine ⟨_,rfl,(n:Int),rfl,fun p1 Ea=>⟨p1,n,rfl,au,by omega,fun l nl=>?_⟩⟩
  have d1:D2≠p1:=fun z=>by rw [←z,au] at Ea;cases Ea
  have d2:D2≠l:=fun z=>by rw [←z,aP d1,au] at nl;cases nl
  refine ⟨D2,l,ws,(List.range n).map iN,rfl,rfl,.of ?_,.of ?_,?_⟩;·rw [aP d2,aP d1,au]
  ·rw [au]
   unfold bT;rw [cm];rfl
  ·rw [HP p o]
   exact k _ (zN (zN (zN sc n2) Ea) nl)
theorem T7:bZ ["order","n"] ["order","n"] (bf z_):=cC
theorem T8(T:Txt K mg t):bJ P w K mg base (fg P w) 3 t.qO t.uf ["order","n"] (QC t.l8):=by
 have S:=T7;refine T.uW.eC S (fun _ _ _ _ H _ _ _ hr h L=>?_);obtain ⟨a,zs,n,rfl,ea,sq,n1,kE,k⟩:=h;refine ⟨_,(aG (cU (pQ (kZ (a7 (T6 T) hr T.Jk T.uV.kp T.Jj bS (ai (pv 0) (ai (pv 1) ao))))) (aG (Gw L rfl PySem.F.excBase_ValueError T.J6 rfl T.JZ (ai Fw ao))) cT)),?_⟩;refine ⟨_,rfl,_,rfl,a,zs,n,rfl,ea,sq,n1,fun H1 s1=>⟨_,rfl,dc (fun hb=>?_) (fun hb=>?_)⟩⟩;·exact ⟨by show 1≤sizeLine;decide,kE (by simpa using hb) _ s1⟩
 ·exact k (by simpa using hb) _ s1
theorem T9:bZ ["order","turns","turn","place"] ["order"] (bf Aa):=cC
theorem T_(T:Txt K mg t):bJ P w K mg base cO 1 t.qQ t.ug ["order"] QE:=by
 have S:=T9;refine T.uX.dX S (fun _ _ _ _ H _ _ _ hr h=>?_);obtain ⟨a,n,o,rfl,⟨ea,ho⟩,n1,kk⟩:=h;have lo:=lT ho;have lm:(o.map fun k:Nat=>V.int (k:Int)).length=n:=by rw [aD,lo]
 refine ⟨_,(aB (putL 1 S.nd (bb NQ (da (ai aE ao)) (b3 gA rfl T.fI fN (ai (pv 0) ao))))
  (aB (d_ dJ rfl (O8 rfl T.J4 (ai (pv 0) ao)) (pW rfl (iI (cy (i:=2) S.nd rfl (Or.inl rfl)) (iI (cy (i:=3) S.nd rfl (Or.inl rfl)) pV)))
   (aG (@tw _ _ _ _ _ _ (pv 2) (vZ (pv 1) (pv 3) set_list) (by rfl) (by rfl) (by rfl))))
  (aG (bI (pv 1))))),?_⟩
 refine ⟨by show 1≤sizeLine;decide,fun l nl=>?_⟩
 have al:a≠l:=fun z=>by rw [z,nl] at ea;cases ea
 refine ⟨_,rfl,a,_,rfl,.inl (.of (by rw [aP al];exact ea)),l,_,_,rfl,rfl,au,by omega,by rw [lm];omega,?_,fun c nc=>?_⟩
 ·rw [lm,cZ]
  show 1*n≤sizeLine;rw [iD];omega
 rw [lm,cZ,QH n o];have Kt:H c=none:=none_of (aJ nl) nc;have s0:aj H (upd (upd H l (.lst [.int 0])) c (.lst ((List.range n).map fun p=>V.int (jH o 0 p)))):=(aJ nl).trans (aJ nc);have e0:upd (upd H l (.lst [.int 0])) c (.lst ((List.range n).map fun p=>V.int (jH o 0 p))) c=_:=au;generalize upd (upd H l (.lst [.int 0])) c (.lst ((List.range n).map fun p=>V.int (jH o 0 p)))=H0 at s0 e0 ⊢;dsimp only [aO];refine cq ⟨_,rfl,a,rfl,⟨_,.of (s0 _ _ ea)⟩,?_⟩
 refine O9 (K:=K) (l:=a) (xs:=o.map fun k:Nat=>V.int (k:Int)) (fun i σ Hc=>aj H Hc∧∃(v2 v3:Option V),σ=[some (.ref a),some (.ref c),v2,v3]∧Hc c=some (.lst ((List.range n).map fun p=>V.int (jH o i p))))
  ⟨s0,_,_,rfl,e0⟩ (fun i σ Hc ⟨z,_⟩=>.of (z _ _ ea)) ?_ ?_
 ·rintro i x σ Hc Tt hx ⟨sc,v2,v3,rfl,ec⟩ nT
  have hi:i<o.length:=by have:=(bM.mp hx).1;simpa using this
  have ex:x=.int ((o[i]:Nat):Int):=by rw [bP] at hx;simp [hi] at hx;exact hx.symm
  subst ex;have hp:o[i]<n:=(fm ho).mp (cS hi);have sT:aj Hc (upd Hc Tt (.tup [.int (i:Int),.int ((o[i]:Nat):Int)])):=aJ nT;have eT:upd Hc Tt (.tup [.int (i:Int),.int ((o[i]:Nat):Int)]) Tt=_:=au;generalize upd Hc Tt (.tup [.int (i:Int),.int ((o[i]:Nat):Int)])=H1 at sT eT ⊢;refine ⟨Tt,_,rfl,.of eT,rfl,_,_,rfl,_,_,rfl,rfl,?_⟩;refine ⟨_,rfl,_,rfl,_,rfl,c,_,_,o[i],rfl,rfl,sT _ _ ec,by rw [aD,dt];exact HQ hp,?_⟩
  exact ⟨d7 (sc.trans sT) Kt,_,_,rfl,by rw [au,QG ho hi]⟩
 ·rintro σ Hc ⟨sc,v2,v3,rfl,ec⟩
  rw [aD,QI ho] at ec;exact ⟨_,rfl,kk c Hc sc Kt ec⟩
theorem Ua:bZ ["linked","places","one","other"] ["linked","places"] (bf Ab):=cC
theorem Ub(T:Txt K mg t):bJ P w K mg base cO 1 t.qR t.uh ["linked","places"] QJ:=by
 have S:=Ua;refine T.uY.dX S (fun _ _ _ _ H _ _ _ hr h=>?_);obtain ⟨D,pl,n,ds,un,f,ps,rfl,KL,vw,Uc,n9,kk⟩:=h;have hu:=gX (jU (show 1≤64 by decide) _) hr.units
 have b8:∀i,i<n→un i→pl≠ds i:=fun i hi ui z=>by rw [z,KL.at' i hi ui] at vw;cases vw
 have Ku:∀{i:Nat} {x:V},(ps.map fun k:Nat=>V.int (k:Int))[i]?=some x→∃p:Nat,ps[i]?=some p∧x=.int (p:Int)∧p<n∧un p:=fun{i x} hx=>by
  rw [bP] at hx;cases e:ps[i]? with
  | none=>rw [e] at hx;cases hx
  | some p=>rw [e] at hx;exact ⟨p,rfl,(Option.some.inj hx).symm,Uc p (iX e)⟩
 refine ⟨_,(aG (d_ dJ rfl (dM (pv 1)) (cy (i:=2) S.nd rfl (Or.inl rfl))
   (aG (d_ dJ rfl (dM (pv 1)) (cy (i:=3) S.nd rfl (Or.inl rfl))
   (aG (cU (cz mK (pv 2) (pv 3)) (aG (qA hu (aW cL (pv 0) (pv 2)) (pv 3) fD rfl)) cT)))))),?_⟩
 refine ⟨_,rfl,pl,rfl,⟨_,.of vw⟩,?_⟩;refine k_ (K:=K) (a:=pl) (xs:=ps.map fun k:Nat=>V.int (k:Int)) (fun i σ Hc=>∃(g:Nat→List Nat) (v2 v3:Option V),σ=[some (.ref D),some (.ref pl),v2,v3]∧oH n ds un H Hc∧dE Hc D n ds un g∧gO n f ps i 0 g) ⟨f,_,_,rfl,.refl,KL,gO.start n f ps⟩ (fun i σ Hc _ ⟨_,_,_,_,oc,_⟩=>.of (oc _ _ vw b8)) ?_ ?_
 ·rintro i x σ Hc hx ⟨g,v2,v3,rfl,oc,Kc,la⟩
  obtain ⟨p,hp,rfl,pn,up⟩:=Ku hx;refine ⟨_,rfl,pl,rfl,⟨_,.of (oc _ _ vw b8)⟩,?_⟩;refine k_ (K:=K) (a:=pl) (xs:=ps.map fun k:Nat=>V.int (k:Int)) (fun j σ Hd=>∃(g:Nat→List Nat) (v3:Option V),σ=[some (.ref D),some (.ref pl),some (.int (p:Int)),v3]∧oH n ds un H Hd∧dE Hd D n ds un g∧gO n f ps i j g) ⟨g,_,rfl,oc,Kc,la⟩ (fun i σ Hc _ ⟨_,_,_,oc,_⟩=>.of (oc _ _ vw b8)) ?_ ?_
  ·rintro j y σ Hd hy ⟨g,v3,rfl,od,Kd,la⟩
   obtain ⟨q,hq,rfl,qn,uq⟩:=Ku hy;refine ⟨_,rfl,_,rfl,rfl,_,rfl,dc (fun hb=>?_) (fun hb=>?_)⟩
   ·have ne:p≠q:=fun z=>by subst z;rw [mP,bQ rfl] at hb;cases hb
    obtain ⟨q1,K1⟩:=Kd.put pn qn up n9;exact ⟨_,rfl,_,rfl,D,_,_,_,rfl,rfl,.of Kd.lst,Kd.ix pn,_,rfl,_,_,rfl,q1,_,_,rfl,od.put pn up,K1,la.put hp hq ne⟩
   ·have e:p=q:=by
     by_cases z:(p:Int)=(q:Int);·omega
     ·exact absurd (by rw [mP,bW z];rfl) hb
    subst e;exact ⟨_,_,rfl,od,Kd,la.same hp hq⟩
  ·rintro σ Hd ⟨g,v3,rfl,od,Kd,la⟩
   rw [aD] at la;exact ⟨g,_,_,rfl,od,Kd,la.row⟩
 ·rintro σ Hc ⟨g,v2,v3,rfl,oc,Kc,la⟩
  rw [aD] at la;exact kk _ g oc Kc la.done
theorem Ud:bZ ["shape","order","linked","turns","told","place"] ["shape","order"] (bf Ac):=cC
theorem Ue(T:Txt K mg t):bJ P w K mg base (fg P w) 4 t.qT t.uj ["shape","order"] (Rb t.l8):=by
 have S:=Ud;refine T.uZ.eC S (fun _ _ _ _ H _ _ _ hr h L=>?_);obtain ⟨tp,a,n,Lk,zs,rfl,hS,hL,ns,J_,ea,sq,kE,kk⟩:=h;obtain ⟨lt,us,cN,elt,jA⟩:=id hS
 refine ⟨_,(aB (eO (a7 (T8 T) hr T.Jm T.uW.kp T.Jl (lF L) (ai (pv 1) (ai (aW dN (pv 0) aE) ao))))
  (fO.pR (aB (putL 2 S.nd (a7 (J8 T) hr T.DE T.rK.kp T.DD bS (ai (pv 0) ao)))
  (aB (wK 3 S.nd (a7 (T_ T) hr T.Jo T.uX.kp T.Jn bS (ai (pv 1) ao)))
  (aB (wL (i0:=4) (N:=["place"]) (ρ:=(fun σ=>[])) (fh [] rfl) rfl S.nd rfl (Or.inl rfl) (dM (pv 1)) (fun _ _ _=>.nil) (fun _ _ _=>(da ao)))
  (aB (d_ dJ rfl (dM (pv 1)) (cy (i:=5) S.nd rfl (Or.inr rfl))
   (aB (@tw _ _ _ _ _ _ (b3 C7 rfl T.oV pI (ai (hE (N:=["other","turns","place"]) (ρ:=(fun σ=>[σ[3]?.join,σ[5]?.join])) (fh [3,5] rfl) rfl (C5 (aW cL (pv 2) (pv 5))) (fun _ _ _=>(.one (cz oj (aW (zo (K:=K)) (pv 1) (pv 0)) (aW (zo (K:=K)) (pv 1) (pv 2))))) (fun _ _ _=>(pv 0))) ao)) (vZ (pv 4) (pv 5) set_list) (by rfl) (by rfl) (by rfl))
  (aG (eO (a7 (Ub T) hr T.Jq T.uY.kp T.Jp bS (ai (pv 2) (ai (aW cL (pv 4) (pv 5)) ao)))))))
  (aG (bI (pv 4))))))))),?_⟩
 refine ⟨_,rfl,_,rfl,tp,_,_,_,rfl,rfl,.of cN,rfl,a,zs,n,rfl,ea,sq,by omega,fun no H1 s1=>kE no H1 s1,fun yes H1 s1=>?_⟩
 obtain ⟨o,rfl,ho⟩:=QQ yes;have kk:=kk o rfl ho;have lo:=lT ho;have nd:=oF ho;have xY:H a=some (.lst (o.map fun k:Nat=>V.int (k:Int))):=by rw [ea,cm];rfl
 have lm:(o.map fun k:Nat=>V.int (k:Int)).length=n:=by rw [aD,lo]
 refine ⟨_,rfl,tp,n,Lk,rfl,⟨lt,us,s1 _ _ cN,s1 _ _ elt,jA.mono s1⟩,hL,by omega,fun H2 D ds f s2 nD D6 KL nb=>?_⟩
 have Zv:=none_of s1 nD;have Kv:∀i,i<n→H (ds i)=none:=fun i hi=>none_of s1 (D6 i hi);have gT:=s1.trans s2;dsimp only [aO];refine ⟨_,rfl,a,n,o,rfl,⟨gT _ _ xY,ho⟩,by omega,fun tr H3 s3 Ug e3=>?_⟩
 have fJ:=gT.trans s3;have Zw:=none_of gT Ug;have K3:=KL.mono s3;dsimp only [aO];refine cq (jB (Cr (xs:=o.map fun k:Nat=>V.int (k:Int)) (n:=n) lm (fun R h=>⟨_,rfl,a,rfl,⟨_,.of (fJ _ _ xY)⟩,h _ _ (aj.refl _) (iP (.of (fJ _ _ xY)))⟩) (b4 (by omega)) (fun _ i y Hx=>H3 y=none) (fun _ _ _ _ _ _ h _ _ _=>h) ?_ ?_))
 ·intro D' i x hx Hc R sc _ kc
  refine ⟨by show 0≤sizeLine;exact ba _,fun p np=>kc p _ (aJ np) np ⟨_,au⟩ (none_of sc np)⟩
 ·intro c Uh H4 nc s4 _ hA ec
  have oY:=fJ.trans s4;have Kw:=none_of fJ nc;have K4:=K3.mono s4;have e4:=s4 _ _ e3;have cD:c≠D:=fun z=>by rw [z,K3.lst] at nc;cases nc
  have Ui:c≠tr:=fun z=>by rw [z,e3] at nc;cases nc
  dsimp only [aO];refine cq ⟨_,rfl,a,rfl,⟨_,.of (oY _ _ xY)⟩,?_⟩
  refine k_ (K:=K) (a:=a) (xs:=o.map fun k:Nat=>V.int (k:Int)) (fun k σ Hc=>∃(rs:Nat→Addr) (f g:Nat→List Nat) (v5:Option V),σ=[some (.ref tp),some (.ref a),some (.ref D),some (.ref tr),some (.ref c),v5]∧aj H Hc∧dE Hc D n ds (fun p=>k≤o.idxOf p) f∧Hc tr=some (.lst ((List.range n).map fun p=>V.int (o.idxOf p:Int)))∧Hc c=some (.lst ((List.range n).map fun p=>V.ref (rs p))) ∧
    (∀p,p<n→o.idxOf p<k→H (rs p)=none∧rs p≠c∧Hc (rs p)=some (.lst ((g p).map fun k:Nat=>V.int (k:Int)))∧jI n o p (g p)∧kr n Lk o p (g p))∧qE n Lk o k f) ⟨Uh,f,fun _=>[],_,rfl,oY,K4.less (fun _ _ _=>trivial),e4,ec,fun p _ h=>absurd h (sP _),qE.start nb ns⟩ (fun k σ Hc _ ⟨_,_,_,_,_,sc,_⟩=>.of (sc _ _ xY)) ?_ ?_
  ·rintro k x σ Hc hx ⟨rs,f,g,v5,rfl,sc,Kc,Eb,AY,done,Ec⟩
   have hk:k<o.length:=by have:=(bM.mp hx).1;simpa using this
   have ex:x=.int ((o[k]:Nat):Int):=by rw [bP] at hx;simp [hk] at hx;exact hx.symm
   subst ex;have hp:o[k]<n:=(fm ho).mp (cS hk);have ip:o.idxOf o[k]=k:=xr nd hk;generalize o[k]=p at hp ip ⊢;dsimp only [aO];have Kx:=Kc.at' p hp (by omega)
   refine cq (jB (qq (Dh ⟨_,rfl,_,rfl,D,_,_,_,rfl,rfl,.of Kc.lst,Kc.ix hp,ds p,dk (f p),rfl,.inl ⟨Kx,fun ob=>?_⟩⟩)));have Kf:dE (upd Hc (ds p) (.bH ob (.dK (dk (f p))))) D n ds (fun q=>k+1≤o.idxOf q) f:=(Kc.less (fun i hi (ui:k+1≤o.idxOf i)=>show k≤o.idxOf i by omega)).upd (Kc.ne p hp) (fun i hi (ui:k+1≤o.idxOf i) z=>by have:=Kc.inj i p hi hp z;subst this;omega)
   have Ed:∀{b:Addr} {xs:List V},Hc b=some (.lst xs)→b≠ds p:=fun{b xs} e z=>by rw [z,Kx] at e;cases e
   have AZ:upd Hc (ds p) (.bH ob (.dK (dk (f p)))) tr=_:=(aP (Ed Eb)).trans Eb;have A0:upd Hc (ds p) (.bH ob (.dK (dk (f p)))) c=_:=(aP (Ed AY)).trans AY;have sf:aj H (upd Hc (ds p) (.bH ob (.dK (dk (f p))))):=fun b u e=>by
    rw [aP (fun z=>by rw [z,Kv p hp] at e;cases e)]
    exact sc _ _ e
   have Ee:∀q,q<n→o.idxOf q<k→H (rs q)=none∧rs q≠c∧upd Hc (ds p) (.bH ob (.dK (dk (f p)))) (rs q)=some (.lst ((g q).map fun k:Nat=>V.int (k:Int)))∧jI n o q (g q)∧kr n Lk o q (g q):=fun q hq A1=>by obtain ⟨d1,d2,d3,d4⟩:=done q hq A1;exact ⟨d1,d2,(aP (Ed d3)).trans d3,d4⟩
   have rY:upd Hc (ds p) (.bH ob (.dK (dk (f p)))) (ds p)=some (.bH ob (.dK (dk (f p)))):=au;generalize upd Hc (ds p) (.bH ob (.dK (dk (f p))))=Hf at Kf AZ A0 sf Ee rY ⊢;have xZ:=Kc.pl p hp;refine HS rY (fun q=>decide ((o.idxOf p:Int)<(o.idxOf q:Int))) (gX xZ.len (b4 (by omega))) ?_ ?_ ?_
   ·intro q hq Hx R sx hR
    have qn:=xZ.2 q hq;exact ⟨_,rfl,_,rfl,tr,_,_,_,rfl,rfl,.of (sx _ _ AZ),ko qn,_,rfl,_,rfl,tr,_,_,_,rfl,rfl,.of (sx _ _ AZ),ko hp,_,_,rfl,rfl,_,rfl,hR⟩
   ·intro q hq Hx R hR
    exact ⟨_,rfl,hR⟩
   ·intro D1 H1 Zx Ky Kz
    rw [QV] at Kz;have fl:((f p).filter fun q=>decide (o.idxOf p<o.idxOf q)).length≤n:=a9 (mq _ _) xZ.len;refine ⟨D1,((f p).filter fun q=>decide (o.idxOf p<o.idxOf q)).map iN,rfl,by rw [Kz,cm];rfl,by rw [aD];omega,fun ws D2 pw so xS=>?_⟩
    obtain ⟨ms,rfl,pm⟩:=HU pw;have A2:=QO xZ pm so;have hm:∀q,q∈ms↔q∈f p∧k<o.idxOf q:=fun q=>by rw [pm.mem_iff,cu,eY,ip]
    have Uj:kr n Lk o p ms:=fun q=>by
     rw [hm q,ip];constructor
     ·rintro ⟨h1,h2⟩
      have qn:=xZ.2 q h1;exact ⟨qn,h2,((Ec p q hp qn (by omega) (by omega)).mp h1).2⟩
     ·rintro ⟨h1,h2,h3⟩
      exact ⟨(Ec p q hp h1 (by omega) (by omega)).mpr ⟨fun e=>by subst e;omega,h3⟩,h2⟩
    have sr:aj Hf (upd H1 D2 (.lst ((ms.map iN).map V.int))):=zN Ky xS;have iC:upd H1 D2 (.lst ((ms.map iN).map V.int)) D2=some (.lst (ms.map fun k:Nat=>V.int (k:Int))):=by rw [au,cm];rfl
    have Ef:Hf D2=none:=none_of Ky xS;have Uk:H D2=none:=none_of sf Ef;generalize upd H1 D2 (.lst ((ms.map iN).map V.int))=Hg at sr iC ⊢;have KA:D2≠c:=fun z=>by rw [z,A0] at Ef;cases Ef
    refine ⟨_,rfl,_,rfl,c,_,_,p,rfl,rfl,sr _ _ A0,by rw [aD,dt];exact HQ hp,?_⟩
    rw [QR];have Kg:=Kf.mono sr;have Kh:dE (upd Hg c (.lst ((List.range n).map fun q=>V.ref (jJ rs p D2 q)))) D n ds (fun q=>k+1≤o.idxOf q) f:=Kg.upd cD (fun i hi ui z=>by have:=Kg.at' i hi ui;rw [z,sr _ _ A0] at this;cases this)
    have sh:aj H (upd Hg c (.lst ((List.range n).map fun q=>V.ref (jJ rs p D2 q)))):=d7 (sf.trans sr) Kw;have Eg:upd Hg c (.lst ((List.range n).map fun q=>V.ref (jJ rs p D2 q))) c=_:=au;have KC:upd Hg c (.lst ((List.range n).map fun q=>V.ref (jJ rs p D2 q))) tr=_:=(aP (Ne.symm Ui)).trans (sr _ _ AZ);have Eh:upd Hg c (.lst ((List.range n).map fun q=>V.ref (jJ rs p D2 q))) D2=_:=(aP KA).trans iC;have KD:∀q,q<n→o.idxOf q<k→upd Hg c (.lst ((List.range n).map fun q=>V.ref (jJ rs p D2 q))) (rs q)=some (.lst ((g q).map fun k:Nat=>V.int (k:Int))):=fun q hq A1=>by obtain ⟨d1,d2,d3,d4⟩:=Ee q hq A1;exact (aP d2).trans (sr _ _ d3)
    generalize upd Hg c (.lst ((List.range n).map fun q=>V.ref (jJ rs p D2 q)))=Hh at Kh sh Eg KC Eh KD ⊢;refine ⟨_,rfl,_,rfl,_,rfl,c,_,_,_,rfl,rfl,.of Eg,ko hp,?_⟩;rw [HV];refine ⟨D,D2,n,ds,_,f,ms,rfl,Kh,Eh,fun q hq=>⟨A2.lt q hq,by have:=A2.la q hq;omega⟩,by omega,fun H5 g5 off K5 con=>?_⟩
    have b8:∀{b:Addr} {xs:List V},Hh b=some (.lst xs)→H5 b=some (.lst xs):=fun{b xs} e=>off _ _ e fun i hi ui z=>by rw [z,Kh.at' i hi ui] at e;cases e
    refine ⟨jJ rs p D2,g5,d5 g p ms,_,rfl,fun b u e=>off _ _ (sh _ _ e) (fun i hi _ z=>by rw [z,Kv i hi] at e;cases e),K5,b8 KC,b8 Eg,fun q hq A1=>?_,Ec.step ho hp ip hm A2.lt con⟩
    by_cases e:q=p
    ·subst e
     rw [HV,QT];exact ⟨Uk,KA,b8 Eh,A2,Uj⟩
    ·rw [QS e,QU e]
     have ne:=jb ho hq hp e;have KG:o.idxOf q<k:=by omega
     obtain ⟨d1,d2,d3,d4⟩:=Ee q hq KG;exact ⟨d1,d2,b8 (KD q hq KG),d4⟩
  ·rintro σ Hc ⟨rs,f,g,v5,rfl,sc,Kc,Eb,AY,done,_⟩
   rw [lm] at done;have lt:∀p,p<n→o.idxOf p<n:=fun p hp=>by have:=(oG ((fm ho).mpr hp)).1;omega
   exact ⟨_,rfl,kk Hc c rs g sc Kw (fun p hp=>(done p hp (lt p hp)).1) ⟨AY,fun p hp=>(done p hp (lt p hp)).2.2.1⟩ fun p hp=>(done p hp (lt p hp)).2.2.2⟩
theorem Ul:bZ ["shape","order"] ["shape","order"] (bf Ae):=cC
theorem Um(T:Txt K mg t):bJ P w K mg base (fg P w) 5 t.qV t.uo ["shape","order"] (RF t.l8):=by
 have S:=Ul;refine T.u0.eC S (fun _ _ _ _ H _ _ _ hr h L=>?_);obtain ⟨tp,a,n,Lk,zs,rfl,hS,hL,ns,n9,ea,sq,kE,kk⟩:=h
 refine ⟨_,(aB (bI (b3 (OJ (K:=K) rfl) rfl T.J3 boot_sum (ai (hE (N:=["others"]) (ρ:=(fun σ=>[])) (fh [] rfl) rfl (dM (a7 (Ue T) hr T.Js T.uZ.kp T.Jr (lF L) (ai (pv 0) (ai (pv 1) ao)))) (fun _ _ _=>.nil) (fun _ _ _=>(a7 (J9 T) hr T.DG T.rN.kp T.DF bS (ai (b3 (OX (K:=K)) rfl T.fI fN (ai (pv 0) ao)) ao)))) ao)))
  (fO.pR cT)),?_⟩
 refine wO (qq (Dh ⟨_,rfl,_,rfl,tp,a,n,Lk,zs,rfl,hS,hL,ns,by omega,ea,sq,kE,fun o ez ho H1 D rs g s1 nD A3 la ok=>⟨D,rfl,⟨_,.of la.1⟩,?_⟩⟩))
 have Ei:((List.range n).map fun p=>V.ref (rs p)).length=n:=by rw [aD,dt]
 refine ou (xs:=(List.range n).map fun p=>V.ref (rs p)) (fun R h=>h _ _ (aj.refl _) (iP (.of la.1))) (by rw [Ei];exact b4 (by omega)) (fun _ i y _=>y=.int (((g i).length:Int)*(g i).length+3*(g i).length+1)) (fun _ _ _ _ _ _ h _ _=>h) ?_ ?_
 ·intro D' k x hx Hc R sc _ kc
  have hk:k<n:=by have:=(bM.mp hx).1;rw [Ei] at this;exact this
  have ex:x=.ref (rs k):=by rw [bP,o_ hk] at hx;exact (Option.some.inj hx).symm
  subst ex;have lg:(g k).length≤30:=a9 (QW ho (ok k hk).1) (by omega)
  refine ⟨_,rfl,rs k,_,rfl,.inl (.of (sc _ _ (la.2 k hk))),(g k).length,by rw [aD];rfl,by omega,kc _ Hc (aj.refl _) rfl⟩
 ·intro D' ys Hc Uo sc nh ni t_
  rw [Ei] at nh;have ey:ys=((List.range n).map fun i=>((g i).length:Int)*(g i).length+3*(g i).length+1).map V.int:=by
   refine gY (by simp [nh]) fun i h1 h2=>?_
   rw [fX,fX,pC];exact ni i _ (bx h1)
  have es:((List.range n).map fun i=>((g i).length:Int)*(g i).length+3*(g i).length+1).sum=((((List.range n).map fun i=>(g i).length*(g i).length+3*(g i).length+1).sum:Nat):Int):=by
   generalize List.range n=l;clear ey ni nh kk
   induction l with
   | nil=>rfl
   | cons x l ih=>rw [di,eZ,di,eZ,ih];push_cast;rfl
  refine ⟨D',_,rfl,.of (by rw [t_,ey]),?_⟩
  rw [es];exact kk o ez ho _ (s1.trans sc) _ fun M fs=>Iu ho fs ok
theorem Up:bZ ["_law_cell","_law_at","_law_x"] ["_law_cell","_law_at"] (bf Ap):=cC
theorem Uq(T:Txt K mg t):bJ P w K mg base cO 1 t.rg t.uD ["_law_cell","_law_at"] O4:=by
 have S:=Up;refine T.va.dX S (fun _ _ _ _ H _ _ _ hr h=>?_);obtain ⟨c,a,rfl,ha,k⟩:=h
 refine ⟨_,(aB (cU (cz MN (pv 0) (bb MG aE aE)) (aG (bI (pv 0))) cT)
  (aB (putL 2 S.nd (bb pY (bb fb (bb fb (bb g7 (bb pY (pv 0) aE) aE) (bb g7 (pv 1) aE)) aE) aE))
  (aB (putL 2 S.nd (bb pY (bb fb (bb fb (bb g7 (pv 2) (pv 2)) (bb g7 aE (pv 2))) (pv 1)) aE))
  (aG (bI (bb fb (bb g7 (pv 2) aE) (bb pY (bb fb (bb g7 (pv 2) (pv 2)) (bb g7 aE (pv 1))) aE))))))),?_⟩
 refine ⟨_,rfl,_,_,rfl,rfl,⟨by decide,by decide,by decide⟩,_,_,rfl,rfl,_,rfl,dc (fun h=>?_) (fun h=>?_)⟩
 ·have h:=fz h
  exact ⟨_,rfl,k _ (dq (by decide) h)⟩
 ·refine ⟨_,rfl,_,_,rfl,rfl,(by show (0:Int)<2147483647;decide),_,_,rfl,rfl,.inr ⟨by decide,by decide⟩,_,rfl,_,_,rfl,rfl,.inr ⟨by decide,by decide⟩,_,_,rfl,rfl,_,_,rfl,rfl,_,_,rfl,rfl,(by show (0:Int)<2147483629;decide),?_⟩
  have b0:=mB (c % 2147483647*48271+a*69621+11) (show (2147483629:Int)≠0 by decide)
  have b1:=pJ (c % 2147483647*48271+a*69621+11) (show (0:Int)<2147483629 by decide)
  generalize (c % 2147483647*48271+a*69621+11) % 2147483629=x at b0 b1 ⊢;refine ⟨_,rfl,_,rfl,_,_,rfl,rfl,.inl ⟨by omega,by omega⟩,_,rfl,_,_,rfl,rfl,.inl ⟨by decide,by decide⟩,_,_,rfl,rfl,_,rfl,_,_,rfl,rfl,_,_,rfl,rfl,(by show (0:Int)<2147483587;decide),?_⟩
  have c0:=mB (x*x+48271*x+a) (show (2147483587:Int)≠0 by decide)
  have c1:=pJ (x*x+48271*x+a) (show (0:Int)<2147483587 by decide)
  generalize (x*x+48271*x+a) % 2147483587=y at c0 c1 ⊢;refine ⟨_,rfl,_,_,rfl,rfl,.inr ⟨by decide,by decide⟩,_,rfl,_,rfl,_,_,rfl,rfl,.inl ⟨by omega,by omega⟩,_,rfl,_,_,rfl,rfl,.inl ⟨by decide,by decide⟩,_,_,rfl,rfl,_,_,rfl,rfl,(by show (0:Int)<2147483579;decide),_,_,rfl,rfl,k _ (Int.add_nonneg (Int.mul_nonneg (mB _ (by decide)) (by decide)) (mB _ (by decide)))⟩
theorem Ur:bZ ["_law_pen","_law_many","_law_at","_law_cell","_law_found"] ["_law_pen","_law_many"] (bf Aq):=cC
theorem jQ(T:Txt K mg t):bJ P w K mg base cO 2 t.rh t.uE ["_law_pen","_law_many"] (O5 K):=by
 have S:=Ur;refine T.gg.dX S (fun _ _ _ _ H _ _ _ hr h=>?_);obtain ⟨P0,a,ns,many,rfl,⟨x,y,eP,hx,hy⟩,hS,m1,mm,k⟩:=h;have fV:=hr.units
 refine ⟨_,(aB (cU (cz wc (aW cL (pv 0) aE) (pv 1)) (aB (putL 2 S.nd (aW cL (pv 0) aE))
  (aB (putL 3 S.nd aE)
  (aB (cU (cz wc (pv 2) (b3 gA rfl T.fI fN (ai (aW cL (pv 0) aE) ao))) (aG (putL 3 S.nd (aW cL (aW cL (pv 0) aE) (pv 2)))) (aG (cU (cz oj (b3 gA rfl T.fI fN (ai (aW cL (pv 0) aE) ao)) aE) (aG (putL 3 S.nd (bb fb (bb pY (aW cL (aW cL (pv 0) aE) (bb pY (bb g7 (pv 2) aE) (b3 gA rfl T.fI fN (ai (aW cL (pv 0) aE) ao)))) aE) (bb g7 (pv 2) aE)))) cT)))
  (aB (@tw _ _ _ _ _ _ (bb fb (pv 2) aE) (vZ (pv 0) aE set_list) (by rfl) (by rfl) (by rfl))
  (aG (@tw _ _ _ _ _ _ (a7 (Uq T) hr T.JF T.va.kp T.JE bS (ai (pv 3) (ai (pv 2) ao))) (vZ (pv 0) aE set_list) (by rfl) (by rfl) (by rfl))))))) cT)
  (aB (putL 4 S.nd (bb pY (aW cL (pv 0) aE) (pv 1)))
  (aB (@tw _ _ _ _ _ _ (bb Ot (aW cL (pv 0) aE) (pv 1)) (vZ (pv 0) aE set_list) (by rfl) (by rfl) (by rfl))
  (aG (bI (pv 4)))))),?_⟩
 have A4:=zp.seq hS;refine ⟨_,rfl,P0,_,_,_,rfl,rfl,.of eP,rfl,_,rfl,_,_,rfl,rfl,_,rfl,dc (fun aU=>?_) (fun aU=>?_)⟩
 ·refine ⟨_,rfl,P0,_,_,_,rfl,rfl,.of eP,rfl,?_⟩
  refine ⟨_,rfl,_,rfl,P0,_,_,_,rfl,rfl,.of eP,rfl,a,ns.map V.int,rfl,.inl A4,_,_,rfl,rfl,_,rfl,dc (fun h1=>?_) (fun h1=>?_)⟩
  ·have h1:x<((ns.map V.int).length:Int):=fz h1
   obtain ⟨v,hv,mv⟩:=GD (xs:=ns.map V.int) hx h1;obtain ⟨c,_,rfl⟩:=cx.mp mv;refine ⟨_,rfl,P0,_,_,_,rfl,rfl,.of eP,rfl,_,rfl,a,ns.map V.int,_,_,rfl,rfl,A4,hv,?_⟩;refine ⟨_,rfl,_,_,rfl,rfl,_,rfl,P0,_,1,1,rfl,rfl,eP,rfl,?_⟩;refine ⟨_,rfl,_,rfl,c,x,rfl,hx,fun r x4=>⟨_,rfl,P0,_,2,2,rfl,rfl,au,rfl,?_⟩⟩;have q0:=mB (r) (show many≠0 by omega)
   have q1:=pJ (r) (show 0<many by omega)
   have q2:=yK (x4) (show 0≤many by omega)
   refine ⟨_,rfl,P0,_,_,_,rfl,rfl,.of au,rfl,_,rfl,_,_,rfl,rfl,(show 0<many by omega),?_⟩
   refine ⟨_,rfl,P0,_,_,_,rfl,rfl,.of au,rfl,_,rfl,_,_,rfl,rfl,⟨show 0<many by omega,mm⟩,_,rfl,P0,_,2,2,rfl,rfl,au,rfl,?_⟩
   exact ⟨_,rfl,k _ _ q0 q1 (((aF.refl H).trans aF.lJ).trans (aF.lJ.trans aF.lJ)) ⟨x+1,r / many,au,by omega,q2⟩⟩
  ·refine ⟨_,rfl,P0,_,_,_,rfl,rfl,.of eP,rfl,a,ns.map V.int,rfl,.inl A4,_,_,rfl,rfl,_,rfl,?_⟩
   have A5:=eP;have KH:=A4;have sl:=aj.refl H;refine dc (fun h2=>?_) (fun h2=>?_)
   ·have hl:0<(ns.map V.int).length:=by have:=fz h2;omega
    have Us:=mB (x*7) (show ((ns.map V.int).length:Int)≠0 by omega)
    have Ut:=pJ (x*7) (show (0:Int)<((ns.map V.int).length:Int) by omega)
    obtain ⟨v,hv,mv⟩:=GD (xs:=ns.map V.int) Us Ut;obtain ⟨c,_,rfl⟩:=cx.mp mv;refine ⟨_,rfl,P0,_,_,_,rfl,rfl,.of A5,rfl,_,rfl,_,_,rfl,rfl,.inr ⟨by decide,by decide⟩,_,rfl,P0,_,_,_,rfl,rfl,.of A5,rfl,a,ns.map V.int,rfl,.inl KH,_,_,rfl,rfl,(show (0:Int)<((ns.map V.int).length:Int) by omega),a,ns.map V.int,_,_,rfl,rfl,KH,hv,_,_,rfl,rfl,(show (0:Int)<1000003 by decide),_,rfl,_,_,rfl,rfl,.inr ⟨by decide,by decide⟩,_,_,rfl,rfl,?_⟩
    refine ⟨_,rfl,_,_,rfl,rfl,_,rfl,P0,_,1,1,rfl,rfl,A5,rfl,?_⟩;refine ⟨_,rfl,_,rfl,_,x,rfl,hx,fun r x4=>⟨_,rfl,P0,_,2,2,rfl,rfl,au,rfl,?_⟩⟩;have q0:=mB (r) (show many≠0 by omega)
    have q1:=pJ (r) (show 0<many by omega)
    have q2:=yK (x4) (show 0≤many by omega)
    refine ⟨_,rfl,P0,_,_,_,rfl,rfl,.of au,rfl,_,rfl,_,_,rfl,rfl,(show 0<many by omega),?_⟩
    refine ⟨_,rfl,P0,_,_,_,rfl,rfl,.of au,rfl,_,rfl,_,_,rfl,rfl,⟨show 0<many by omega,mm⟩,_,rfl,P0,_,2,2,rfl,rfl,au,rfl,?_⟩
    exact ⟨_,rfl,k _ _ q0 q1 (((aF.of sl).trans aF.lJ).trans (aF.lJ.trans aF.lJ)) ⟨x+1,r / many,au,by omega,q2⟩⟩
   ·
    refine ⟨_,rfl,_,_,rfl,rfl,_,rfl,P0,_,1,1,rfl,rfl,A5,rfl,?_⟩;refine ⟨_,rfl,_,rfl,0,x,rfl,hx,fun r x4=>⟨_,rfl,P0,_,2,2,rfl,rfl,au,rfl,?_⟩⟩;have q0:=mB (r) (show many≠0 by omega)
    have q1:=pJ (r) (show 0<many by omega)
    have q2:=yK (x4) (show 0≤many by omega)
    refine ⟨_,rfl,P0,_,_,_,rfl,rfl,.of au,rfl,_,rfl,_,_,rfl,rfl,(show 0<many by omega),?_⟩
    refine ⟨_,rfl,P0,_,_,_,rfl,rfl,.of au,rfl,_,rfl,_,_,rfl,rfl,⟨show 0<many by omega,mm⟩,_,rfl,P0,_,2,2,rfl,rfl,au,rfl,?_⟩
    exact ⟨_,rfl,k _ _ q0 q1 (((aF.of sl).trans aF.lJ).trans (aF.lJ.trans aF.lJ)) ⟨x+1,r / many,au,by omega,q2⟩⟩
 ·dsimp only [g6]
  have q0:=mB (y) (show many≠0 by omega)
  have q1:=pJ (y) (show 0<many by omega)
  have q2:=yK (hy) (show 0≤many by omega)
  refine ⟨_,rfl,P0,_,_,_,rfl,rfl,.of eP,rfl,_,rfl,_,_,rfl,rfl,(show 0<many by omega),?_⟩
  refine ⟨_,rfl,P0,_,_,_,rfl,rfl,.of eP,rfl,_,rfl,_,_,rfl,rfl,⟨show 0<many by omega,mm⟩,_,rfl,P0,_,2,2,rfl,rfl,eP,rfl,?_⟩
  exact ⟨_,rfl,k _ _ q0 q1 (aF.lJ) ⟨x,y / many,au,hx,q2⟩⟩
theorem Uu:bZ ["_law_pen","_law_some","_law_left","_law_found"] ["_law_pen","_law_some"] (bf Ar):=cC
theorem KI(T:Txt K mg t):bJ P w K mg base cO 3 t.rj t.uF ["_law_pen","_law_some"] (PV K):=by
 have S:=Uu;refine T.rT.dX S (fun _ _ _ _ H _ _ _ hr h=>?_);obtain ⟨P0,a,l,ns,xs,rfl,pc,hS,nl,el,Zy,kk⟩:=h;have fV:=hr.units
 refine ⟨_,(aB (putL 2 S.nd (gx Ny rfl T.m8 boot_list (ai (pv 1) ao)))
  (aB (putL 3 S.nd (da ao))
  (aB (v_ dJ (cz (zK fV) (pv 2) (da ao)) (aG (eO (gB fA jq jr gC (pv 3) (ai (gB fA BB BC NK (pv 2) (ai (a7 (jQ T) hr T.je T.gg.kp T.jd bS (ai (pv 0) (ai (b3 gA rfl T.fI fN (ai (pv 2) ao)) ao))) ao)) ao)))))
  (aG (bI (pv 3)))))),?_⟩
 refine ⟨_,rfl,l,xs,rfl,.inl (.of el),fun l1 n1=>?_⟩;have s1:aj H (upd H l1 (.lst xs)):=aJ n1;have e1:upd H l1 (.lst xs) l1=some (.lst xs):=au;dsimp only [aO];generalize upd H l1 (.lst xs)=H1 at s1 e1 ⊢;refine ⟨by show 0≤sizeLine;decide,fun l2 n2=>?_⟩
 have s2:aj H1 (upd H1 l2 (.lst [])):=aJ n2;have e2:upd H1 l2 (.lst []) l2=some (.lst []):=au;dsimp only [aO];generalize upd H1 l2 (.lst [])=H2 at s2 e2 ⊢;have KJ:l1≠P0:=pc.ne n1;have A6:l2≠P0:=(pc.mono s1).ne n2;have KN:H l2=none:=none_of s1 n2;have KO:l1≠l2:=fun e=>by rw [e,n2] at e1;cases e1
 refine cq ⟨fun m σ Hc=>∃zs ys:List V,σ=[some (.ref P0),some (.ref l),some (.ref l1),some (.ref l2)]∧m=zs.length∧Hc l1=some (.lst zs)∧Hc l2=some (.lst ys)∧(zs++ys).Perm xs∧aF P0 H Hc∧bO Hc P0 a,⟨_,xs,[],rfl,rfl,s2 _ _ e1,e2,by rw [o8],aF.of (s1.trans s2),(pc.mono s1).mono s2⟩,?_⟩
 rintro m σ Hc ⟨zs,ys,rfl,rfl,ez,ey,pm,sc,p1⟩;have lz:zs.length≤100:=by have:=pm.length_eq;rw [dh] at this;omega
 have ly:ys.length≤100:=by have:=pm.length_eq;rw [dh] at this;omega
 refine ⟨_,rfl,by show 0≤sizeLine;decide,fun le x5=>?_⟩
 have s3:aj Hc (upd Hc le (.lst [])):=aJ x5;have e3:upd Hc le (.lst []) le=some (.lst []):=au;generalize upd Hc le (.lst [])=H3 at s3 e3 ⊢;refine ⟨l1,le,zs,rfl,rfl,.of (s3 _ _ ez),e3,_,rfl,dc (fun hz=>?_) (fun hz=>?_)⟩
 ·have z0:1≤zs.length:=by
   cases zs with
   | nil=>cases hz
   | cons=>simp
  have su:=sc.trans (aF.of s3);refine ⟨_,fun _ _ h=>h,?_⟩;refine ⟨_,rfl,.inl ⟨rfl,_,.of (s3 _ _ ey)⟩,_,rfl,.inl ⟨rfl,_,.of (s3 _ _ ez)⟩,_,rfl,_,rfl,l1,zs,rfl,.inl (.of (s3 _ _ ez)),P0,a,ns,(zs.length:Int),rfl,p1.mono s3,aj.seq su hS,by omega,fR.of_lt (by omega) (by omega),fun c H4 c0 c1 s4 p4=>?_⟩
  obtain ⟨k,rfl⟩:=fL c0;have hk:k<zs.length:=by omega
  have vx:=s4.at KJ (s3 _ _ ez);have Uv:=s4.at A6 (s3 _ _ ey);have sx:seqIndex? (k:Int) zs.length=some k:=by unfold seqIndex?;simp;omega
  refine ⟨l1,zs,(k:Int),k,zs[k],rfl,rfl,vx,by omega,by omega,sx,by simp [hk],?_⟩
  have nn:l2≠l1:=fun e=>KO e.symm;refine ⟨l2,ys,zs[k],rfl,rfl,by rw [aP nn];exact Uv,b4 (by omega),?_⟩
  refine ⟨_,?_,zs.eraseIdx k,ys++[zs[k]],rfl,rfl,by rw [aP KO,au],au,?_,?_,?_⟩
  ·rw [List.length_eraseIdx_of_lt hk]
   omega
  ·refine List.Perm.trans ?_ pm
   rw [←gm];refine (pj).trans ?_;show (zs[k]::(zs.eraseIdx k++ys)).Perm (zs++ys);exact (Hk zs k hk).append_right ys
  ·exact ((su.trans s4).but n1).but KN
  ·exact ((p4.upd KJ).upd A6)
 ·have z0:zs=[]:=by
   cases zs with
   | nil=>rfl
   | cons=>exact absurd rfl hz
  subst z0;refine ⟨_,rfl,kk l2 ys H3 (sc.trans (aF.of s3)) (p1.mono s3) ?_ A6 (s3 _ _ ey) pm⟩;rw [eR A6];exact KN
theorem Uw:bZ ["_law_pen","_law_way","_law_size","_law_wide","_law_i","_law_j"] ["_law_pen","_law_way","_law_size","_law_wide","_law_i","_law_j"] (bf As):=cC
theorem Ux(T:Txt K mg t):bJ P w K mg base cO 3 t.rm t.uG ["_law_pen","_law_way","_law_size","_law_wide","_law_i","_law_j"] (PX K):=by
 have S:=Uw;refine T.vc.dX S (fun _ _ _ _ H _ _ _ hr h=>?_);obtain ⟨P0,a,ns,way,size,wide,i,j,rfl,pc,hS,kk⟩:=h
 refine ⟨_,(aB (cU (cz lh (pv 1) aE) (aG (bI (mL lh (a7 (jQ T) hr T.je T.gg.kp T.jd bS (ai (pv 0) (ai aE ao))) aE))) cT)
  (aB (cU (cz lh (pv 1) aE) (aG (bI (mL lh (a7 (jQ T) hr T.je T.gg.kp T.jd bS (ai (pv 0) (ai aE ao))) aE))) cT)
  (aB (cU (cz lh (pv 1) aE) (aG (bI (mL oj (a7 (jQ T) hr T.je T.gg.kp T.jd bS (ai (pv 0) (ai aE ao))) aE))) cT)
  (aB (cU (cz lh (pv 1) aE) (aG (bI (Mk (mL lh (bb yU (pv 5) (pv 4)) aE) (Fy (mL lh (bb yU (pv 5) (pv 4)) (bb yU (pv 2) aE)))))) cT)
  (aG (bI (mL FQ (bb yU (pv 5) (pv 4)) (pv 3)))))))),?_⟩
 refine ⟨_,rfl,rfl,_,rfl,dc (fun _=>?_) (fun _=>?_)⟩;·exact ⟨_,rfl,P0,a,ns,2,rfl,pc,hS,by decide,fR.of_lt (by decide) (by decide),fun c H1 _ _ s1 p1=>⟨rfl,kk _ H1 s1 p1⟩⟩
 dsimp only [g6];refine ⟨_,rfl,rfl,_,rfl,dc (fun _=>?_) (fun _=>?_)⟩;·exact ⟨_,rfl,P0,a,ns,4,rfl,pc,hS,by decide,fR.of_lt (by decide) (by decide),fun c H1 _ _ s1 p1=>⟨rfl,kk _ H1 s1 p1⟩⟩
 dsimp only [g6];refine ⟨_,rfl,rfl,_,rfl,dc (fun _=>?_) (fun _=>?_)⟩;·exact ⟨_,rfl,P0,a,ns,4,rfl,pc,hS,by decide,fR.of_lt (by decide) (by decide),fun c H1 _ _ s1 p1=>⟨_,_,rfl,rfl,kk _ H1 s1 p1⟩⟩
 dsimp only [g6];refine ⟨_,rfl,rfl,_,rfl,dc (fun _=>?_) (fun _=>?_)⟩
 ·refine ⟨_,rfl,_,rfl,_,_,rfl,rfl,rfl,_,rfl,dc (fun _=>?_) (fun _=>?_)⟩
  ·exact kk _ H (aF.refl _) pc
  ·exact ⟨_,rfl,_,rfl,_,_,rfl,rfl,_,rfl,_,_,rfl,rfl,rfl,kk _ H (aF.refl _) pc⟩
 dsimp only [g6];exact ⟨_,rfl,_,rfl,_,_,rfl,rfl,_,rfl,_,_,rfl,rfl,kk _ H (aF.refl _) pc⟩
theorem Uy:bZ ["_law_size","_law_links","_law_names","_law_found","_law_i","_law_j","_law_one"] ["_law_size","_law_links","_law_names"] (bf Aw):=cC
theorem Uz(T:Txt K mg t):bJ P w K mg base cO 3 t.rq t.uJ ["_law_size","_law_links","_law_names"] P1:=by
 have S:=Uy;refine T.vf.dX S (fun _ _ _ _ H _ _ _ hr h=>?_);obtain ⟨l,r,n,us,ws,L,nm,rfl,el,hL,ok,x6,x8,lw,hw,N,kk⟩:=h
 refine ⟨_,(aB (putL 3 S.nd (da ao))
  (aB (d_ dJ rfl (dM (pv 1)) (pW rfl (iI (cy (i:=4) S.nd rfl (Or.inl rfl)) (iI (cy (i:=5) S.nd rfl (Or.inl rfl)) pV)))
   (aB (putL 6 S.nd (b3 (FU rfl) rfl T.xK boot_min (ai (aW cL (pv 2) (pv 4)) (ai (aW cL (pv 2) (pv 5)) ao))))
  (aG (eO (gB fA jq jr gC (pv 3) (ai (gv (ai (pv 6) (ai (b3 (FT rfl) rfl T.DW boot_max (ai (aW cL (pv 2) (pv 4)) (ai (aW cL (pv 2) (pv 5)) ao))) ao))) ao))))))
  (aG (bI (gv (ai (pv 0) (ai (gx B3 rfl T.vp boot_tuple (ai (b3 Hi rfl T.oV pI (ai (pv 3) ao)) ao)) ao))))))),?_⟩
 refine ⟨by show 0≤sizeLine;decide,fun fd dF=>?_⟩
 have s0:aj H (upd H fd (.lst [])):=aJ dF;have KP:upd H fd (.lst []) fd=some (.lst []):=au;dsimp only [aO];generalize upd H fd (.lst [])=H1 at s0 KP ⊢;refine ⟨_,rfl,l,rfl,⟨_,.of (s0 _ _ el)⟩,?_⟩;refine k_ (K:=K) (a:=l) (xs:=us) (fun k σ Hc=>∃(xs:List V) (v4 v5 v6:Option V),σ=[some (.int (n:Int)),some (.ref l),some (.ref r),some (.ref fd),v4,v5,v6]∧aj H Hc∧Hc fd=some (.lst xs)∧bU Hc xs ((L.take k).map (iy nm))) ⟨[],_,_,_,rfl,s0,KP,bU.nil _⟩ (fun k σ Hc _ ⟨_,_,_,_,_,sc,_⟩=>.of (sc _ _ el)) ?_ ?_
 ·rintro k x σ Hc hx ⟨xs,v4,v5,v6,rfl,sc,ef,hX⟩
  have hk:k<L.length:=by rw [←hL.1];exact (bM.mp hx).1
  obtain ⟨b,rfl,eb⟩:=(hL.mono sc).2 k x L[k] hx (by simp [hk])
  have pk:=ok.lt L[k] (cS hk);have tk:(L.take (k+1)).map (iy nm)=(L.take k).map (iy nm)++[iy nm L[k]]:=by rw [jo,bx hk,eN];rfl
  have lX:=hX.1;rw [aD,me] at lX;have eV:L.length≤450:=a9 ok.eV (by have:n*n≤30*30:=sZ x6 x6;omega)
  generalize L[k]=p at eb pk tk;obtain ⟨p1,p2⟩:=p;dsimp only at pk;obtain ⟨i,rfl⟩:=fL pk.1;obtain ⟨j,rfl⟩:=fL (show 0≤p2 by omega)
  have KQ:gz ws (i:Int)=some (.int (nm i)):=oq (hw i (by omega))
  have at2:gz ws (j:Int)=some (.int (nm j)):=oq (hw j (by omega))
  have A7:=sc _ _ x8;refine ⟨b,_,rfl,.of eb,rfl,_,_,rfl,_,_,rfl,rfl,?_⟩;refine ⟨_,rfl,_,rfl,r,ws,_,.int (nm i),rfl,rfl,.of A7,KQ,_,rfl,_,rfl,r,ws,_,.int (nm j),rfl,rfl,.of A7,at2,nm i,nm j,rfl,?_⟩;dsimp only [aO];refine ⟨_,rfl,.inl ⟨rfl,_,.of ef⟩,_,rfl,_,rfl,_,rfl,r,ws,_,.int (nm i),rfl,rfl,.of A7,KQ,_,rfl,_,rfl,r,ws,_,.int (nm j),rfl,rfl,.of A7,at2,nm i,nm j,rfl,by show 2≤sizeLine;decide,fun tp nu=>?_⟩
  have eq:iy nm ((i:Int),(j:Int))=(if nm j<nm i then nm j else nm i,if nm j>nm i then nm j else nm i):=by
   unfold iy;simp only [cZ];refine Prod.ext ?_ ?_
   ·show min (nm i) (nm j)=_
    split <;> omega
   ·show max (nm i) (nm j)=_
    split <;> omega
  have st:aj Hc (upd Hc tp (.tup [.int (if nm j<nm i then nm j else nm i),.int (if nm j>nm i then nm j else nm i)])):=aJ nu
  have cN:upd Hc tp (.tup [.int (if nm j<nm i then nm j else nm i),.int (if nm j>nm i then nm j else nm i)]) tp=some (.tup [.int (iy nm ((i:Int),(j:Int))).1,.int (iy nm ((i:Int),(j:Int))).2]):=by rw [au,eq]
  generalize upd Hc tp (.tup [.int (if nm j<nm i then nm j else nm i),.int (if nm j>nm i then nm j else nm i)])=Hd at st cN ⊢
  have eM:=st _ _ ef;refine ⟨fd,xs,_,rfl,rfl,eM,b4 (by omega),xs++[.ref tp],_,_,_,rfl,d7 (sc.trans st) dF,au,?_⟩
  rw [tk];exact ((hX.mono st).push cN).b8 eM fun b o nb e=>by rw [aP nb];exact e
 ·rintro σ Hc ⟨xs,v4,v5,v6,rfl,sc,ef,hX⟩
  rw [hL.1,gp] at hX;have A8:=PZ ok N;have lX:=hX.1;have eV:L.length≤450:=a9 ok.eV (by have:n*n≤30*30:=sZ x6 x6;omega)
  have lM:(L.map (iy nm)).length=L.length:=aD ..;have small:∀q∈L.map (iy nm),0≤q.2∧q.2<1000:=fun q hq=>by have:=A8.lt q hq;omega
  generalize hM:L.map (iy nm)=M at hX A8 lX lM small kk;dsimp only;refine ⟨_,rfl,_,rfl,fd,xs,fun i=>(M.getD i (0,0)).1,fun i=>(M.getD i (0,0)).2,rfl,ef,by omega,fun i v hv=>?_,fun p l' hp hu qC=>?_⟩
  ·have hi:i<M.length:=by rw [←lX];exact (bM.mp hv).1
   obtain ⟨b,rfl,eb⟩:=hX.2 i v M[i] hv (by simp [hi])
   dsimp only;rw [getD_at hi];exact ⟨⟨b,rfl,eb⟩,small _ (cS hi)⟩
  rw [lX] at hp hu;obtain ⟨pm,pw⟩:=PY hp hu A8.nd small;have sl:aj Hc (upd Hc l' (.lst (p.toList.map fun i=>xs.getD i .aN))):=aJ qC;have hP:bU Hc (p.toList.map fun i=>xs.getD i .aN) (p.toList.map fun i=>M.getD i (0,0)):=hX.pick _ fun i hi=>by have:p.toList.Perm (List.range M.length):=nN.mp hp;exact b7.mp (this.mem_iff.mp hi)
  generalize (p.toList.map fun i=>xs.getD i .aN)=zs at sl hP ⊢;refine ⟨l',zs,rfl,.inl ⟨.of au,fun lt Ej=>?_⟩⟩;have f9:=sl.trans (aJ (o:=.tup zs) Ej);have elt:upd (upd Hc l' (.lst zs)) lt (.tup zs) lt=some (.tup zs):=au;generalize upd (upd Hc l' (.lst zs)) lt (.tup zs)=Hd at f9 elt ⊢;refine ⟨by show 2≤sizeLine;decide,fun tp nu=>?_⟩
  have st:aj Hd (upd Hd tp (.tup [.int (n:Int),.ref lt])):=aJ nu;have sT:=sc.trans (f9.trans st);exact kk tp _ _ sT (none_of (sc.trans f9) nu) ⟨lt,zs,au,st _ _ elt,(hP.mono f9).mono st⟩ (A8.perm pm) pw pm
theorem UA:bZ ["_law_pen","_law_size","_law_ahead","_law_found","_law_j","_law_at","_law_some"] ["_law_pen","_law_size"] (bf Au):=cC
theorem UB(T:Txt K mg t):bJ P w K mg base cO 3 t.rn t.uH ["_law_pen","_law_size"] (P4 K):=by
 have S:=UA;refine T.vd.dX S (fun _ _ _ _ H vs _ _ hr h=>?_);obtain ⟨P0,a,ns,n,rfl,pc,hS,n1,x6,kk⟩:=h
 refine ⟨_,(aB (putL 2 S.nd (da (ai (da ao) ao)))
  (aB (putL 3 S.nd (da ao))
  (aB (d_ dJ rfl (MA rfl T.fv (ai aE (ai (pv 1) ao))) (cy (i:=4) S.nd rfl (Or.inr rfl))
   (aB (putL 5 S.nd (a7 (jQ T) hr T.je T.gg.kp T.jd bS (ai (pv 0) (ai (pv 4) ao))))
  (aB (putL 6 S.nd (bb y8 (da (ai (pv 5) ao)) (hE (N:=["_law_i","_law_pen"]) (ρ:=(fun σ=>[σ[0]?.join])) (fh [0] rfl) rfl (dM (aW cL (pv 2) (pv 5))) (fun _ _ _=>(.one (cz oj (a7 (jQ T) hr T.je T.gg.kp T.jd bS (ai (pv 1) (ai aE ao))) aE))) (fun _ _ _=>(pv 0)))))
  (aB (cU (cz lh (a7 (jQ T) hr T.je T.gg.kp T.jd bS (ai (pv 0) (ai aE ao))) aE) (aG (putL 6 S.nd (da ao))) cT)
  (aB (eO (gB fA jq jr gC (pv 2) (ai (pv 6) ao)))
  (aG (eO (gB fA PySem.F.slot_list_extend PySem.F.type_list_extend Gm (pv 3) (ai (hE (N:=["_law_i","_law_j"]) (ρ:=(fun σ=>[σ[4]?.join])) (fh [4] rfl) rfl (dM (pv 6)) (fun _ _ _=>.nil) (fun _ _ _=>(gv (ai (pv 0) (ai (pv 1) ao))))) ao)))))))))
  (aG (bI (pv 3)))))),?_⟩
 refine cI fun _ kC=>⟨by show 0≤sizeLine;decide,fun l0 iB=>⟨by show 1≤sizeLine;decide,fun la x9=>?_⟩⟩
 have s1:aj H (upd H l0 (.lst [])):=aJ iB;have e0:upd H l0 (.lst []) l0=some (.lst []):=au;generalize upd H l0 (.lst [])=H1 at s1 e0 x9 ⊢;have s2:aj H1 (upd H1 la (.lst [.ref l0])):=aJ x9;have ea:upd H1 la (.lst [.ref l0]) la=some (.lst [.ref l0]):=au;dsimp only [aO];refine kC _ _ ?_;generalize upd H1 la (.lst [.ref l0])=H2 at s2 ea ⊢;refine cI fun _ jg=>⟨by show 0≤sizeLine;decide,fun fd dF=>?_⟩
 have s3:aj H2 (upd H2 fd (.lst [])):=aJ dF;have ef:upd H2 fd (.lst []) fd=some (.lst []):=au;dsimp only [aO];refine jg _ _ ?_;generalize upd H2 fd (.lst [])=H3 at s3 ef ⊢;have fJ:=s1.trans (s2.trans s3);have x_:la≠P0:=(pc.mono s1).ne x9;have ji:fd≠P0:=((pc.mono s1).mono s2).ne dF;have UC:l0≠P0:=pc.ne iB;have UD:H la=none:=none_of s1 x9;have A9:H fd=none:=none_of (s1.trans s2) dF;have af:la≠fd:=fun e=>by rw [e,dF] at ea;cases ea
 refine ⟨_,rfl,_,_,rfl,⟨by decide,by decide,by omega,by omega⟩,?_⟩
 rw [show ((n:Int)-1).toNat=n-1 by omega]
 refine n_ (fun k σ Hc=>∃(vs us:List V) (L:aw) (D:Nat→List Nat) (v4 v5 v6:Option V),σ=[some (.ref P0),some (.int (n:Int)),some (.ref la),some (.ref fd),v4,v5,v6]∧aF P0 H Hc∧bO Hc P0 a∧Hc la=some (.lst vs)∧P5 (er P0 Hc) vs (k+1) D∧(∀(i:Nat) (b:Addr),vs[i]?=some (V.ref b)→b≠la∧b≠fd)∧Hc fd=some (.lst us)∧bU (er P0 Hc) us L∧mV (k+1) L) ?_ ?_ ?_
 ·refine ⟨[.ref l0],[],[],fun _=>[],_,_,_,rfl,aF.of fJ,pc.mono fJ,s3 _ _ ea,⟨rfl,fun k hk=>⟨fT.nil k,l0,by rw [show k=0 by omega];rfl,?_⟩⟩,fun i b hb=>?_,ef,bU.nil _,mV.nil⟩
  ·rw [eR UC]
   exact s3 _ _ (s2 _ _ e0)
  ·match i,hb with
   | 0,hb=>cases hb;exact ⟨(fun e=>by rw [e,x9] at e0;cases e0),(fun e=>by rw [←e] at dF;rw [s2 _ _ e0] at dF;cases dF)⟩
   | i+1,hb=>simp at hb
 ·rintro k σ Hc hk ⟨vs,us,L,D,v4,v5,v6,rfl,sc,p1,A_,ah,ap,eM,hL,ok⟩
  refine ⟨_,rfl,_,rfl,P0,a,ns,1+(k:Int),rfl,p1,aj.seq sc hS,by omega,fR.of_lt (by omega) (by omega),fun c H4 c0 c1 s4 p4=>?_⟩
  obtain ⟨c,rfl⟩:=fL c0;have hc:c<k+1:=by omega
  obtain ⟨fc,b,UE,ya⟩:=ah.2 c hc;have UG:b≠P0:=fun z=>by rw [z] at ya;unfold er at ya;rw [ae rfl] at ya;cases ya
  have UH:=ah.1;have nC:=sc.trans s4;have UI:=s4.at x_ A_;have KR:H4 b=some (.lst (fk (D c))):=zp _ _ (s4 _ _ ya);dsimp only [aO];simp only [List.set_cons_zero,List.set_cons_succ];refine cI fun _ nE=>⟨_,rfl,by show 1≤sizeLine;decide,fun vy zI=>?_⟩
  have s5:aj H4 (upd H4 vy (.lst [.int (c:Int)])):=aJ zI;have e5:upd H4 vy (.lst [.int (c:Int)]) vy=some (.lst [.int (c:Int)]):=au;have UJ:vy≠P0:=p4.ne zI;generalize upd H4 vy (.lst [.int (c:Int)])=H5 at s5 e5 ⊢;have lD:(D c).length≤30:=a9 fc.len (by omega)
  have lV:(fk (D c)).length≤30:=by unfold fk;rw [aD];exact lD
  have kG:=nC.trans (aF.of s5);refine P2 (K:=K) (l:=b) (xs:=fk (D c)) (b4 (by omega)) UG (s5 _ _ KR) (p4.mono s5) (fun R h=>⟨_,rfl,_,rfl,la,vs,_,.ref b,rfl,rfl,.of (s5 _ _ UI),oq UE,b,rfl,⟨_,.of (s5 _ _ KR)⟩,h⟩) (fun i x hx Hx R sx px k=>⟨_,rfl,P0,a,ns,3,rfl,px,aj.seq (kG.trans sx) hS,by decide,fR.of_lt (by decide) (by decide),fun c' H' _ _ s' p'=>⟨_,_,rfl,rfl,_,rfl,k _ H' s' p'⟩⟩) (fun x Hx R h=>⟨_,rfl,h⟩) fun D' ys Hx Uo Zz sx px sub t_=>?_
  obtain ⟨e,Gx,rfl⟩:=CV sub;have fe:=(fc.sub Gx).put hc;have ZA:(fk e).length≤30:=a9 sub.length_le lV;refine ⟨vy,D',_,_,rfl,rfl,sx.at UJ e5,t_,a9 (show _≤900 by simp;omega) (by decide),fun c2 n2=>?_⟩
  have s6:aj Hx (upd Hx c2 (.lst ([.int (c:Int)]++fk e))):=aJ n2;have e6:upd Hx c2 (.lst ([.int (c:Int)]++fk e)) c2=some (.lst (fk (c::e))):=au;have KS:=(kG.trans sx).trans (aF.of s6);have p6:=px.mono s6;have Ek:aF P0 H4 (upd Hx c2 (.lst ([.int (c:Int)]++fk e))):=(aF.of s5).trans (sx.trans (aF.of s6));have El:c2≠P0:=px.ne n2;have f2:er P0 Hc c2=none:=none_of (s4.trans ((aF.of s5).trans sx)) (by rw [eR El];exact n2)
  dsimp only [aO];refine nE _ _ ?_;generalize upd Hx c2 (.lst ([.int (c:Int)]++fk e))=H6 at s6 e6 KS p6 Ek ⊢;simp only [List.set_cons_zero,List.set_cons_succ];refine cq (CT (fun σ Hy=>∃(lc:Addr) (d:List Nat),σ=[some (.ref P0),some (.int (n:Int)),some (.ref la),some (.ref fd),some (.int (1+(k:Int))),some (.int (c:Int)),some (.ref lc)]∧aF P0 Hc Hy∧bO Hy P0 a∧Hy lc=some (.lst (fk d))∧fT (k+1) d∧lc≠P0∧er P0 Hc lc=none) ?_ ?_)
  ·rintro σ Hy ⟨lc,d,rfl,sy,py,m9,Em,vz,Ba⟩
   have ly:lc≠la:=fun z=>by rw [z,eR x_,A_] at Ba;cases Ba
   have lf:lc≠fd:=fun z=>by rw [z,eR ji,eM] at Ba;cases Ba
   have En:=sy.at x_ A_;have UK:=sy.at ji eM;have ZC:d.length≤30:=a9 Em.len (by omega)
   dsimp only;refine ⟨_,rfl,.inl ⟨rfl,_,.of En⟩,_,rfl,la,vs,_,rfl,rfl,En,b4 (by omega),?_⟩
   have e7:upd Hy la (.lst (vs++[.ref lc])) la=some (.lst (vs++[.ref lc])):=au;have k7:∀b o,b≠la→Hy b=some o→upd Hy la (.lst (vs++[.ref lc])) b=some o:=fun b o nb e=>by rw [aP nb];exact e
   have p7:=py.upd (o:=.lst (vs++[.ref lc])) x_;have r7:=CW (P:=P0) (H:=Hy) (r:=la) (o:=.lst (vs++[.ref lc]));have yb:aF P0 H (upd Hy la (.lst (vs++[.ref lc]))):=(sc.trans sy).but UD;generalize upd Hy la (.lst (vs++[.ref lc]))=H7 at e7 k7 p7 r7 yb ⊢;have Eo:=k7 fd _ (fun z=>af z.symm) UK;have Ep:=k7 lc _ ly m9;have UL:(fk d).length=d.length:=by unfold fk;rw [aD]
   refine ⟨_,rfl,.inl ⟨rfl,_,.of Eo⟩,ou (xs:=fk d) (fun R h=>⟨_,rfl,lc,rfl,⟨_,.of Ep⟩,h _ _ (aj.refl _) (iP (.of Ep))⟩) (b4 (by omega)) (fun _ i y Hz=>∃(b:Addr) (x:Nat),y=.ref b∧d[i]?=some x∧Hz b=some (.tup [.int (x:Int),.int (1+(k:Int))])) (fun Dd i y Ha Hb ys ⟨b,x,h1,h2,h3⟩ e f=>⟨b,x,h1,h2,f b _ (fun z=>by rw [z,e] at h3;cases h3) h3⟩) ?_ ?_⟩
   ·intro Dd i x hx Hz R sz _ kz
    obtain ⟨y,hy,rfl⟩:=P6 hx;refine ⟨_,rfl,_,rfl,by show 2≤sizeLine;decide,fun tp nu=>?_⟩
    exact kz _ _ (aJ nu) ⟨tp,y,rfl,hy,au⟩
   ·intro Dd zs H8 D8 s8 Er Es r6
    have lL:=hL.1;have l2:us.length≤450:=by
     have:=ok.eV;have:(k+1)*(k+1-1)≤30*30:=sZ (by omega) (by omega)
     omega
    refine ⟨fd,Dd,us,zs,rfl,rfl,s8 _ _ Eo,r6,a9 (show _≤900 by omega) (by decide),?_⟩
    have k9:∀b o,b≠fd→H8 b=some o→upd H8 fd (.lst (us++zs)) b=some o:=fun b o nb e=>by rw [aP nb];exact e
    have p8:=p7.mono s8;have r9:=CW (P:=P0) (H:=H8) (r:=fd) (o:=.lst (us++zs));have KU:er P0 H8 fd=some (.lst us):=by rw [eR ji];exact s8 _ _ Eo
    have UM:er P0 Hy la=some (.lst vs):=by rw [eR x_];exact En
    refine ⟨vs++[.ref lc],us++zs,L++d.map fun(x:Nat)=>((x:Int),((k+1:Nat):Int)),fun i=>if i=k+1 then d else D i,_,_,_,rfl,(yb.trans (aF.of s8)).but A9,p8.upd ji,k9 la _ af (s8 _ _ e7),⟨by simp [UH],fun i hi=>?_⟩,fun i b' fP=>?_,au,?_,ok.more Em⟩
    ·dsimp only
     by_cases z:i=k+1
     ·subst z
      rw [ae rfl];refine ⟨Em,lc,by rw [gU (by omega),show k+1-vs.length=0 by omega];rfl,?_⟩
      exact r9 _ _ lf (by rw [eR vz];exact s8 _ _ Ep)
     ·rw [aa z]
      obtain ⟨f1,b1,v1,h1⟩:=ah.2 i (by omega)
      obtain ⟨a1,a2⟩:=ap i b1 v1;refine ⟨f1,b1,by rw [gW (by omega)];exact v1,?_⟩
      exact r9 _ _ a2 (zq s8 _ _ (r7 _ _ a1 (sy _ _ h1)))
    ·by_cases z:i<vs.length
     ·rw [gW z] at fP
      exact ap i b' fP
     ·have aV:=(bM.mp fP).1
      rw [dh,kL] at aV;rw [gU (by omega),show i-vs.length=0 by omega] at fP
      cases fP;exact ⟨ly,lf⟩
    ·refine bU.cat ?_ ?_
     ·exact (((hL.mono sy).b8 UM r7).mono (zq s8)).b8 KU r9
     ·refine bU.b8 (H:=er P0 H8) ⟨by rw [Er,UL,aD],fun i v p h1 h2=>?_⟩ KU r9
      obtain ⟨b',x,rfl,hx,e'⟩:=Es i v h1;rw [bP,hx] at h2;cases h2;refine ⟨b',rfl,?_⟩;rw [show (((k+1:Nat):Int))=1+(k:Int) by omega]
      exact xh p8 e'
  ·intro R hR
   refine ⟨_,rfl,P0,a,ns,9,rfl,p6,aj.seq KS hS,by decide,fR.of_lt (by decide) (by decide),fun c' H7 _ _ s7 p7=>⟨rfl,_,rfl,dc (fun _=>?_) (fun _=>?_)⟩⟩
   ·refine ⟨by show 0≤sizeLine;decide,fun lc vz=>?_⟩
    have nP:=p7.ne vz;have KW:=s4.trans (Ek.trans s7);exact hR _ _ ⟨lc,[],rfl,KW.trans (aF.of (aJ vz)),p7.mono (aJ vz),au,fT.nil _,nP,none_of KW (by rw [eR nP];exact vz)⟩
   ·exact hR _ _ ⟨c2,c::e,rfl,s4.trans (Ek.trans s7),p7,s7.at El e6,fe,El,f2⟩
 ·rintro σ Hc ⟨vs,us,L,D,v4,v5,v6,rfl,sc,p1,A_,ah,ap,eM,hL,ok⟩
  rw [show n-1+1=n by omega] at ok
  exact ⟨_,rfl,kk fd us L Hc sc p1 (by rw [eR ji];exact A9) ji eM hL ok.ok⟩
theorem UN:bZ ["_law_pen","_law_most","_law_size","_law_way","_law_wide","_law_links","_law_j","_law_i"] ["_law_pen","_law_most"] (bf Av):=cC
theorem UO(T:Txt K mg t):bJ P w K mg base cO 4 t.rp t.uI ["_law_pen","_law_most"] (P9 K):=by
 have S:=UN;refine T.ve.dX S (fun _ _ _ _ H _ _ _ hr h=>?_);obtain ⟨P0,a,ns,most,rfl,pc,hS,m1,ZD,kk⟩:=h
 refine ⟨_,(aB (putL 2 S.nd (bb fb aE (a7 (jQ T) hr T.je T.gg.kp T.jd bS (ai (pv 0) (ai (pv 1) ao)))))
  (aB (putL 3 S.nd (a7 (jQ T) hr T.je T.gg.kp T.jd bS (ai (pv 0) (ai aE ao))))
  (aB (putL 4 S.nd (a7 (jQ T) hr T.je T.gg.kp T.jd bS (ai (pv 0) (ai (pv 2) ao))))
  (aB (putL 5 S.nd (da ao))
  (aB (d_ dJ rfl (ju rfl T.fv (ai (pv 2) ao)) (cy (i:=6) S.nd rfl (Or.inl rfl))
   (aG (d_ dJ rfl (ju rfl T.fv (ai (pv 6) ao)) (cy (i:=7) S.nd rfl (Or.inl rfl))
   (aG (cU (kZ (a7 (Ux T) hr T.JH T.vc.kp T.JG bS (ai (pv 0) (ai (pv 3) (ai (pv 2) (ai (pv 4) (ai (pv 7) (ai (pv 6) ao)))))))) (aG (eO (gB fA jq jr gC (pv 5) (ai (gv (ai (pv 7) (ai (pv 6) ao))) ao)))) cT)))))
  (aB (cU (cz lh (pv 3) aE) (aG (putL 5 S.nd (a7 (UB T) hr T.JJ T.vd.kp T.JI bS (ai (pv 0) (ai (pv 2) ao))))) cT)
  (aG (bI (a7 (Uz T) hr T.JN T.vf.kp T.JM bS (ai (pv 2) (ai (pv 5) (ai (a7 (KI T) hr T.DR T.rT.kp T.DQ bS (ai (pv 0) (ai (gx (wI rfl) rfl T.m8 boot_list (ai (gx tP rfl T.fv tQ (ai (pv 2) ao)) ao)) ao))) ao)))))))))))),?_⟩
 refine cI fun _ kC=>⟨_,rfl,_,rfl,P0,a,ns,(most:Int),rfl,pc,hS,by omega,fR.of_lt (by omega) (by omega),fun c H1 c0 c1 s1 p1=>⟨_,_,rfl,rfl,?_⟩⟩
 obtain ⟨c,rfl⟩:=fL c0;dsimp only [aO];refine kC _ _ ?_;rw [show 1+(c:Int)=((c+1:Nat):Int) by omega]
 have n1:1≤c+1:=by omega
 have nm:c+1≤most:=by omega
 generalize c+1=n at n1 nm ⊢;have yc:bt K (er P0 H1) a (ns.map V.int):=aj.seq s1 hS;refine cI fun _ jg=>⟨_,rfl,P0,a,ns,6,rfl,p1,yc,by decide,fR.of_lt (by decide) (by decide),fun way H2 _ _ s2 p2=>?_⟩
 have gT:=s1.trans s2;dsimp only [aO];refine jg _ _ ?_;refine cI fun _ nE=>⟨_,rfl,_,rfl,P0,a,ns,(n:Int),rfl,p2,aj.seq gT hS,by omega,fR.of_lt (by omega) (by omega),fun wide H3 _ _ s3 p3=>?_⟩
 have fJ:=gT.trans s3;dsimp only [aO];refine nE _ _ ?_;refine cI fun _ sC=>⟨by show 0≤sizeLine;decide,fun fd dF=>?_⟩
 have s4:aj H3 (upd H3 fd (.lst [])):=aJ dF;have ef:upd H3 fd (.lst []) fd=some (.lst []):=au;dsimp only [aO];refine sC _ _ ?_;generalize upd H3 fd (.lst [])=H4 at s4 ef ⊢;have oY:=fJ.trans (aF.of s4);have p4:=p3.mono s4;have ji:fd≠P0:=p3.ne dF;have KY:er P0 H fd=none:=none_of fJ (by rw [eR ji];exact dF)
 have A9:H fd=none:=by rw [eR ji] at KY;exact KY
 refine ⟨_,rfl,(n:Int),rfl,by omega,by omega,?_⟩
 rw [cZ];refine n_ (fun j σ Hc=>∃(us:List V) (L:aw) (v6 v7:Option V),σ=[some (.ref P0),some (.int (most:Int)),some (.int (n:Int)),some (.int way),some (.int wide),some (.ref fd),v6,v7]∧aF P0 H Hc∧bO Hc P0 a∧Hc fd=some (.lst us)∧bU (er P0 Hc) us L∧gK j 0 L) ⟨[],[],_,_,rfl,oY,p4,ef,bU.nil _,gK.start⟩ ?_ ?_
 ·rintro j σ Hc hj ⟨us,L,v6,v7,rfl,sc,p5,eM,hL,ok⟩
  dsimp only [aO];simp only [List.set_cons_zero,List.set_cons_succ];refine ⟨_,rfl,(j:Int),by rw [kU],by omega,by omega,?_⟩
  rw [cZ];refine n_ (fun i σ Hd=>∃(us:List V) (L:aw) (v7:Option V),σ=[some (.ref P0),some (.int (most:Int)),some (.int (n:Int)),some (.int way),some (.int wide),some (.ref fd),some (.int (0+(j:Int))),v7]∧aF P0 H Hd∧bO Hd P0 a∧Hd fd=some (.lst us)∧bU (er P0 Hd) us L∧gK j i L) ⟨us,L,_,rfl,sc,p5,eM,hL,ok⟩ ?_ ?_
  ·rintro i σ Hd hi ⟨us,L,v7,rfl,sd,p6,eM,hL,ok⟩
   refine ⟨_,rfl,_,rfl,_,rfl,_,rfl,_,rfl,_,rfl,P0,a,ns,way,(n:Int),wide,0+(i:Int),0+(j:Int),rfl,p6,aj.seq sd hS,fun b He se pe=>?_⟩;have Et:=se.at ji eM;have KZ:=hL.mono se;have lL:=hL.1;have l2:us.length≤900:=by
    have:=ok.eV;have:j*(j-1)≤30*30:=sZ (by omega) (by omega)
    omega
   cases b with
   | true=>
    refine ⟨true,rfl,wC ?_⟩;refine ⟨_,rfl,.inl ⟨rfl,_,.of Et⟩,_,rfl,_,rfl,by show 2≤sizeLine;decide,fun tp nu=>?_⟩
    have st:aj He (upd He tp (.tup [.int (0+(i:Int)),.int (0+(j:Int))])):=aJ nu;have et:upd He tp (.tup [.int (0+(i:Int)),.int (0+(j:Int))]) tp=some (.tup [.int (i:Int),.int (j:Int)]):=by rw [au,kU,kU]
    generalize upd He tp (.tup [.int (0+(i:Int)),.int (0+(j:Int))])=Hf at st et ⊢;have pf:=pe.mono st;have K6:=st _ _ Et;refine ⟨fd,us,_,rfl,rfl,K6,b4 (by omega),us++[.ref tp],L++[((i:Int),(j:Int))],_,rfl,((sd.trans se).trans (aF.of st)).but A9,pf.upd ji,au,?_,ok.push hi⟩
    refine bU.b8 (H:=er P0 Hf) ((KZ.mono (zq st)).push (xh pf et)) (by rw [eR ji];exact K6) CW
   | false=>exact ⟨false,rfl,fQ ⟨us,L,_,rfl,sd.trans se,pe,Et,KZ,ok.skip⟩⟩
  ·rintro σ Hd ⟨us,L,v7,rfl,sd,p6,eM,hL,ok⟩
   exact ⟨us,L,_,_,rfl,sd,p6,eM,hL,ok.next⟩
 ·rintro σ Hc ⟨us,L,v6,v7,rfl,sc,p5,eM,hL,ok⟩
  dsimp only;refine cq (CT (fun σ Hy=>∃(lk:Addr) (us:List V) (L:aw),σ=[some (.ref P0),some (.int (most:Int)),some (.int (n:Int)),some (.int way),some (.int wide),some (.ref lk),v6,v7]∧aF P0 H Hy∧bO Hy P0 a∧lk≠P0∧Hy lk=some (.lst us)∧bU (er P0 Hy) us L∧jG n L) ?_ ?_)
  ·rintro σ Hy ⟨lk,us,L,rfl,sy,py,UP,UQ,hL,ok⟩
   dsimp only;refine ⟨_,rfl,_,rfl,_,rfl,_,rfl,(n:Int),rfl,fun pr UR=>?_⟩;have s6:aj Hy (upd Hy pr (.dS 0 (n:Int))):=aJ UR;refine ⟨pr,n,rfl,au,by omega,fun l0 n0=>?_⟩
   have s7:=s6.trans (aJ (o:=.lst (bT n)) n0);have e0:upd (upd Hy pr (.dS 0 (n:Int))) l0 (.lst (bT n)) l0=some (.lst (bT n)):=au;have iB:l0≠P0:=(py.mono s6).ne n0;generalize upd (upd Hy pr (.dS 0 (n:Int))) l0 (.lst (bT n))=Hz at s7 e0 ⊢;have lu:(bT n).length=n:=by unfold bT;simp
   refine ⟨P0,a,l0,ns,bT n,rfl,py.mono s7,aj.seq (sy.trans (aF.of s7)) hS,iB,e0,by omega,fun r ys Hw sw pw fr nr x8 pm=>?_⟩
   obtain ⟨US,ly,hy,NO⟩:=P8 pm;have Bb:=(aF.of s7).trans sw;refine ⟨lk,r,n,us,ys,L,US,rfl,Bb.at UP UQ,(hL.mono Bb).mono zp,ok,by omega,x8,ly,hy,NO,fun tt L' Hv sv K7 sh Eu Ew xV=>?_⟩
   have nt:tt≠P0:=pw.ne K7;exact kk tt n L' Hv ((sy.trans Bb).trans (aF.of sv)) (pw.mono sv) (none_of (sy.trans Bb) (by rw [eR nt];exact K7)) nt (sh.er (pw.mono sv)) Eu Ew n1 nm
  ·intro R hR
   refine ⟨_,rfl,rfl,_,rfl,dc (fun _=>?_) (fun _=>?_)⟩
   ·refine ⟨_,rfl,_,rfl,P0,a,ns,n,rfl,p5,aj.seq sc hS,n1,by omega,fun r K8 L' Hy sy py fr nr x8 UT Eu=>?_⟩
    exact hR _ _ ⟨r,K8,L',rfl,sc.trans sy,py,nr,x8,UT,Eu⟩
   ·exact hR _ _ ⟨fd,us,L,rfl,sc,p5,ji,eM,hL,ok.ok⟩
theorem UU:bZ ["_law_shape","_law_found","_law_i","_law_j"] ["_law_shape"] (bf Ax):=cC
theorem Ex(T:Txt K mg t):bJ P w K mg base cO 1 t.rA t.uK ["_law_shape"] RG:=by
 have S:=UU;refine T.oT.dX S (fun _ _ _ _ H _ _ _ hr h=>?_);obtain ⟨tp,n,L,rfl,⟨lt,us,cN,elt,hL⟩,ok,n9,l2,kk⟩:=h;have AO:((List.range n).map fun i:Nat=>V.int (0+(i:Int))).length=n:=by rw [aD,dt]
 refine ⟨_,(aB (wL (i0:=1) (N:=["_law_k"]) (ρ:=(fun σ=>[])) (fh [] rfl) rfl S.nd rfl (Or.inl rfl) (ju rfl T.fv (ai (aW dN (pv 0) aE) ao)) (fun _ _ _=>.nil) (fun _ _ _=>(da ao)))
  (aB (d_ dJ rfl (BO (aW dN (pv 0) aE)) (pW rfl (iI (cy (i:=2) S.nd rfl (Or.inl rfl)) (iI (cy (i:=3) S.nd rfl (Or.inl rfl)) pV)))
   (aB (eO (gB fA jq jr gC (aW cL (pv 1) (pv 2)) (ai (pv 3) ao)))
  (aG (eO (gB fA jq jr gC (aW cL (pv 1) (pv 3)) (ai (pv 2) ao))))))
  (aG (bI (pv 1))))),?_⟩
 refine cq (jB (Cr (xs:=(List.range n).map fun i:Nat=>V.int (0+(i:Int))) (n:=n) AO (fun R h=>⟨_,rfl,tp,_,_,_,rfl,rfl,.of cN,rfl,(n:Int),rfl,by omega,by omega,h _ _ (aj.refl _) (by rw [cZ];exact zl)⟩) (b4 (by omega)) (fun _ i y Hx=>Hx y=some (.lst [])∧H y=none) ?_ ?_ ?_))
 ·intro D i y Ha Hb ys ⟨h1,h2⟩ hy e f
  exact ⟨f y _ hy h1,h2⟩
 ·intro D i x hx Hc R sc _ kc
  exact ⟨ba _,fun p np=>kc p _ (d7 (aj.refl _) np) np ⟨_,au⟩ ⟨au,none_of sc np⟩⟩
 ·intro D rs H1 nD s1 inj hA eD
  have K0:jc H1 D n rs (fun _=>[]):=⟨eD,inj,fun i hi=>(hA i hi).2,fun i hi=>(hA i hi).1.1⟩;have fr:∀i,i<n→H (rs i)=none:=fun i hi=>(hA i hi).1.2;dsimp only [aO];refine cq ⟨_,rfl,tp,_,_,_,rfl,rfl,.of (s1 _ _ cN),rfl,lt,rfl,⟨_,.of (s1 _ _ elt)⟩,?_⟩;refine BP (K:=K) (a:=lt) (xs:=us) (fun k σ Hc=>∃(g:Nat→List Nat) (v2 v3:Option V),σ=[some (.ref tp),some (.ref D),v2,v3]∧aj H Hc∧jc Hc D n rs g∧dP n (L.take k) g∧(∀a,(g a).length≤2*k)∧((∀p∈L,p.1<p.2)→L.Nodup→∀a,(g a).Nodup)) ⟨_,_,_,rfl,s1,K0,dP.nil n,fun _=>ax _,fun _ _ _=>pD⟩ (fun k σ Hc _ ⟨_,_,_,_,sc,_⟩=>.of (sc _ _ elt)) ?_ ?_
  ·rintro k x σ Hc hx ⟨g,v2,v3,rfl,sc,KL,nb,gl,gn⟩
   have hk:k<L.length:=by rw [←hL.1];exact (bM.mp hx).1
   obtain ⟨b,rfl,eb⟩:=hL.2 k x L[k] hx (by simp [hk])
   have pk:=ok L[k] (cS hk);have tk:L.take (k+1)=L.take k++[L[k]]:=by rw [jo,bx hk];rfl
   have K9:L.Nodup→L[k]∉L.take k:=fun nd h=>RI nd hk h;have Ey:L[k]∈L:=cS hk;generalize L[k]=p at eb pk tk K9 Ey;obtain ⟨p1,p2⟩:=p;dsimp only at pk eb;obtain ⟨i,rfl⟩:=fL pk.1;obtain ⟨j,rfl⟩:=fL pk.2.2.1;have hi:i<n:=by omega
   have hj:j<n:=by omega
   refine ⟨b,_,rfl,.of (sc _ _ eb),rfl,_,_,rfl,_,_,rfl,rfl,?_⟩;have off:∀(Hx:Hp) (i:Nat) (o:HO),i<n→aj H Hx→aj H (upd Hx (rs i) o):=fun Hx i o hi sx a u e=>by
    rw [aP (fun z=>by rw [z,fr i hi] at e;cases e)]
    exact sx _ _ e
   have K1:=KL.snoc j hi;have K2:=K1.snoc i hj;have g1:=gl i;have g2:(iz g i j j).length≤2*k+1:=a9 Dj (by have:=gl j;omega)
   refine ⟨_,rfl,_,rfl,D,_,_,_,rfl,rfl,.of KL.lst,ko hi,.inl ⟨rfl,_,.of (KL.at' i hi)⟩,_,rfl,rs i,_,_,rfl,rfl,KL.at' i hi,b4 (by rw [aD];omega),?_⟩
   refine ⟨_,rfl,_,rfl,D,_,_,_,rfl,rfl,.of K1.lst,ko hj,.inl ⟨rfl,_,.of (K1.at' j hj)⟩,_,rfl,rs j,_,_,rfl,rfl,K1.at' j hj,b4 (by rw [aD];omega),?_⟩
   exact ⟨_,_,_,rfl,off _ _ _ hj (off _ _ _ hi sc),K2,by rw [tk];exact nb.snoc,fun a=>a9 Dj (by have:=Dj (g:=g) (i:=i) (j:=j) (a:=a);have:=gl a;omega),fun up nd a=>RK (gn up nd) nb hi hj (by have:=up _ Ey;dsimp only at this;omega) (K9 nd) (fun h=>by have h1:=up _ (List.mem_of_mem_take h);have h2:=up _ Ey;dsimp only at h1 h2;omega) a⟩
  ·rintro σ Hc ⟨g,v2,v3,rfl,sc,KL,nb,gl,gn⟩
   rw [hL.1,gp] at nb;rw [hL.1] at gl;exact ⟨_,rfl,kk _ _ _ _ sc nD fr KL nb gl gn⟩
theorem UW:bZ ["_law_beside_here","_law_through","_law_start","_law_met","_law_row","_law_other"] ["_law_beside_here","_law_through","_law_start"] (bf Ay):=cC
theorem UX(T:Txt K mg t):bJ P w K mg base cO 1 t.rB t.uL ["_law_beside_here","_law_through","_law_start"] Q8:=by
 have S:=UW
 refine T.vg.dX S (fun _ _ _ _ H vs _ _ hr h=>?_)
 obtain ⟨D,d,n,rs,g,done,p,rfl,KL,gn,ed,ld,pn,J_,kk⟩:=h
 have hu:=gX (jU (show 1≤64 by decide) _) hr.units
 have fV:=hr.units
 refine ⟨_,(aB (putL 3 S.nd (HK (HH (pv 2) fD HG) rfl rfl (fun h=>by cases h) (by decide)))
  (aB (putL 4 S.nd (da (ai (pv 2) ao)))
  (aB (v_ dJ (cz (zK fV) (pv 4) (da ao)) (aG (d_ dJ rfl (dM (aW cL (pv 0) (B5 fA BB BC Gn (pv 4)))) (cy (i:=5) S.nd rfl (Or.inl rfl))
   (aG (cU (BJ (HE hu (pv 5) (pv 3)) rfl) (aB (qA hu (pv 3) (pv 5) fD rfl)
  (aG (cU (om B2 (pv 5) (pv 1) rfl) (aG (eO (gB fA jq jr gC (pv 4) (ai (pv 5) ao)))) cT))) cT)))))
  (aG (bI (pv 3)))))),?_⟩
 refine cI fun _ kC=>(jB fun mt iV=>⟨_,rfl,au,[((Sum.inl (p:Int):Key),V.bl true)],rfl,by show 1≤15;decide,?_⟩)
 have s0:∀b o,b≠mt→H b=some o→upd (upd H mt (.dK [])) mt (.dK (kj [] [((Sum.inl (p:Int):Key),V.bl true)])) b=some o:=fun b o ne e=>by rw [aP ne,aP ne];exact e
 have em:upd (upd H mt (.dK [])) mt (.dK (kj [] [((Sum.inl (p:Int):Key),V.bl true)])) mt=some (.dK (dk [p])):=by rw [au];rfl
 generalize upd (upd H mt (.dK [])) mt (.dK (kj [] [((Sum.inl (p:Int):Key),V.bl true)]))=H1 at s0 em ⊢
 have sm:aj H H1:=fun b o e=>s0 b o (fun z=>by rw [z,iV] at e;cases e) e
 dsimp only [aO]
 refine kC _ _ ?_
 refine cI fun _ jg=>⟨_,rfl,by show 1≤sizeLine;decide,fun l nl=>?_⟩
 have sl:aj H1 (upd H1 l (.lst [V.int (p:Int)])):=aJ nl
 have el:upd H1 l (.lst [V.int (p:Int)]) l=some (.lst (([p]:List Nat).map fun k:Nat=>V.int (k:Int))):=au
 generalize upd H1 l (.lst [V.int (p:Int)])=H2 at sl el ⊢
 have iB:H l=none:=none_of sm nl
 have lm:l≠mt:=fun z=>by rw [z,em] at nl;cases nl
 have s2:=sm.trans sl
 dsimp only [aO]
 refine jg _ _ ?_
 refine cq ⟨fun m σ Hc=>∃(ks ws:List Nat) (v5:Option V),σ=[some (.ref D),some (.ref d),some (.int (p:Int)),some (.ref mt),some (.ref l),v5]∧m=2*(n-ks.length)+ws.length∧aj H Hc∧Hc mt=some (.dK (dk ks))∧Hc l=some (.lst (ws.map fun k:Nat=>V.int (k:Int)))∧dQ n (fu n g) (·∈done) p none (fun _=>True) ks ws∧ws.length≤ks.length,⟨_,[p],[p],_,rfl,rfl,s2,sl _ _ em,el,dQ.start pn,ax _⟩,?_⟩
 rintro m' σ Hc ⟨ks,ws,v5,rfl,Ts,oc,xM,m9,wk,wl⟩
 have Kb:=wk.pl.len
 refine ⟨_,rfl,by show 0≤sizeLine;decide,fun le x5=>?_⟩
 have s3:aj Hc (upd Hc le (.lst [])):=aJ x5
 have e3:upd Hc le (.lst []) le=some (.lst []):=au
 generalize upd Hc le (.lst [])=Hn at s3 e3 ⊢
 refine ⟨l,le,_,rfl,rfl,.of (s3 _ _ m9),e3,_,rfl,dc (fun hz=>?_) (fun hz=>?_)⟩
 ·have xN:ws≠[]:=fun z=>by rw [z] at hz;cases hz
  obtain ⟨us,h,rfl⟩:∃us h,ws=us++[h]:=⟨ws.dropLast,ws.getLast xN,(List.dropLast_concat_getLast xN).symm⟩
  have Tu:(us++[h]).length=us.length+1:=by simp
  have hh:=wk.wt h (dI _ (bY.mpr rfl))
  have hn:h<n:=wk.pl.2 h hh.1
  have kD:=wk.pop
  refine ⟨_,fun _ _ h=>h,?_⟩
  refine ⟨_,rfl,_,rfl,.inl ⟨rfl,_,.of (s3 _ _ m9)⟩,l,_,.int (h:Int),rfl,rfl,s3 _ _ m9,by simp,?_⟩
  rw [eN,di,sI,List.dropLast_concat]
  have sn:=oc.trans s3
  have o1:∀b u,b≠l→Hn b=some u→upd Hn l (.lst (us.map fun k:Nat=>V.int (k:Int))) b=some u:=fun b u ne e=>by rw [aP ne];exact e
  have xO:upd Hn l (.lst (us.map fun k:Nat=>V.int (k:Int))) l=some (.lst (us.map fun k:Nat=>V.int (k:Int))):=au
  have xP:∀{Hx Hy:Hp},aj H Hx→(∀b u,b≠l→Hx b=some u→Hy b=some u)→aj H Hy:=fun h k b u e=>k b u (fun z=>by rw [z,iB] at e;cases e) (h b u e)
  have DZ:∀{Hx Hy:Hp},aj H Hx→(∀b u,b≠mt→Hx b=some u→Hy b=some u)→aj H Hy:=fun h k b u e=>k b u (fun z=>by rw [z,iV] at e;cases e) (h b u e)
  have rX:=xP sn o1
  have xQ:=o1 _ _ (Ne.symm lm) (s3 _ _ xM)
  generalize upd Hn l (.lst (us.map fun k:Nat=>V.int (k:Int)))=H3 at o1 xO rX xQ ⊢
  refine ⟨D,_,_,_,rfl,rfl,.of (rX _ _ KL.lst),ko hn,rs h,rfl,⟨_,.of (rX _ _ (KL.at' h hn))⟩,?_⟩
  refine k_ (K:=K) (a:=rs h) (xs:=(g h).map fun k:Nat=>V.int (k:Int)) (fun i σ He=>∃(ks us:List Nat) (v5:Option V),σ=[some (.ref D),some (.ref d),some (.int (p:Int)),some (.ref mt),some (.ref l),v5]∧aj H He∧He mt=some (.dK (dk ks))∧He l=some (.lst (us.map fun k:Nat=>V.int (k:Int)))∧dQ n (fu n g) (·∈done) p (some h) (·∈(g h).take i) ks us∧us.length≤ks.length∧h∈ks∧2*(n-ks.length)+us.length<m') ⟨ks,us,_,rfl,rX,xQ,xO,⟨kD.pl,kD.st,kD.rc,kD.wt,fun x hx ox=>(kD.cl x hx ox).imp id fun e b hb=>(e b hb).imp id fun z=>⟨z.1,by simp⟩⟩,by omega,hh.1,by omega⟩ (fun i σ He _ ⟨_,_,_,_,e,_⟩=>.of (e _ _ (KL.at' h hn))) ?_ ?_
  ·rintro i x σ He hx ⟨ks,us,v5,rfl,oe,kF,m_,gh,ul,gR,lt⟩
   obtain ⟨k,hk,rfl⟩:∃k:Nat,(g h)[i]?=some k∧x=.int (k:Int):=by
    rw [bP] at hx
    cases e:(g h)[i]? with
    | none=>rw [e] at hx;cases hx
    | some q=>rw [e] at hx;exact ⟨q,rfl,(Option.some.inj hx).symm⟩
   have km:k∈g h:=iX hk
   have kn:k<n:=gn h hn k km
   have tk:=take_snoc hk
   have Tx:=gh.pl.len
   dsimp only [aO]
   refine ⟨_,rfl,_,rfl,mt,_,rfl,.inl ⟨dk ks,Sum.inl (k:Int),.inl kF,rfl,rfl⟩,_,rfl,?_⟩
   rw [C9]
   by_cases jh:k∈ks
   ·rw [ae jh]
    refine fQ ⟨ks,us,_,rfl,oe,kF,m_,?_,ul,gR,lt⟩
    have w2:=gh.old jh
    refine ⟨w2.pl,w2.st,w2.rc,w2.wt,fun x hx ox=>(w2.cl x hx ox).imp id fun e b hb=>(e b hb).imp id fun z=>⟨z.1,fun q=>z.2 ?_⟩⟩
    rw [tk] at q
    exact (dg.mp q).imp id bY.mp
   ·rw [aa jh]
    refine wC ?_
    have al:=Ia jh
    have o4:∀b u,b≠mt→He b=some u→upd He mt (.dK (dk (b5 ks k))) b=some u:=fun b u ne e=>by rw [aP ne];exact e
    refine cq ⟨_,rfl,_,rfl,mt,upd He mt (.dK (dk (b5 ks k))),rfl,.inl ⟨dk ks,Sum.inl (k:Int),kF,rfl,by rw [xq];exact b4 (by omega),by rw [C8]⟩,?_⟩
    have rZ:upd He mt (.dK (dk (b5 ks k))) mt=some (.dK (dk (b5 ks k))):=au
    have ng:=DZ oe o4
    have jP:=o4 _ _ lm m_
    generalize upd He mt (.dK (dk (b5 ks k)))=H4 at o4 rZ ng jP ⊢
    have conv:∀{vs:List Nat},dQ n (fu n g) (·∈done) p (some h) (fun x=>x∈(g h).take i∨x=k) (b5 ks k) vs→dQ n (fu n g) (·∈done) p (some h) (·∈(g h).take (i+1)) (b5 ks k) vs:=fun w2=>⟨w2.pl,w2.st,w2.rc,w2.wt,fun x hx ox=>(w2.cl x hx ox).imp id fun e b hb=>(e b hb).imp id fun z=>⟨z.1,fun q=>z.2 (by
     rw [tk] at q
     exact (dg.mp q).imp id bY.mp)⟩⟩
    have Tz:=(gh.pl.add kn).len
    dsimp only
    refine ⟨_,rfl,_,rfl,d,_,rfl,.inl (.of (ng _ _ ed)),rfl,xt done,_,rfl,dc (fun hb=>?_) (fun hb=>?_)⟩
    ·have hb:iL (.int (k:Int)) (done.map fun k:Nat=>V.int (k:Int))=true:=hb
     rw [mZ,eY] at hb
     refine ⟨_,rfl,.inl ⟨rfl,_,.of jP⟩,_,rfl,l,_,_,rfl,rfl,jP,b4 (by rw [aD];omega),?_⟩
     have o5:∀b u,b≠l→H4 b=some u→upd H4 l (.lst ((us.map fun k:Nat=>V.int (k:Int))++[V.int (k:Int)])) b=some u:=fun b u ne e=>by rw [aP ne];exact e
     exact ⟨b5 ks k,us++[k],_,rfl,xP ng o5,o5 _ _ (Ne.symm lm) rZ,by rw [au,eN];rfl,conv (gh.new jh kn gR hh.2 ⟨hn,km⟩ (.inl ⟨hb,rfl⟩)),by rw [al,dh,kL];omega,gN.mpr (.inl gR),by rw [al,dh,kL];omega⟩
    ·have hb:¬iL (.int (k:Int)) (done.map fun k:Nat=>V.int (k:Int))=true:=hb
     rw [mZ,eY] at hb
     exact ⟨b5 ks k,us,_,rfl,ng,rZ,jP,conv (gh.new jh kn gR hh.2 ⟨hn,km⟩ (.inr ⟨hb,rfl⟩)),by rw [al];omega,gN.mpr (.inl gR),by rw [al];omega⟩
  ·rintro σ He ⟨ks,us,v5,rfl,oe,kF,m_,gh,ul,gR,lt⟩
   rw [aD,gp] at gh
   exact ⟨_,lt,ks,us,_,rfl,rfl,oe,kF,m_,gh.next fun b hb=>hb.2,ul⟩
 ·have w0:ws=[]:=by
   cases ws with
   | nil=>rfl
   | cons x r=>exact absurd rfl hz
  subst w0
  exact ⟨_,rfl,kk _ mt ks (oc.trans s3) iV (s3 _ _ xM) wk.pl wk.done⟩
theorem UY:bZ ["_law_shape","_law_order","_law_beside_here","_law_found","_law_k","_law_ahead","_law_met","_law_other"] ["_law_shape","_law_order"] (bf Az):=cC
theorem UZ(T:Txt K mg t):bJ P w K mg base cO 3 t.rC t.uN ["_law_shape","_law_order"] RM:=by
 have S:=UY;refine T.vh.dX S (fun _ _ _ _ H _ _ _ hr h=>?_);obtain ⟨tp,a,n,L,o,rfl,df,bj,qF,l2,ea,ho,kk⟩:=h;have hu:=gX (jU (show 1≤64 by decide) _) hr.units
 have lo:=lT ho;have nd:=oF ho;have lm:(o.map fun k:Nat=>V.int (k:Int)).length=n:=by rw [aD,lo]
 have U0:∀k,k<n→gz (o.map fun k:Nat=>V.int (k:Int)) (k:Int)=some (.int ((o.getD k 0:Nat):Int)):=fun k hk=>by
  refine oq ?_;rw [bP,bx (by omega),dB,bx (by omega)]
  rfl
 have K_:∀k,k<n→o.getD k 0<n∧o.idxOf (o.getD k 0)=k:=fun k hk=>by
  have e:o.getD k 0=o[k]'(by omega):=by simp [dB,show k<o.length by omega]
  rw [e];exact ⟨(fm ho).mp (cS _),xr nd _⟩
 refine ⟨_,(aB (putL 2 S.nd (a7 (Ex T) hr T.AM T.oT.kp T.AL bS (ai (pv 0) ao)))
  (aB (putL 3 S.nd (da ao))
  (aB (d_ dJ rfl (ju rfl T.fv (ai (aW dN (pv 0) aE) ao)) (cy (i:=4) S.nd rfl (Or.inl rfl))
   (aB (putL 5 S.nd (y4 B0 (pv 1) yY (yZ (pv 4))))
  (aB (putL 6 S.nd (a7 (UX T) hr T.JP T.vg.kp T.JO bS (ai (pv 2) (ai (pv 5) (ai (aW cL (pv 1) (pv 4)) ao)))))
  (aG (d_ dJ rfl (dM (y4 B0 (pv 1) (yZ (bb fb (pv 4) aE)) yY)) (cy (i:=7) S.nd rfl (Or.inl rfl))
   (aG (cU (BJ (HD hu (pv 7) (pv 6)) rfl) (aG (eO (gB fA jq jr gC (pv 3) (ai (gv (ai (b3 (FU rfl) rfl T.xK boot_min (ai (aW cL (pv 1) (pv 4)) (ai (pv 7) ao))) (ai (b3 (FT rfl) rfl T.DW boot_max (ai (aW cL (pv 1) (pv 4)) (ai (pv 7) ao))) ao))) ao)))) cT)))))))
  (aG (bI (gv (ai (aW dN (pv 0) aE) (ai (gx B3 rfl T.vp boot_tuple (ai (b3 Hi rfl T.oV pI (ai (pv 3) ao)) ao)) ao)))))))),?_⟩
 refine cI fun _ kC=>⟨_,rfl,tp,n,L,rfl,df,bj,by omega,by omega,fun H1 D rs g s1 nD A3 KL nb La _=>?_⟩
 have gn:∀i,i<n→∀j∈g i,j<n:=fun i hi j hj=>by
  rcases (nb i j hi).mp hj with e | e
  ·have:=bj _ e
   omega
  ·have:=bj _ e
   omega
 dsimp only [aO];refine kC _ _ ?_;refine cI fun _ jg=>⟨ba _,fun fd dF=>?_⟩;have s2:aj H1 (upd H1 fd (.lst [])):=aJ dF;have Lb:upd H1 fd (.lst []) fd=some (.lst []):=au;dsimp only [aO];refine jg _ _ ?_;generalize upd H1 fd (.lst [])=H2 at s2 Lb ⊢;have vB:H fd=none:=none_of s1 dF;have gT:=s1.trans s2;obtain ⟨lt,ZE,cN,elt,jA⟩:=id (df.mono gT);have U1:jc H2 D n rs g:=⟨s2 _ _ KL.lst,KL.inj,KL.ne,fun i hi=>s2 _ _ (KL.at' i hi)⟩;have Df:D≠fd:=fun z=>by rw [z] at KL;rw [KL.lst] at dF;cases dF
 have rf:∀i,i<n→rs i≠fd:=fun i hi z=>by have:=KL.at' i hi;rw [z,dF] at this;cases this
 refine cq ⟨_,rfl,tp,_,_,_,rfl,rfl,.of cN,rfl,_,rfl,by omega,by omega,?_⟩
 rw [cZ];refine n_ (fun k σ Hc=>∃(us:List V) (M:aw) (v4 v5 v6 v7:Option V),σ=[some (.ref tp),some (.ref a),some (.ref D),some (.ref fd),v4,v5,v6,v7]∧aj H Hc∧jc Hc D n rs g∧Hc fd=some (.lst us)∧bU Hc us M∧fU n L o k 0 M∧M.length≤k*30) ⟨[],[],_,_,_,_,rfl,gT,U1,Lb,bU.nil _,fU.start n L o,ba _⟩ ?_ ?_
 ·rintro k σ Hc hk ⟨us,M,v4,v5,v6,v7,rfl,sc,yd,ef,hU,fl,lM⟩
  obtain ⟨pn,ip⟩:=K_ k hk;have Bc:=U0 k hk;generalize o.getD k 0=p at pn ip Bc;have AX:=sc _ _ ea;dsimp only [aO];refine cI fun _ nE=>⟨_,rfl,_,rfl,_,rfl,a,_,rfl,.of AX,fun ah U2=>?_⟩;rw [kU];have cA:iJ (o.map fun k:Nat=>V.int (k:Int)) none (some (k:Int))=(o.take k).map fun k:Nat=>V.int (k:Int):=by rw [GF,List.map_take]
  rw [cA];have s3:aj Hc (upd Hc ah (.lst ((o.take k).map fun k:Nat=>V.int (k:Int)))):=aJ U2;have Lc:upd Hc ah (.lst ((o.take k).map fun k:Nat=>V.int (k:Int))) ah=some (.lst ((o.take k).map fun k:Nat=>V.int (k:Int))):=au;dsimp only [aO];refine nE _ _ ?_;generalize upd Hc ah (.lst ((o.take k).map fun k:Nat=>V.int (k:Int)))=H3 at s3 Lc ⊢;have su:=sc.trans s3;have U3:jc H3 D n rs g:=⟨s3 _ _ yd.lst,KL.inj,KL.ne,fun i hi=>s3 _ _ (yd.at' i hi)⟩;refine cI fun _ sC=>⟨_,rfl,_,rfl,_,rfl,_,rfl,a,_,_,_,rfl,rfl,.of (s3 _ _ AX),Bc,D,ah,n,rs,g,o.take k,p,rfl,U3,gn,Lc,by rw [me];omega,pn,by omega,fun H4 mt ks s4 iV U4 Kb gR=>?_⟩
  have nC:=su.trans s4;have Ld:=s3.trans s4;dsimp only [aO];refine sC _ _ ?_;refine ⟨_,rfl,_,rfl,_,_,rfl,rfl,_,rfl,a,_,rfl,.of (nC _ _ ea),fun bh Ez=>?_⟩;have cB:iJ (o.map fun k:Nat=>V.int (k:Int)) (some ((k:Int)+1)) none=(o.drop (k+1)).map fun k:Nat=>V.int (k:Int):=by
   have:=Q1 (o.map fun k:Nat=>V.int (k:Int)) (k+1) (by rw [lm];omega)
   rw [show ((k+1:Nat):Int)=(k:Int)+1 from rfl] at this;rw [this,List.map_drop]
  rw [cB];have s5:aj H4 (upd H4 bh (.lst ((o.drop (k+1)).map fun k:Nat=>V.int (k:Int)))):=aJ Ez;have EA:upd H4 bh (.lst ((o.drop (k+1)).map fun k:Nat=>V.int (k:Int))) bh=some (.lst ((o.drop (k+1)).map fun k:Nat=>V.int (k:Int))):=au;generalize upd H4 bh (.lst ((o.drop (k+1)).map fun k:Nat=>V.int (k:Int)))=H5 at s5 EA ⊢;have sD:=Ld.trans s5;have kG:=nC.trans s5;have vC:=sD _ _ ef;have Le:jc H5 D n rs g:=⟨sD _ _ yd.lst,KL.inj,KL.ne,fun i hi=>sD _ _ (yd.at' i hi)⟩;have U5:bh≠fd:=fun z=>by rw [z,Ld _ _ ef] at Ez;cases Ez
  have U6:mt≠fd:=fun z=>by rw [z,s3 _ _ ef] at iV;cases iV
  refine ⟨bh,rfl,⟨_,.of EA⟩,?_⟩;refine k_ (K:=K) (a:=bh) (xs:=(o.drop (k+1)).map fun k:Nat=>V.int (k:Int)) (fun j σ Hd=>∃(us:List V) (M:aw) (v7:Option V),σ=[some (.ref tp),some (.ref a),some (.ref D),some (.ref fd),some (.int (k:Int)),some (.ref ah),some (.ref mt),v7]∧(∀b u,b≠fd→H5 b=some u→Hd b=some u)∧Hd fd=some (.lst us)∧bU Hd us M∧fU n L o k j M∧M.length≤k*30+j) ⟨us,M,_,rfl,fun _ _ _ e=>e,vC,hU.mono sD,fl,lM⟩ (fun j σ Hd _ ⟨_,_,_,_,e,_⟩=>.of (e _ _ U5 EA)) ?_ ?_
  ·rintro j x σ Hd hx ⟨us,M,v7,rfl,od,eM,ye,fld,Lf⟩
   have hj:k+1+j<n:=by have:=(bM.mp hx).1;rw [aD,vK,lo] at this;omega
   obtain ⟨qn,iq⟩:=K_ (k+1+j) hj;have ex:x=.int ((o.getD (k+1+j) 0:Nat):Int):=by
    rw [bP,List.getElem?_drop,bx (by omega)] at hx
    rw [dB,bx (by omega)]
    exact (Option.some.inj hx).symm
   subst ex;generalize o.getD (k+1+j) 0=q at qn iq ⊢;have ne:q≠p:=fun e=>by subst e;omega
   have mw:=Rg ho nb bj (k:=k) (by omega) ne
   have U7:=od _ _ U6 (s5 _ _ U4);have Lg:Hd a=_:=od _ _ (fun z=>by rw [z,vB] at ea;cases ea) (kG _ _ ea)
   have lU:=ye.1;dsimp only [aO];refine ⟨_,rfl,_,rfl,mt,_,rfl,.inl ⟨dk ks,Sum.inl (q:Int),.inl U7,rfl,rfl⟩,_,rfl,?_⟩;rw [C9];by_cases qk:q∈ks
   ·rw [ae qk]
    have wq:=mw.mp ((gR q).mp qk);refine wC ?_;refine ⟨_,rfl,.inl ⟨rfl,_,.of eM⟩,_,rfl,_,rfl,a,_,_,_,rfl,rfl,.of Lg,Bc,_,rfl,_,_,rfl,_,rfl,_,rfl,a,_,_,_,rfl,rfl,.of Lg,Bc,_,rfl,_,_,rfl,by show 2≤sizeLine;decide,fun tq sj=>?_⟩
    have st:aj Hd (upd Hd tq (.tup [.int (dw p q).1,.int (dw p q).2])):=aJ sj;have oW:upd Hd tq (.tup [.int (dw p q).1,.int (dw p q).2]) tq=some (.tup [.int (dw p q).1,.int (dw p q).2]):=au;change ∃l xs u,_;refine ⟨fd,us,_,rfl,rfl,st _ _ eM,b4 (by omega),us++[.ref tq],M++[dw p q],_,rfl,fun b u nb e=>by rw [aP nb];exact st _ _ (od b u nb e),au,?_,fld.put ho pn qn ip iq wq,by rw [dh];simp;omega⟩
    exact ((ye.mono st).push oW).b8 (st _ _ eM) fun b o nb e=>by rw [aP nb];exact e
   ·rw [aa qk]
    have wq:¬Wk (aL n L) (cX n o k) p q:=fun h=>qk ((gR q).mpr (mw.mpr h));exact fQ ⟨us,M,_,rfl,od,eM,ye,fld.skip ho pn qn ip iq wq,by omega⟩
  ·rintro σ Hd ⟨us,M,v7,rfl,od,eM,ye,fld,Lf⟩
   rw [aD,vK,lo] at fld Lf;exact ⟨us,M,_,_,_,_,rfl,fun b u e=>od b u (fun z=>by rw [z,vB] at e;cases e) (kG _ _ e),⟨od _ _ Df Le.lst,KL.inj,KL.ne,fun i hi=>od _ _ (rf i hi) (Le.at' i hi)⟩,eM,ye,fld.row ho (by omega),by rw [Nat.add_mul];omega⟩
 ·rintro σ Hc ⟨us,M,v4,v5,v6,v7,rfl,sc,yd,ef,hU,fl,lM⟩
  obtain ⟨lt',K8,U8,ZF,ZG⟩:=id (df.mono sc);have ZH:M.length≤900:=a9 lM (by omega)
  dsimp only;refine ⟨_,rfl,tp,_,_,_,rfl,rfl,.of U8,rfl,_,rfl,?_⟩;dsimp only [wd];refine Q_ ef hU (by omega) (fl.bd (by omega)) fun l' ws N H3 s3 qC oE hN pN oN=>?_
  refine ⟨l',ws,rfl,.inl ⟨.of oE,fun lt Ej=>?_⟩⟩;have f9:aj H3 (upd H3 lt (.tup ws)):=aJ Ej;have Lh:upd H3 lt (.tup ws) lt=some (.tup ws):=au;generalize upd H3 lt (.tup ws)=Hd at f9 Lh ⊢;refine ⟨by show 2≤sizeLine;decide,fun tq sj=>?_⟩
  have st:aj Hd (upd Hd tq (.tup [.int (n:Int),.ref lt])):=aJ sj;exact kk _ tq N ((sc.trans s3).trans (f9.trans st)) ⟨lt,ws,au,st _ _ Lh,(hN.mono f9).mono st⟩ (fl.done ho pN oN (by omega))
theorem U9:bZ ["_law_shape","_law_beside_here","_law_many","_law_i","_law_j"] ["_law_shape"] (bf AA):=cC
theorem Li(T:Txt K mg t):bJ P w K mg base cO 2 t.rD t.uO ["_law_shape"] RH:=by
 have S:=U9;refine T.rV.dX S (fun _ _ _ _ H _ _ _ hr h=>?_);obtain ⟨tp,n,L,rfl,df,nd,lt,qF,l5,kk⟩:=h;have fV:=hr.units;have hu:=hr.MU;have bj:eX n L:=fun p hp=>by have:=lt p hp;exact ⟨this.1,by omega,by omega,this.2.2⟩
 refine ⟨_,(aB (wK 1 S.nd (a7 (Ex T) hr T.AM T.oT.kp T.AL bS (ai (pv 0) ao)))
  (aB (putL 2 S.nd aE)
  (aB (d_ dJ rfl (BO (aW dN (pv 0) aE)) (pW rfl (iI (cy (i:=3) S.nd rfl (Or.inl rfl)) (iI (cy (i:=4) S.nd rfl (Or.inr rfl)) pV)))
   (aG (putL 2 S.nd (bb fb (pv 2) (b3 gA rfl T.fI fN (ai (hE (N:=["_law_k","_law_j","_law_beside_here"]) (ρ:=(fun σ=>[σ[4]?.join,σ[1]?.join])) (fh [4,1] rfl) rfl (dM (aW cL (pv 1) (pv 3))) (fun _ _ _=>(.one (PW.pt (pw_and (cz oj (pv 0) (pv 1)) (pw_and1 (om (H_ (K:=K)) (pv 0) (aW (zo (K:=K)) (pv 2) (pv 1)) rfl)))))) (fun _ _ _=>(pv 0))) ao))))))
  (aG (bI (pv 2)))))),?_⟩
 refine cq ⟨_,rfl,tp,n,L,rfl,df,bj,by omega,l5,fun H1 D rs g s1 nD A3 KL nb gl gn=>?_⟩
 have gn:=gn (fun p hp=>(lt p hp).2.1) nd;dsimp only [aO];obtain ⟨lk,us,cN,elt,hL⟩:=id (df.mono s1);refine cq ⟨_,rfl,tp,_,_,_,rfl,rfl,.of cN,rfl,lk,rfl,⟨_,.of elt⟩,?_⟩;refine BP (K:=K) (a:=lk) (xs:=us) (fun k σ Hc=>∃(v3 v4:Option V),σ=[some (.ref tp),some (.ref D),some (.int (((L.take k).map (zQ n L)).sum:Nat)),v3,v4]∧aj H1 Hc) ⟨_,_,rfl,aj.refl _⟩ (fun k σ Hc _ ⟨_,_,_,sc⟩=>.of (sc _ _ elt)) ?_ ?_
 ·rintro k x σ Hc hx ⟨v3,v4,rfl,sc⟩
  have hk:k<L.length:=by rw [←hL.1];exact (bM.mp hx).1
  obtain ⟨b,rfl,eb⟩:=hL.2 k x L[k] hx (by simp [hk])
  have pk:=lt L[k] (cS hk);have tk:L.take (k+1)=L.take k++[L[k]]:=by rw [jo,bx hk];rfl
  generalize L[k]=p at eb pk tk;obtain ⟨p1,p2⟩:=p;dsimp only at pk eb;obtain ⟨i,rfl⟩:=fL pk.1;obtain ⟨j,rfl⟩:=fL (show 0≤p2 by omega)
  have hi:i<n:=by omega
  have hj:j<n:=by omega
  have fl:((g j).map fun k:Nat=>V.int (k:Int)).all jy=true:=by rw [mf];intro v hv;obtain ⟨q,_,rfl⟩:=cx.mp hv;rfl
  refine ⟨b,_,rfl,.of (sc _ _ eb),rfl,_,_,rfl,_,_,rfl,rfl,?_⟩;refine jB ⟨_,rfl,qq (zP (xs:=(g i).map fun k:Nat=>V.int (k:Int)) (zR j (g j)) (fun R h=>⟨_,rfl,_,rfl,D,_,_,_,rfl,rfl,.of (sc _ _ KL.lst),ko hi,rs i,rfl,⟨_,.of (sc _ _ (KL.at' i hi))⟩,h _ _ (aj.refl _) (iP (.of (sc _ _ (KL.at' i hi))))⟩) (b4 (by rw [aD];have:=gl i;omega)) ?_ (fun x Hx R h=>⟨_,rfl,h⟩) fun l H2 nl s2 el=>?_)⟩
  ·intro x si Hd R sd kR
   obtain ⟨q,hq,rfl⟩:=cx.mp si;have Bd:=sc.trans sd;refine ⟨_,rfl,_,rfl,_,_,rfl,rfl,_,rfl,dc (fun hc=>?_) (fun hc=>?_)⟩
   ·refine ⟨_,rfl,_,rfl,_,rfl,D,_,_,_,rfl,rfl,.of (Bd _ _ KL.lst),ko hj,rs j,_,rfl,.inl (.of (Bd _ _ (KL.at' j hj))),rfl,fl,_,rfl,?_⟩
    rw [show zR j (g j) (.int (q:Int))=iL (.int (q:Int)) ((g j).map fun k:Nat=>V.int (k:Int)) from by rw [mZ];have:(j:Int)<(q:Int):=fz hc;show (decide ((j:Int)<(q:Int)) && decide (((q:Nat):Int).toNat∈g j))=_;rw [bQ this,cZ,sX]] at kR
    exact kR
   ·rw [show zR j (g j) (.int (q:Int))=false from by
     have:¬(j:Int)<(q:Int):=fun z=>by rw [bQ z] at hc;exact hc rfl
     show (decide ((j:Int)<(q:Int)) && decide (((q:Nat):Int).toNat∈g j))=_;rw [bW this,vG]] at kR
    exact kR
  ·refine ⟨l,_,rfl,.inl (.of el),_,_,rfl,rfl,some (.int (i:Int)),some (.int (j:Int)),?_,sc.trans s2⟩
   rw [tk,eN,List.sum_append,List.map_singleton,List.sum_singleton,RL nb gn hi hj (fun k hk=>by rcases (nb i k hi).mp hk with e | e <;> (have:=bj _ e;omega))]
   push_cast
   rfl
 ·rintro σ Hc ⟨v3,v4,rfl,sc⟩
  rw [hL.1,gp,show (L.map (zQ n L)).sum=l6 n L from Ry nd lt];exact ⟨_,rfl,kk _ (s1.trans sc)⟩
theorem U_:bZ ["_law_shape","_law_order","_law_full"] ["_law_shape","_law_order"] (bf AE):=cC
theorem Lj(T:Txt K mg t):bJ P w K mg base cO 4 t.rG t.uR ["_law_shape","_law_order"] SH:=by
 have S:=U_;refine T.rW.dX S (fun _ _ _ _ H _ Q _ hr h=>?_);obtain ⟨tp,a,n,L,o,rfl,df,bj,qF,l5,ea,ho,kk⟩:=h
 refine ⟨_,(aB (putL 2 S.nd (a7 (UZ T) hr T.JR T.vh.kp T.JQ bS (ai (pv 0) (ai (pv 1) ao))))
  (aG (bI (bb fb (bb fb (bb g7 aE (b3 gA rfl T.fI fN (ai (aW dN (pv 2) aE) ao))) (bb g7 aE (a7 (Li T) hr T.DT T.rV.kp T.DS bS (ai (pv 2) ao)))) (aW dN (pv 2) aE))))),?_⟩
 refine cq ⟨_,rfl,_,rfl,tp,a,n,L,o,rfl,df,bj,qF,l5,ea,ho,fun H1 t1 M s1 Ll fs=>?_⟩;dsimp only [aO];obtain ⟨lk,us,cN,elt,hL⟩:=id Ll;have go:∀{H2:Hp} {v:V},aj H1 H2→v=.int (gP n M:Int)→Q v H2:=fun s2 e=>e▸kk _ M (s1.trans s2) fs;refine ⟨_,rfl,t1,_,_,_,rfl,rfl,.of cN,rfl,lk,_,rfl,.inr (.of elt),_,_,rfl,rfl,.inl ⟨by decide,by decide⟩,_,rfl,t1,n,M,rfl,Ll,Iw fs,fs.lt,qF,a9 (RN fs qF) (by decide),fun H2 s2=>?_⟩
 refine ⟨_,_,rfl,rfl,.inl ⟨by decide,by decide⟩,_,_,rfl,rfl,_,rfl,t1,_,_,_,rfl,rfl,.of (s2 _ _ cN),rfl,_,_,rfl,rfl,go s2 ?_⟩
 show V.int (4*(us.length:Int)+2*(l6 n M:Int)+(n:Int))=_;unfold gP;rw [hL.1]
 push_cast
 rfl
theorem Va:bZ ["shape","done","worth_of"] ["shape","done","worth_of"] (bf An):=cC
theorem Vb(T:Txt K mg t):bJ P w K mg base (fg P w) 4 t.rb t.uB ["shape","done","worth_of"] SQ:=by
 have S:=Va;refine T.u9.eC S (fun _ _ _ _ H _ _ _ hr h L=>?_);obtain ⟨tp,d,wo,n,Lk,done,kvs,W,rfl,df,bj,n9,ed,hd,l9,hW,Vc,kk⟩:=h;have D_:=gX (jU (show 1≤64 by decide) _) hr.units
 have ll:(bo n done).length≤9:=a9 (mq _ _) (by rw [dt];exact n9)
 refine ⟨_,(aG (bI (b3 (zg (K:=K) rfl) rfl T.xJ boot_all (ai (GJ (N:=["total","place","worth_of","done"]) (ρ:=(fun σ=>[σ[2]?.join,σ[1]?.join])) (GI [2,1] rfl) rfl (dM (a7 (D9 T) hr T.AK T.oS.kp T.AJ (lF L) (ai (pv 0) (ai (pv 1) (ai (pv 2) ao))))) (fun _ _ _=>.nil) (fun _ _ _=>(mL FQ (t5 D_ (pv 2) (pv 3) (fun _ _=>rfl)) (pv 0)))) ao)))),?_⟩;refine wO (SO (SN (Z:=(bo n done).map fun p=>(cR n Lk done p+W (aZ done p),(p:Int))) (fun z=>.bl (decide (W done≤z.1))) (fun R h=>?_) (b4 (by rw [aD];omega)) (fun z _ Hc R sc kR=>?_) fun D3 H4 TV s4 sk=>?_))
 ·refine ⟨_,rfl,_,rfl,_,rfl,tp,d,wo,n,Lk,done,kvs,W,rfl,df,bj,n9,ed,hd,l9,hW,fun H3 Dc ys s3 nj ch=>?_⟩
  exact ⟨Dc,rfl,⟨_,.of nj⟩,h _ _ s3 (IK nj (Dy ch))⟩
 ·refine ⟨_,rfl,_,rfl,wo,_,rfl,Vc▸gM.t (k:=cY done) (sc _ _ l9) (by rw [sc _ _ ed];unfold cY;rw [cm];rfl),_,rfl,_,_,rfl,rfl,kR⟩
 ·refine ⟨D3,((bo n done).map fun p=>decide (W done≤cR n Lk done p+W (aZ done p))),rfl,.of (by rw [sk,cm,cm];rfl),?_⟩
  have e:((bo n done).map fun p=>decide (W done≤cR n Lk done p+W (aZ done p))).all id=qJ n Lk W done:=by
   unfold qJ;rw [nF,mf,eY];constructor
   ·intro h p hp
    exact fz (h _ (cx.mpr ⟨p,hp,rfl⟩))
   ·intro h b hb
    obtain ⟨p,hp,rfl⟩:=cx.mp hb;exact bQ (h p hp)
  rw [e];exact kk _ s4
theorem Vd:bZ ["shape","order","worths","many","tuples"] ["shape","order","worths"] (bf Ao):=cC
theorem Ve(T:Txt K mg t):bJ P w K mg base (fg P w) 6 t.rd t.uC ["shape","order","worths"] (S2 t.l8):=by
 have S:=Vd
 refine T.u_.eC S (fun _ _ _ _ H _ Q _ hr h L=>?_)
 obtain ⟨tp,a,wo,n,Lk,o,qs,W,rfl,df,bj,oP,n9,ea,ho,l9,pq,kk⟩:=h
 have hu:=gX (jU (show 1≤64 by decide) _) hr.units
 have lo:=lT ho
 have Kl:(a_ n).length≤512:=by
  rw [xD]
  exact a9 (vO (by decide) n9) (by decide)
 have oX:∀q,q∈a_ n→eW (wD W qs) (cY q)=some (.int (W q)):=fun q hq=>xH _ (pq.mem_iff.mpr hq)
 have lw:(wD W qs).length=(a_ n).length:=by unfold wD;rw [aD,pq.length_eq]
 refine ⟨_,(aB (eO (a7 (DX T) hr T.AI T.oR.kp T.AH (lF L) (ai (pv 0) ao)))
  (aB (putL 3 S.nd (a7 (Um T) hr T.Ju T.u0.kp T.Jt (lF L) (ai (pv 0) (ai (pv 1) ao))))
  (aB (putL 4 S.nd (a7 (Kj T) hr T.DI T.rO.kp T.DH bS (ai (aW dN (pv 0) aE) ao)))
  (aB (cU (PW.pt (pw_or (cz mK (b3 SM rfl T.fI fN (ai (pv 2) ao)) (b3 gA rfl T.fI fN (ai (pv 4) ao))) (pw_or1 (pQ (kZ (b3 (zg (K:=K) rfl) rfl T.xJ boot_all (ai (hE (N:=["done","worths"]) (ρ:=(fun σ=>[σ[2]?.join])) (fh [2] rfl) rfl (dM (pv 4)) (fun _ _ _=>.nil) (fun _ _ _=>(Mc (HD hu (pv 0) (pv 1)) rfl))) ao))))))) (aG (bI fD)) cT)
  (aB (cU (PW.pt (pw_or (cz oj (t5 hu (pv 2) (gx (S1 rfl) rfl T.vp boot_tuple (ai (gx tP rfl T.fv tQ (ai (aW dN (pv 0) aE) ao)) ao)) (fun _ _=>rfl)) aE) (pw_or1 (cz mK (t5 hu (pv 2) (gv ao) (fun _ _=>rfl)) (pv 3))))) (aG (bI fD)) cT)
  (aG (bI (b3 (zg (K:=K) rfl) rfl T.xJ boot_all (ai (hE (N:=["done","shape","worths"]) (ρ:=(fun σ=>[σ[0]?.join,σ[2]?.join])) (fh [0,2] rfl) rfl (dM (pv 4)) (fun _ _ _=>.nil) (fun _ _ _=>(a7 (Vb T) hr T.JA T.u9.kp T.Jz tK (ai (pv 1) (ai (pv 0) (ai (pv 2) ao)))))) ao))))))))),?_⟩
 refine ⟨_,rfl,tp,n,Lk,rfl,df,n9,?_⟩
 refine ⟨_,rfl,_,rfl,tp,a,n,Lk,o.map iN,rfl,df,bj,oP,by omega,by rw [ea,cm];rfl,by rw [aD];omega,fun no=>absurd (ho.map iN) no,fun o' e' nZ H1 s1 d hd=>?_⟩
 have eo:o'=o:=by
  have:=d8 (List.map Int.toNat) e'
  rw [cm,cm] at this
  have Lm:∀l:List Nat,l.map (Int.toNat ∘ iN)=l:=fun l=>by
   conv=>rhs;rw [←sV l]
   exact iF fun k _=>cZ k
  rw [Lm,Lm] at this
  exact this.symm
 subst eo
 dsimp only [aO]
 obtain ⟨lt,us,cN,elt,jA⟩:=id (df.mono s1)
 refine ⟨_,rfl,tp,_,_,_,rfl,rfl,.of cN,rfl,n,rfl,n9,fun Dx xs H2 s2 TQ vv tu=>?_⟩
 have gT:=s1.trans s2
 dsimp only [aO]
 refine cq ⟨_,rfl,wo,_,rfl,gT _ _ l9,by omega,_,rfl,Dx,xs,rfl,.inl (.of vv),rfl,_,rfl,dc (fun hb=>?_) (fun _=>?_)⟩
 ·rw [lw,tu.1,mP,bQ rfl] at hb
  cases hb
 dsimp only [g6]
 have lx:xs.length=(a_ n).length:=tu.1
 have Ln:∀(i:Nat) (x:V),xs[i]?=some x→∃q b,(a_ n)[i]?=some q∧q∈a_ n∧x=V.ref b∧H2 b=some (.tup (q.map fun k:Nat=>V.int (k:Int))):=fun i x hx=>by
  have hi:i<(a_ n).length:=by
   rw [←lx]
   exact (bM.mp hx).1
  obtain ⟨b,e,g⟩:=tu.2 i x _ hx (bx hi)
  exact ⟨_,b,bx hi,cS hi,e,g⟩
 refine qq (ou (xs:=xs) (fun R h=>⟨_,rfl,Dx,rfl,⟨_,.of vv⟩,h _ _ (aj.refl _) (iP (.of vv))⟩) (b4 (by omega)) (fun _ i y _=>y=.bl true) (fun _ _ _ _ _ _ h _ _=>h) ?_ ?_)
 ·intro Dd i x hx Hz R sz _ kz
  obtain ⟨q,b,jN,qm,rfl,eb⟩:=Ln i x hx
  refine ⟨_,rfl,_,rfl,wo,_,rfl,(oX q qm)▸gM.t (k:=cY q) ((gT.trans sz) _ _ l9) (by rw [sz _ _ eb];unfold cY;rw [cm];rfl),?_⟩
  exact kz _ _ (aj.refl _) rfl
 ·intro Dd ys H3 D8 s3 nh ni r6
  have ey:ys=(List.replicate ys.length true).map V.bl:=by
   refine gY (by simp) fun i h1 h2=>?_
   rw [fX,List.getElem_replicate]
   exact ni i _ (bx h1)
  have fJ:=gT.trans s3
  refine ⟨Dd,_,rfl,.of (by rw [r6,ey]),true,?_,fQ ?_⟩
  ·rw [show (List.replicate ys.length true).all id=true from by simp]
  have EB:∀{Hx:Hp} {b:Bool},aj H Hx→b=qK n Lk W d→Q (.bl b) Hx:=fun sx e=>e▸kk _ d sx hd
  have Vf:=(s2.trans s3) _ _ cN
  refine cq ⟨_,rfl,_,rfl,tp,_,_,_,rfl,rfl,.of Vf,rfl,(n:Int),rfl,fun q1 l_=>⟨q1,n,rfl,au,by omega,fun tq sj=>?_⟩⟩
  have s4:aj H3 (upd (upd H3 q1 (.dS 0 (n:Int))) tq (.tup (bT n))):=(aJ l_).trans (aJ sj)
  have oW:upd (upd H3 q1 (.dS 0 (n:Int))) tq (.tup (bT n)) tq=some (.tup (bT n)):=au
  generalize upd (upd H3 q1 (.dS 0 (n:Int))) tq (.tup (bT n))=H4 at s4 oW ⊢
  have oY:=fJ.trans s4
  refine ⟨wo,_,rfl,(oX (List.range n) (dR.mpr ⟨oJ n,fun x hx=>b7.mp hx⟩))▸gM.t (k:=cY (List.range n)) (oY _ _ l9) (by rw [oW];unfold cY bT;rw [cm];rfl),_,_,rfl,rfl,_,rfl,dc (fun hb=>?_) (fun hb=>?_)⟩
  ·refine EB oY ?_
   have hb:decide (0<W (List.range n))=true:=hb
   unfold qK
   rw [hb]
   rfl
  have hb:decide (0<W (List.range n))=false:=by
   cases z:decide (0<W (List.range n)) with
   | false=>rfl
   | true=>exact absurd z hb
  refine ⟨_,rfl,ba _,fun e0 xX=>?_⟩
  have s5:aj H4 (upd H4 e0 (.tup [])):=aJ xX
  have e5:upd H4 e0 (.tup []) e0=some (.tup []):=au
  generalize upd H4 e0 (.tup [])=H5 at s5 e5 ⊢
  have Be:=oY.trans s5
  refine ⟨wo,_,rfl,(oX [] (dR.mpr ⟨.nil,fun x h=>by cases h⟩))▸gM.t (k:=cY []) (Be _ _ l9) e5,_,rfl,rfl,_,rfl,dc (fun hc=>?_) (fun hc=>?_)⟩
  ·refine EB Be ?_
   rw [mP] at hc
   have e9:decide (W []=(d:Int))=false:=by
    cases z:decide (W []=(d:Int)) with
    | false=>rfl
    | true=>rw [z] at hc;cases hc
   unfold qK
   rw [hb,e9]
   rfl
  have hc:decide (W []=(d:Int))=true:=by
   rw [mP] at hc
   cases z:decide (W []=(d:Int)) with
   | true=>rfl
   | false=>rw [z] at hc;exact absurd rfl hc
  have sD:=s3.trans (s4.trans s5)
  have Lo:=sD _ _ vv
  dsimp only [g6]
  refine wO (qq (ou (xs:=xs) (fun R h=>⟨_,rfl,Dx,rfl,⟨_,.of Lo⟩,h _ _ (aj.refl _) (iP (.of Lo))⟩) (b4 (by omega)) (fun _ i y _=>∀q,(a_ n)[i]?=some q→y=.bl (qJ n Lk W q)) (fun _ _ _ _ _ _ h _ _=>h) ?_ ?_))
  ·intro De i x hx Hz R sz _ kz
   obtain ⟨q,b,jN,qm,rfl,eb⟩:=Ln i x hx
   have vt:=Be.trans sz
   obtain ⟨m1,m2⟩:=dR.mp qm
   refine ⟨_,rfl,_,rfl,_,rfl,tp,b,wo,n,Lk,q,_,W,rfl,df.mono vt,bj,n9,(sD.trans sz) _ _ eb,qm,vt _ _ l9,(fun p pn pd=>oX _ (dR.mpr ⟨oO m1 pd,fun x hx=>by
    rcases ky.mp hx with rfl | hx
    ·exact pn
    ·exact m2 x hx⟩)),oX q qm,fun H6 s6=>kz _ _ s6 fun r hr=>?_⟩
   rw [jN] at hr
   cases hr
   rfl
  ·intro De zs H6 ZI s6 Er Es Vg
   refine ⟨De,(a_ n).map (qJ n Lk W),rfl,.of ?_,EB (Be.trans s6) ?_⟩
   ·rw [Vg]
    congr 2
    refine gY (by rw [Er,lx,aD,aD]) fun i h1 h2=>?_
    have hi:i<(a_ n).length:=by simpa using h2
    rw [fX,fX]
    exact Es i _ (bx h1) _ (bx hi)
   ·unfold qK
    rw [hb,hc,List.all_map]
    rfl
theorem Vh:bZ ["_law_beside_here","_law_left","_law_found","_law_place","_law_some","_law_bad"] ["_law_beside_here","_law_left"] (bf AB):=cC
theorem Vi(T:Txt K mg t):bJ P w K mg base cO 1 t.rE t.uP ["_law_beside_here","_law_left"] S6:=by
 have S:=Vh;refine T.vi.dX S (fun _ _ _ _ H _ _ _ hr h=>?_);obtain ⟨D,lf,n,rs,g,zs,rfl,KL,gn,gl,xR,zn,z1,kk⟩:=h;have fV:=hr.units
 refine ⟨_,(aB (putL 2 S.nd (da ao))
  (aB (d_ dJ rfl (dM (pv 1)) (cy (i:=3) S.nd rfl (Or.inl rfl))
   (aB (wK 4 S.nd (hE (N:=["_law_other","_law_left"]) (ρ:=(fun σ=>[σ[1]?.join])) (fh [1] rfl) rfl (dM (aW cL (pv 0) (pv 3))) (fun _ _ _=>(.one (om (H_ (K:=K)) (pv 0) (pv 1) rfl))) (fun _ _ _=>(pv 0))))
  (aB (OR (i0:=5) (N:=["_law_one","_law_some","_law_beside_here"]) (ρ:=(fun σ=>[σ[4]?.join,σ[0]?.join])) ⟨rfl,rfl,(fun _=>rfl),(fun _=>rfl),by decide +kernel,(ym.mpr ⟨rfl,(ym.mpr ⟨rfl,(List.forall_mem_nil _)⟩)⟩),OM (by rfl),rfl,by decide +kernel,rfl,(fun σ j v h=>match j,h with | 0,h=>⟨4,_,rfl,rfl,join_some h,Or.inr (Or.inl rfl),.inl rfl,.inl rfl⟩ | 1,h=>⟨0,_,rfl,rfl,join_some h,Or.inr (Or.inl rfl),.inl rfl,.inl rfl⟩ | j+2,h=>by cases h),(fun _ _=>rfl)⟩ rfl S.nd rfl (Or.inl rfl) (dM (pv 4)) (fun _ _ _=>(.one (cz (Rm (K:=K) fV) (hE (N:=["_law_other","_law_one","_law_beside_here"]) (ρ:=(fun σ=>[σ[0]?.join,σ[2]?.join])) (fh [0,2] rfl) rfl (OY (K:=K) (pv 1)) (fun _ _ _=>(.one (PW.pt (pw_and (cz mK (pv 0) (pv 1)) (pw_and1 (om (Di (K:=K)) (pv 0) (aW (zo (K:=K)) (pv 2) (pv 1)) rfl)))))) (fun _ _ _=>(pv 0))) (da ao)))) (fun _ _ _=>(pv 0)))
  (aG (cU (cz (Dg fV) (pv 5) (da ao)) (aG (eO (gB fA jq jr gC (pv 2) (ai (pv 3) ao)))) cT)))))
  (aG (bI (pv 2))))),?_⟩
 refine cq ⟨ba _,fun fd dF=>?_⟩;have s1:aj H (upd H fd (.lst [])):=aJ dF;have Lp:upd H fd (.lst []) fd=some (.lst []):=au;dsimp only [aO];generalize upd H fd (.lst [])=H1 at s1 Lp ⊢;refine cq ⟨_,rfl,lf,rfl,⟨_,.of (s1 _ _ xR)⟩,?_⟩;refine k_ (K:=K) (a:=lf) (xs:=zs.map fun k:Nat=>V.int (k:Int)) (fun k σ Hc=>∃(v3 v4 v5:Option V),σ=[some (.ref D),some (.ref lf),some (.ref fd),v3,v4,v5]∧aj H Hc∧Hc fd=some (.lst (((zs.take k).filter (jO g zs)).map fun k:Nat=>V.int (k:Int)))) ⟨_,_,_,rfl,s1,Lp⟩ (fun k σ Hc _ ⟨_,_,_,_,sc,_⟩=>.of (sc _ _ xR)) ?_ ?_
 ·rintro k x σ Hc yf ⟨v3,v4,v5,rfl,sc,ef⟩
  rw [bP] at yf;have hk:k<zs.length:=by
   rcases Nat.lt_or_ge k zs.length with h | h;·exact h
   ·rw [Bv h] at yf
    cases yf
  rw [bx hk] at yf;cases yf;have pz:zs[k]∈zs:=cS hk;have tk:zs.take (k+1)=zs.take k++[zs[k]]:=by rw [jo,bx hk];rfl
  generalize zs[k]=p at pz tk ⊢;have pn:=zn p pz;have Lq:=sc _ _ (KL.at' p pn);dsimp only [aO];refine cq (jB (zP (xs:=(g p).map fun k:Nat=>V.int (k:Int)) (fun v=>iL v (zs.map fun k:Nat=>V.int (k:Int))) (fun R h=>⟨_,rfl,_,rfl,D,_,_,_,rfl,rfl,.of (sc _ _ KL.lst),ko pn,rs p,rfl,⟨_,.of Lq⟩,h _ _ (aj.refl _) (iP (.of Lq))⟩) (b4 (by rw [aD];have:=gl p pn;omega)) ?_ (fun x Hx R h=>⟨_,rfl,h⟩) fun l H2 nl s2 el=>?_))
  ·intro x si Hd R sd kR
   obtain ⟨j,hj,rfl⟩:=cx.mp si;exact ⟨_,rfl,_,rfl,lf,_,rfl,.inl (.of (sd _ _ (sc _ _ xR))),rfl,xt _,_,rfl,kR⟩
  rw [Dz,show ((g p).filter fun k:Nat=>iL (.int (k:Int)) (zs.map fun k:Nat=>V.int (k:Int)))=m6 g zs p from List.filter_congr fun k _=>mZ ..] at el;have sn:∀a∈m6 g zs p,a<n:=fun a ha=>gn p pn a (cu.mp ha).1;have ls:(m6 g zs p).length≤900:=a9 (mq ..) (gl p pn);dsimp only [aO];refine cq (jB (S3 (xs:=(m6 g zs p).map fun k:Nat=>V.int (k:Int)) (fun v=>!(ua g zs p (mX v)).isEmpty) (fun R h=>⟨_,rfl,l,rfl,⟨_,.of el⟩,h _ _ (aj.refl _) (iP (.of el))⟩) (b4 (by rw [aD];omega)) ?_ (fun x Hx R h=>⟨_,rfl,h⟩) fun l' H3 qC s3 oE=>?_))
  ·intro x si Hd R sd kR
   obtain ⟨j,hj,rfl⟩:=cx.mp si;have jn:=sn j hj;have Bd:=(sc.trans s2).trans sd;dsimp only [BU,og];refine zP (xs:=(m6 g zs p).map fun k:Nat=>V.int (k:Int)) (fun v=>!decide (mX v=j) && !decide (mX v∈g j)) (fun R h=>⟨_,rfl,l,rfl,⟨_,.of (sd _ _ el)⟩,h _ _ (aj.refl _) (iP (.of (sd _ _ el)))⟩) (b4 (by rw [aD];omega)) ?_ (fun x Hx R h=>⟨_,rfl,h⟩) fun l3 H7 ZJ s7 Vj=>?_
   ·intro y Vk He R se kR
    obtain ⟨j',dY,rfl⟩:=cx.mp Vk;have oZ:=Bd.trans se;refine ⟨_,rfl,_,rfl,rfl,_,rfl,dc (fun hc=>?_) (fun hc=>?_)⟩
    ·refine ⟨_,rfl,_,rfl,_,rfl,D,_,_,_,rfl,rfl,.of (oZ _ _ KL.lst),ko jn,rs j,_,rfl,.inl (.of (oZ _ _ (KL.at' j jn))),rfl,xt _,_,rfl,?_⟩
     rw [mZ];have e9:¬j'=j:=fun e=>by subst e;exact absurd hc (by simp [mP])
     have:=kR;simp only [I0,bW e9,Bool.not_false,sX] at this;exact this
    ·have e9:j'=j:=by
      by_cases e:(j':Int)=(j:Int);·omega
      ·exact absurd (by simp [mP,e]) hc
     have:=kR;simp only [I0,bQ e9,Bool.not_true,vG] at this;exact this
   ·refine ⟨ba _,fun p' np=>⟨l3,p',_,rfl,rfl,.of (aJ np _ _ Vj),au,_,rfl,?_⟩⟩
    have:=kR _ (s7.trans (aJ (o:=.lst []) np));rw [Dz,List.isEmpty_map];exact this
  have su:=sc.trans (s2.trans s3);have Vl:=(s2.trans s3) _ _ ef;rw [Dz] at oE;dsimp only [aO];refine ⟨_,rfl,ba _,fun e ne=>?_⟩;have se:aj H3 (upd H3 e (.lst [])):=aJ ne;have ee:upd H3 e (.lst []) e=some (.lst ([]:List V)):=au;generalize upd H3 e (.lst [])=H4 at se ee ⊢;have sE:=se _ _ Vl;have jP:=se _ _ oE;have tU:jO g zs p=((m6 g zs p).filter fun k:Nat=>!(ua g zs p (mX (.int (k:Int)))).isEmpty).isEmpty:=rfl;generalize ((m6 g zs p).filter fun k:Nat=>!(ua g zs p (mX (.int (k:Int)))).isEmpty)=bs at jP tU;refine ⟨l',e,bs.map iN,[],rfl,rfl,.of (by rw [cm];exact jP),.of ee,_,rfl,dc (fun hb=>?_) (fun hb=>?_)⟩
  ·have b0:bs=[]:=by
    have:=fz hb;cases bs with
    | nil=>rfl
    | cons=>cases this
   subst b0;refine ⟨_,rfl,.inl ⟨rfl,_,.of sE⟩,_,rfl,fd,_,_,rfl,rfl,sE,b4 (by rw [aD];have:=mq (jO g zs) (zs.take k);rw [me] at this;omega),_,_,_,rfl,d7 (su.trans se) dF,?_⟩
   rw [au,tk,pE,nR,ae (show jO g zs p=true from tU),eN];rfl
  ·refine ⟨_,_,_,rfl,su.trans se,?_⟩
   have b0:jO g zs p=false:=by
    rw [tU];cases bs with
    | nil=>exact absurd (bQ rfl) hb
    | cons=>rfl
   rw [sE,tk,pE,nR,b0];simp
 ·rintro σ Hc ⟨v3,v4,v5,rfl,sc,ef⟩
  rw [aD,gp] at ef;exact ⟨_,rfl,kk _ _ sc dF ef⟩
theorem Vm:bZ ["_law_pen","_law_shape","_law_beside_here","_law_left","_law_found","_law_some"] ["_law_pen","_law_shape"] (bf AD):=cC
theorem Vn(T:Txt K mg t):bJ P w K mg base cO 3 t.rF t.uQ ["_law_pen","_law_shape"] (S9 K):=by
 have S:=Vm;refine T.vj.dX S (fun _ A _ _ H _ _ _ hr h=>?_);obtain ⟨P0,a,tp,ns,n,L,rfl,pc,hS,EC,df,pw,lt,n1,qF,l4,kN,kk⟩:=h;have fV:=hr.units;have bj:eX n L:=fun p hp=>by have:=lt p hp;exact ⟨this.1,by omega,by omega,this.2.2⟩
 have oP:qD L:=fun p hp=>by have:=lt p hp;omega
 refine ⟨_,(aB (putL 2 S.nd (a7 (Ex T) hr T.AM T.oT.kp T.AL bS (ai (pv 1) ao)))
  (aB (putL 3 S.nd (gx (wI rfl) rfl T.m8 boot_list (ai (gx tP rfl T.fv tQ (ai (aW dN (pv 1) aE) ao)) ao)))
  (aB (putL 4 S.nd (da ao))
  (aB (v_ dJ (cz (zK fV) (pv 3) (da ao)) (aB (putL 5 S.nd (a7 (Vi T) hr T.JT T.vi.kp T.JS bS (ai (pv 2) (ai (pv 3) ao))))
  (aB (cU (cz (Dg fV) (pv 5) (da ao)) (aG (bI Fv)) cT)
  (aB (eO (gB fA jq jr gC (pv 4) (ai (aW cL (pv 5) (a7 (jQ T) hr T.je T.gg.kp T.jd bS (ai (pv 0) (ai (b3 gA rfl T.fI fN (ai (pv 5) ao)) ao)))) ao)))
  (aG (eO (gB fA PySem.F.slot_list_remove PySem.F.type_list_remove Ri (pv 3) (ai (aW cL (pv 4) (ME MK aE)) ao))))))))
  (aG (bI (pv 4))))))),?_⟩
 refine cI fun _ kC=>⟨_,rfl,tp,n,L,rfl,df,bj,by omega,by omega,fun H1 D rs g s1 nD A3 KL nb La _=>?_⟩
 have gn:∀i,i<n→∀j∈g i,j<n:=fun i hi j hj=>by
  rcases (nb i j hi).mp hj with e | e
  ·have:=bj _ e
   omega
  ·have:=bj _ e
   omega
 have gl:∀i,i<n→(g i).length≤900:=fun i _=>a9 (La i) (by omega)
 have p1:=pc.mono s1;have DP:D≠P0:=pc.ne nD;have rP:∀i,i<n→rs i≠P0:=fun i hi=>pc.ne (A3 i hi);have yc:bt K (er P0 H1) a (ns.map V.int):=aj.seq (aF.of s1) hS;obtain ⟨lt',us,cN,elt,jA⟩:=id (df.mono s1);dsimp only [aO];refine kC _ _ ?_;refine cI fun _ jg=>⟨_,rfl,tp,_,_,_,rfl,rfl,.of cN,rfl,(n:Int),rfl,fun q1 l_=>⟨q1,n,rfl,au,by omega,fun l1 Lr=>?_⟩⟩
 have s2:aj H1 (upd (upd H1 q1 (.dS 0 (n:Int))) l1 (.lst (bT n))):=(aJ l_).trans (aJ Lr);have e1:upd (upd H1 q1 (.dS 0 (n:Int))) l1 (.lst (bT n)) l1=some (.lst ((List.range n).map fun k:Nat=>V.int (k:Int))):=by rw [au];rfl
 have Ls:H1 l1=none:=none_of (aJ l_) Lr;dsimp only [aO];refine jg _ _ ?_;generalize upd (upd H1 q1 (.dS 0 (n:Int))) l1 (.lst (bT n))=H2 at s2 e1 ⊢;refine cI fun _ nE=>⟨ba _,fun l2 r_=>?_⟩;have s3:aj H2 (upd H2 l2 (.lst [])):=aJ r_;have e2:upd H2 l2 (.lst []) l2=some (.lst (([]:List Nat).map fun k:Nat=>V.int (k:Int))):=au;have ED:H1 l2=none:=none_of s2 r_;have Vo:H l2=none:=none_of s1 ED;have Lu:l1≠P0:=p1.ne Ls;have EE:l2≠P0:=p1.ne ED;have Lv:l1≠l2:=fun z=>by rw [z,r_] at e1;cases e1
 dsimp only [aO];refine nE _ _ ?_;generalize upd H2 l2 (.lst [])=H3 at s3 e2 ⊢;have fJ:=s2.trans s3;refine cq ⟨fun m σ Hc=>∃(zs fs:List Nat) (v5:Option V),σ=[some (.ref P0),some (.ref tp),some (.ref D),some (.ref l1),some (.ref l2),v5]∧m=zs.length∧Hc l1=some (.lst (zs.map fun k:Nat=>V.int (k:Int)))∧Hc l2=some (.lst (fs.map fun k:Nat=>V.int (k:Int)))∧ub n g zs fs∧aF P0 H1 Hc∧bO Hc P0 a,⟨_,List.range n,[],_,rfl,rfl,s3 _ _ e1,e2,⟨by rw [o8],fun A x B e=>by cases A <;> cases e⟩,aF.of fJ,p1.mono fJ⟩,?_⟩
 rintro m σ Hc ⟨zs,fs,v5,rfl,rfl,ez,ef,pk,sc,p3⟩;have pm:=pk.pm;have ll:=pm.length_eq;rw [dh,dt] at ll;have zn:∀z∈zs,z<n:=fun z hz=>b7.mp (pm.mem_iff.mp (sG _ hz));have ZK:(zs.map fun k:Nat=>V.int (k:Int)).length=zs.length:=aD ..;refine ⟨_,rfl,ba _,fun le x5=>?_⟩;have s4:aj Hc (upd Hc le (.lst [])):=aJ x5;have e4:upd Hc le (.lst []) le=some (.lst []):=au;generalize upd Hc le (.lst [])=H4 at s4 e4 ⊢;have nC:=sc.trans (aF.of s4);have p4:=p3.mono s4;have vx:=s4 _ _ ez;have sE:=s4 _ _ ef;refine ⟨l1,le,_,rfl,rfl,.of vx,e4,_,rfl,dc (fun hz=>?_) (fun hz=>?_)⟩
 ·have z0:1≤zs.length:=by
   cases zs with
   | nil=>cases hz
   | cons=>simp
  have Vp:jc H4 D n rs g:=⟨nC.at DP KL.lst,KL.inj,KL.ne,fun i hi=>nC.at (rP i hi) (KL.at' i hi)⟩;refine ⟨_,fun _ _ h=>h,?_⟩;refine cq ⟨_,rfl,_,rfl,D,l1,n,rs,g,zs,rfl,Vp,gn,gl,vx,zn,by omega,fun H5 q s5 nq eq=>?_⟩
  have qP:q≠P0:=p4.ne nq;have kG:=nC.trans (aF.of s5);have p5:=p4.mono s5;have EF:=s5 _ _ vx;have vC:=s5 _ _ sE;dsimp only [aO];refine cI fun _ sC=>⟨_,rfl,ba _,fun e ne=>?_⟩;have se:aj H5 (upd H5 e (.lst [])):=aJ ne;have ee:upd H5 e (.lst []) e=some (.lst ([]:List V)):=au;generalize upd H5 e (.lst [])=ZL at se ee ⊢;generalize EG:zs.filter (jO g zs)=ws at eq;have wz:∀w∈ws,w∈zs∧jO g zs w=true:=fun w hw=>by rw [←EG] at hw;exact cu.mp hw
  have lw:ws.length≤zs.length:=by rw [←EG];exact mq ..
  refine ⟨q,e,ws.map iN,[],rfl,rfl,.of (by rw [cm];exact se _ _ eq),.of ee,_,rfl,dc (fun hb=>?_) (fun hb=>?_)⟩
  ·have w0:ws=[]:=by
    have:=fz hb;cases ws with
    | nil=>rfl
    | cons=>cases this
   subst w0;exact kN _ ((aF.of s1).trans (kG.trans (aF.of se))) (p5.mono se) fun o ho f=>S8 ho (SS ho f) oP nb (fun e=>by rw [e] at z0;cases z0) zn EG
  have w1:1≤ws.length:=by
   cases ws with
   | nil=>exact absurd (bQ rfl) hb
   | cons=>simp
  have kG:=kG.trans (aF.of se);have p5:=p5.mono se;have EF:=se _ _ EF;have vC:=se _ _ vC;have eq:=se _ _ eq;clear vx sE;dsimp only [g6];refine sC _ _ ?_;have ZM:(ws.map fun k:Nat=>V.int (k:Int)).length=ws.length:=aD ..;refine cq ⟨_,rfl,.inl ⟨rfl,_,.of vC⟩,_,rfl,_,rfl,_,rfl,q,_,rfl,.inl (.of eq),P0,a,ns,_,rfl,p5,aj.seq kG yc,by omega,fR.of_lt (by omega) (by omega),fun c H6 c0 c1 s6 p6=>?_⟩
  obtain ⟨i,rfl⟩:=fL c0;have iw:i<ws.length:=by omega
  have ej:(ws.map fun k:Nat=>V.int (k:Int))[i]?=some (.int (ws[i]:Nat)):=by rw [bP,bx iw];rfl
  obtain ⟨jz,jf⟩:=wz ws[i] (cS iw);generalize ws[i]=j at ej jz jf;have Vq:=s6.at Lu EF;have Vr:=s6.at EE vC;refine ⟨q,_,_,.int (j:Int),rfl,rfl,.of (s6.at qP eq),oq ej,?_⟩;refine ⟨l2,_,_,rfl,rfl,Vr,b4 (by rw [aD];omega),?_⟩
  have Vs:(fs.map fun k:Nat=>V.int (k:Int))++[V.int (j:Int)]=(fs++[j]).map fun k:Nat=>V.int (k:Int):=by rw [eN];rfl
  rw [Vs];have yb:aF P0 H1 (upd H6 l2 (.lst ((fs++[j]).map fun k:Nat=>V.int (k:Int)))):=(kG.trans s6).but ED;have p7:bO (upd H6 l2 (.lst ((fs++[j]).map fun k:Nat=>V.int (k:Int)))) P0 a:=p6.upd EE;have EH:upd H6 l2 (.lst ((fs++[j]).map fun k:Nat=>V.int (k:Int))) l2=some (.lst ((fs++[j]).map fun k:Nat=>V.int (k:Int))):=au;have EI:upd H6 l2 (.lst ((fs++[j]).map fun k:Nat=>V.int (k:Int))) l1=_:=(aP Lv).trans Vq;generalize upd H6 l2 (.lst ((fs++[j]).map fun k:Nat=>V.int (k:Int)))=H7 at yb p7 EH EI ⊢;have last:gz ((fs++[j]).map fun k:Nat=>V.int (k:Int)) (-1)=some (.int (j:Int)):=Ra (by simp) (by simp)
  have ix:zs.idxOf j<zs.length:=mr jz;refine ⟨_,rfl,.inl ⟨rfl,_,.of EI⟩,_,rfl,1,rfl,l2,_,_,.int (j:Int),rfl,rfl,.of EH,last,l1,zs.map fun k:Nat=>(k:Int),zs.idxOf j,(j:Int),rfl,rfl,by rw [EI,cm];rfl,?_,fun m' eE e=>?_,?_⟩
  ·rw [bP,bx ix,yC]
   rfl
  ·have zT:m'<zs.length:=by omega
   rw [bP,bx zT] at e;have e':((zs[m']:Nat):Int)=(j:Int):=Option.some.inj e;have:=Ii eE;rw [bx zT] at this;exact this (d8 some (by omega))
  ·have Vt:((zs.map fun k:Nat=>(k:Int)).map V.int).eraseIdx (zs.idxOf j)=(zs.erase j).map fun k:Nat=>V.int (k:Int):=by rw [cm,Ij,List.erase_eq_eraseIdx_of_idxOf rfl];rfl
   rw [Vt];refine ⟨(zs.erase j).length,?_,zs.erase j,fs++[j],_,rfl,rfl,au,(aP (Ne.symm Lv)).trans EH,pk.step jz jf,yb.but Ls,p7.upd Lu⟩;rw [List.length_erase_of_mem jz];omega
 ·have z0:zs=[]:=by
   cases zs with
   | nil=>rfl
   | cons=>exact absurd rfl hz
  subst z0;rw [List.nil_append] at pm;exact ⟨_,rfl,kk _ _ _ ((aF.of s1).trans nC) p4 EE Vo sE pm (SR pm pw lt (pk.S7 nb))⟩
theorem Vu:bZ ["_law_size","_law_found","_law_place","_law_longer","_law_row"] ["_law_size"] (bf AF):=cC
theorem Vv(T:Txt K mg t):bJ P w K mg base cO 1 t.rH t.uS ["_law_size"] S_:=by
 have S:=Vu;refine T.vk.dX S (fun _ _ _ _ H vs _ _ hr h=>?_);obtain ⟨n,rfl,n5,kk⟩:=h
 refine ⟨_,(aB (putL 1 S.nd (da (ai (da ao) ao)))
  (aB (d_ dJ rfl (ju rfl T.fv (ai (pv 0) ao)) (cy (i:=2) S.nd rfl (Or.inr rfl))
   (aB (putL 3 S.nd (da ao))
  (aB (d_ dJ rfl (dM (pv 1)) (cy (i:=4) S.nd rfl (Or.inr rfl))
   (aG (eO (gB fA PySem.F.slot_list_extend PySem.F.type_list_extend Gm (pv 3) (ai (hE (N:=["_law_k","_law_row","_law_place"]) (ρ:=(fun σ=>[σ[4]?.join,σ[2]?.join])) (fh [4,2] rfl) rfl (ju rfl T.fv (ai (bb fb (b3 gA rfl T.fI fN (ai (pv 4) ao)) aE) ao)) (fun _ _ _=>.nil) (fun _ _ _=>(bb y8 (bb y8 (y4 (GU (K:=K)) (pv 1) yY (yZ (pv 0))) (da (ai (pv 2) ao))) (y4 (GU (K:=K)) (pv 1) (yZ (pv 0)) yY)))) ao)))))
  (aG (putL 1 S.nd (pv 3))))))
  (aG (bI (pv 1))))),?_⟩
 refine cq ⟨ba _,fun l0 iB=>⟨by show 1≤sizeLine;decide,fun f0 vB=>?_⟩⟩
 have s0:aj H (upd H l0 (.lst [])):=aJ iB;have e0:upd H l0 (.lst []) l0=some (.lst (([]:List Nat).map fun k:Nat=>V.int (k:Int))):=au;generalize upd H l0 (.lst [])=H0 at s0 e0 vB ⊢;have s1:aj H0 (upd H0 f0 (.lst [.ref l0])):=aJ vB;have e1:upd H0 f0 (.lst [.ref l0]) f0=some (.lst [.ref l0]):=au;dsimp only [aO];generalize upd H0 f0 (.lst [.ref l0])=H1 at s1 e1 ⊢;refine cq ⟨_,rfl,(n:Int),rfl,by omega,by omega,?_⟩
 rw [cZ];refine n_ (fun k σ Hc=>∃(fd:Addr) (vs:List V) (v2 v3 v4:Option V),σ=[some (.int (n:Int)),some (.ref fd),v2,v3,v4]∧aj H Hc∧H fd=none∧Hc fd=some (.lst vs)∧(∀v∈vs,kB Hc k v)∧vs.length≤DA k) ⟨f0,[.ref l0],_,_,_,rfl,s0.trans s1,none_of s0 vB,e1,fun v hv=>⟨l0,[],bY.mp hv,s1 _ _ e0,List.Perm.refl _⟩,ax _⟩ ?_ ?_
 ·rintro k σ Hc hk ⟨fd,vs,v2,v3,v4,rfl,sc,dF,ef,ho,lv⟩
  have ZN:vs.length≤120:=a9 lv (Jb (by omega))
  dsimp only [aO];refine cq ⟨ba _,fun lg EJ=>?_⟩;have s2:aj Hc (upd Hc lg (.lst [])):=aJ EJ;have e2:upd Hc lg (.lst []) lg=some (.lst []):=au;dsimp only [aO];generalize upd Hc lg (.lst [])=H2 at s2 e2 ⊢;refine cq ⟨_,rfl,fd,rfl,⟨_,.of (s2 _ _ ef)⟩,?_⟩;refine k_ (K:=K) (a:=fd) (xs:=vs) (fun j σ Hd=>∃(ws:List V) (v4:Option V),σ=[some (.int (n:Int)),some (.ref fd),some (.int (0+(k:Int))),some (.ref lg),v4]∧aj Hc Hd∧Hd lg=some (.lst ws)∧(∀v∈ws,kB Hd (k+1) v∧v≠.ref lg)∧ws.length≤j*(k+1)) ⟨[],_,rfl,s2,e2,fun v hv=>(by cases hv),ba _⟩ (fun j σ Hd _ ⟨_,_,_,sd,_⟩=>.of (sd _ _ ef)) ?_ ?_
  ·rintro j x σ Hd Bf ⟨ws,v4,rfl,sd,el,hw,lw⟩
   have hj:=(bM.mp Bf).1;obtain ⟨b,o,rfl,eb,po⟩:=ho x (iX Bf);have lo:=lT po;have Lw:=sd _ _ eb;dsimp only [aO];refine ⟨_,rfl,.inl ⟨rfl,_,.of el⟩,ou (xs:=(List.range (k+1)).map fun i:Nat=>V.int (0+(i:Int))) (fun R h=>⟨_,rfl,b,_,rfl,.inl (.of Lw),_,_,rfl,rfl,_,rfl,by rw [aD];omega,by rw [aD];omega,h _ _ (aj.refl _) (by rw [aD,lo,show ((k:Int)+1).toNat=k+1 by omega];exact zl)⟩) (by rw [aD,dt];exact b4 (by omega)) (fun D i y Hx=>kB Hx (k+1) y∧∃r,y=.ref r∧r≠D∧r≠lg) (fun D i y Ha Hb ys ⟨⟨r',o',h1,h2,h3⟩,r,h4,h5,h6⟩ e f=>⟨⟨r',o',h1,f _ _ (by rw [h4] at h1;cases h1;exact h5) h2,h3⟩,r,h4,h5,h6⟩) ?_ ?_⟩
   ·intro D i x hx Hx R sx ⟨zs,eD⟩ kR
    obtain ⟨hi,rfl⟩:=O2 hx;rw [kU];have Lx:=sx _ _ Lw;have Vw:Hx lg=some (.lst ws):=sx _ _ el;refine ⟨_,rfl,_,rfl,_,rfl,b,_,rfl,.of Lx,fun u1 m1=>?_⟩;rw [GF,←List.map_take];have t1:aj Hx (upd Hx u1 (.lst ((o.take i).map fun k:Nat=>V.int (k:Int)))):=aJ m1;have g1:upd Hx u1 (.lst ((o.take i).map fun k:Nat=>V.int (k:Int))) u1=some (.lst ((o.take i).map fun k:Nat=>V.int (k:Int))):=au;generalize upd Hx u1 (.lst ((o.take i).map fun k:Nat=>V.int (k:Int)))=Hy at t1 g1 ⊢;refine ⟨_,rfl,by show 1≤sizeLine;decide,fun u2 m2=>?_⟩
    have t2:aj Hy (upd Hy u2 (.lst [.int (k:Int)])):=aJ m2;have g2:upd Hy u2 (.lst [.int (k:Int)]) u2=some (.lst ([k].map fun k:Nat=>V.int (k:Int))):=au;generalize upd Hy u2 (.lst [.int (k:Int)])=Hz at t2 g2 ⊢;refine ⟨u1,u2,_,_,rfl,rfl,t2 _ _ g1,g2,ma (b4 (by simp;omega)),fun u3 m3=>?_⟩
    rw [←eN];have t3:aj Hz (upd Hz u3 (.lst ((o.take i++[k]).map fun k:Nat=>V.int (k:Int)))):=aJ m3;have g3:upd Hz u3 (.lst ((o.take i++[k]).map fun k:Nat=>V.int (k:Int))) u3=some (.lst ((o.take i++[k]).map fun k:Nat=>V.int (k:Int))):=au;generalize upd Hz u3 (.lst ((o.take i++[k]).map fun k:Nat=>V.int (k:Int)))=Hw at t3 g3 ⊢;have Ly:=t1.trans (t2.trans t3);refine ⟨_,rfl,_,rfl,_,rfl,b,_,rfl,.of (Ly _ _ Lx),fun u4 m4=>?_⟩;rw [Rn,←List.map_drop];have t4:aj Hw (upd Hw u4 (.lst ((o.drop i).map fun k:Nat=>V.int (k:Int)))):=aJ m4;have g4:upd Hw u4 (.lst ((o.drop i).map fun k:Nat=>V.int (k:Int))) u4=some (.lst ((o.drop i).map fun k:Nat=>V.int (k:Int))):=au;generalize upd Hw u4 (.lst ((o.drop i).map fun k:Nat=>V.int (k:Int)))=Hv at t4 g4 ⊢;refine ⟨u3,u4,_,_,rfl,rfl,t4 _ _ g3,g4,ma (b4 (by simp;omega)),fun u5 m5=>?_⟩
    rw [←eN];have EK:=Ly.trans t4;refine kR _ _ (EK.trans (aJ m5)) ⟨⟨u5,_,rfl,au,Ta po i⟩,u5,rfl,fun z=>?_,fun z=>?_⟩
    ·rw [z,EK _ _ eD] at m5
     cases m5
    ·rw [z,EK _ _ Vw] at m5
     cases m5
   ·intro D ys Hx nD sx ly hy eD
    rw [aD,dt] at ly;have ZO:ws.length≤600:=a9 lw (a9 (sZ (show j≤120 by omega) (show k+1≤5 by omega)) (by decide))
    refine ⟨lg,D,ws,ys,rfl,rfl,sx _ _ el,eD,ma (b4 (by omega)),ws++ys,_,rfl,d7 (sd.trans sx) EJ,au,fun v hv=>?_,?_⟩
    ·have up:∀{v:V},kB Hx (k+1) v→v≠.ref lg→kB (upd Hx lg (.lst (ws++ys))) (k+1) v:=fun{v} ⟨b',o',h1,h2,h3⟩ hn=>⟨b',o',h1,(aP (fun z=>hn (by rw [h1,z]))).trans h2,h3⟩
     rcases dg.mp hv with h | h
     ·obtain ⟨h1,h2⟩:=hw v h
      exact ⟨up (h1.mono sx) h2,h2⟩
     ·obtain ⟨q,hq⟩:=List.getElem?_of_mem h
      obtain ⟨h1,r,h2,h3,h4⟩:=hy q v hq;have h5:v≠.ref lg:=fun z=>by rw [h2] at z;cases z;exact h4 rfl
      exact ⟨up h1 h5,h5⟩
    ·rw [dh,ly,Nat.succ_mul]
     omega
  ·rintro σ Hd ⟨ws,v4,rfl,sd,el,hw,lw⟩
   refine ⟨_,rfl,lg,ws,_,_,_,rfl,sc.trans sd,none_of sc EJ,el,fun v hv=>(hw v hv).1,?_⟩;exact a9 lw (Nat.mul_le_mul_right _ lv)
 ·rintro σ Hc ⟨fd,vs,v2,v3,v4,rfl,sc,dF,ef,ho,lv⟩
  exact ⟨_,rfl,kk _ _ _ sc dF ef (a9 lv (Jb n5)) ho⟩
theorem Vx:bZ ["script","_law_pen","_law_most","_law_k","_law_shape","_law_turn","_law_found","_law_order","_law_many","_law_paper","_law_due","_law_said","_law_some"] ["script"] (bf AG):=cC
theorem Vy(T:Txt K mg t):bJ P w K mg base cO 9 t.oQ t.rJ ["script"] (zi K):=by
 have S:=Vx;refine T.vn.dX S (fun _ _ _ _ H _ _ _ hr h=>?_);obtain ⟨a,ns,rfl,hS,hlen,kQ⟩:=h;have fV:=hr.units;have hu:=gX (jU (show 1≤64 by decide) _) hr.units
 refine ⟨_,(aB (wK 1 S.nd (da (ai (pv 0) (ai aE (ai aE ao)))))
  (aB (putL 2 S.nd (aW cL (da (ai aE (ai aE ao))) (a7 (jQ T) hr T.je T.gg.kp T.jd bS (ai (pv 1) (ai aE ao)))))
  (aB (d_ dJ rfl (ju rfl T.fv (ai aE ao)) (cy (i:=3) S.nd rfl (Or.inl rfl))
   (aB (wK 4 S.nd (a7 (UO T) hr T.JL T.ve.kp T.JK bS (ai (pv 1) (ai (pv 2) ao))))
  (aB (d_ dJ rfl (ju rfl T.fv (ai aE ao)) (cy (i:=5) S.nd rfl (Or.inl rfl))
   (aB (putL 6 S.nd (a7 (Kn T) hr T.DO T.rS.kp T.DN tK (ai (pv 4) ao)))
  (aB (cU (PW.pt (pw_or (pQ (kZ (b3 (qa (K:=K)) rfl T.oU boot_isinstance (ai (pv 6) (ai (pP (v:=.ty "tuple") rfl T.vp boot_tuple rfl) ao))))) (pw_or (cz mK (b3 gA rfl T.fI fN (ai (pv 6) ao)) aE) (pw_or1 (pQ (kZ (b3 (qa (K:=K)) rfl T.oU boot_isinstance (ai (aW dN (pv 6) aE) (ai (pP (v:=.ty "list") rfl T.m8 boot_list rfl) ao))))))))) (aG (bI fD)) cT)
  (aB (@tw _ _ _ _ _ _ (pv 6) (pW rfl (iI (cy (i:=7) S.nd rfl (Or.inl rfl)) (iI (cy (i:=8) S.nd rfl (Or.inr rfl)) pV))) (by rfl) (by rfl) (by rfl))
  (aB (cU (PW.pt (pw_or (cz (Pa fV) (b3 C7 rfl T.oV pI (ai (pv 7) ao)) (gx (wI rfl) rfl T.m8 boot_list (ai (gx tP rfl T.fv tQ (ai (aW dN (pv 4) aE) ao)) ao))) (pw_or1 (kZ (b3 (qa (K:=K)) rfl T.oU boot_isinstance (ai (pv 8) (ai (pP (v:=.ty "bool") rfl T.AN boot_bool rfl) ao))))))) (aG (bI fD)) cT)
  (aB (cU (cz mK (pv 8) (a7 (Lj T) hr T.DV T.rW.kp T.DU bS (ai (pv 4) (ai (pv 7) ao)))) (aG (bI fD)) cT)
  (aG (eO (B5 fA PySem.F.slot_list_reverse PySem.F.type_list_reverse NM (pv 7))))))))))
  (aB (putL 9 S.nd (a7 (Kk T) hr T.DM T.rR.kp T.DL tK (ai (pv 4) ao)))
  (aB (d_ dJ rfl (dM (da (ai fD (ai fD ao)))) (cy (i:=10) S.nd rfl (Or.inl rfl))
   (aB (putL 11 S.nd (a7 (Ve T) hr T.JD T.u_.kp T.JB tK (ai (pv 4) (ai (aW dN (a7 (Kn T) hr T.DO T.rS.kp T.DN tK (ai (pv 4) ao)) aE) (ai (pv 9) ao)))))
  (aB (cU (PW.pt (pw_or (pQ (kZ (b3 (qa (K:=K)) rfl T.oU boot_isinstance (ai (pv 11) (ai (pP (v:=.ty "bool") rfl T.AN boot_bool rfl) ao))))) (pw_or1 (cz mK (pv 11) (pv 10))))) (aG (bI fD)) cT)
  (aG (qA hu (pv 9) (gv ao) (bb fb (t5 hu (pv 9) (gv ao) (fun _ _=>rfl)) aE) rfl)))))
  (aB (wL (i0:=12) (N:=["_law_turn","_law_pen","_law_shape"]) (ρ:=(fun σ=>[σ[1]?.join,σ[4]?.join])) (fh [1,4] rfl) rfl S.nd rfl (Or.inl rfl) (ju rfl T.fv (ai aE ao)) (fun _ _ _=>.nil) (fun _ _ _=>(a7 (KI T) hr T.DR T.rT.kp T.DQ bS (ai (pv 1) (ai (gx (wI rfl) rfl T.m8 boot_list (ai (gx tP rfl T.fv tQ (ai (aW (OV (K:=K)) (pv 2) aE) ao)) ao)) ao)))))
  (aB (cU (cz wc (aW dN (pv 4) aE) aE) (aG (putL 12 S.nd (a7 (Vv T) hr T.JX T.vk.kp T.JW bS (ai (aW dN (pv 4) aE) ao)))) cT)
  (aB (cU (kZ (b3 (OG (K:=K) rfl) rfl T.J2 boot_any (ai (hE (N:=["_law_order","_law_shape","_law_many"]) (ρ:=(fun σ=>[σ[4]?.join,σ[8]?.join])) (fh [4,8] rfl) rfl (dM (pv 12)) (fun _ _ _=>.nil) (fun _ _ _=>(mL wc (a7 (Lj T) hr T.DV T.rW.kp T.DU bS (ai (pv 1) (ai (pv 0) ao))) (pv 2)))) ao))) (aG (bI fD)) cT)
  (aG (cU (cz MO (a7 (Vn T) hr T.JV T.vj.kp T.JU bS (ai (pv 1) (ai (pv 4) ao))) Fv) (aG (cU (cz mK (pv 8) (bb fb (bb fb (bb g7 aE (b3 gA rfl T.fI fN (ai (aW dN (pv 4) aE) ao))) (bb g7 aE (a7 (Li T) hr T.DT T.rV.kp T.DS bS (ai (pv 4) ao)))) (aW dN (pv 4) aE))) (aG (bI fD)) cT)) cT))))))))))
  (aG (bI fD))))),?_⟩
 refine ⟨_,rfl,by show 3≤sizeLine;decide,fun P0 nP=>?_⟩
 have p0:bO (upd H P0 (.lst [.ref a,.int 0,.int 0])) P0 a:=⟨0,0,au,by decide,by decide⟩
 have t8:bt K (er P0 (upd H P0 (.lst [.ref a,.int 0,.int 0]))) a (ns.map V.int):=by rw [GQ];exact aj.seq (fun b o e=>Cq (kX e nP) e) hS
 dsimp only [aO];generalize upd H P0 (.lst [.ref a,.int 0,.int 0])=H0 at p0 t8 ⊢;refine cI fun _ jg=>⟨by show 2≤sizeLine;decide,fun l0 iB=>?_⟩
 have Bg:aj H0 (upd H0 l0 (.lst [.int 7,.int 5])):=aJ iB;have Lz:upd H0 l0 (.lst [.int 7,.int 5]) l0=some (.lst [.int 7,.int 5]):=au;have Vz:l0≠P0:=p0.ne iB;generalize upd H0 l0 (.lst [.int 7,.int 5])=ZP at Bg Lz ⊢;refine ⟨_,rfl,P0,a,ns,2,rfl,p0.mono Bg,aj.seq (aF.of Bg) t8,by decide,fR.of_lt (by decide) (by decide),fun c H1 c0 c1 s1 p1=>?_⟩
 have hm:∃most:Nat,1≤most∧most≤7∧gz [V.int 7,.int 5] c=some (.int (most:Int)):=by
  rcases (show c=0∨c=1 by omega) with rfl | rfl
  ·exact ⟨7,by decide,by decide,rfl⟩
  ·exact ⟨5,by decide,by decide,rfl⟩
 obtain ⟨most,m1,m7,em⟩:=hm;refine ⟨l0,_,_,.int (most:Int),rfl,rfl,.of (s1.at Vz Lz),em,?_⟩;have yc:bt K (er P0 H1) a (ns.map V.int):=aj.seq s1 (aj.seq (aF.of Bg) t8);dsimp only [aO];refine jg _ _ ?_;refine cI fun _ nE=>⟨2,rfl,by decide,by decide,?_⟩
 refine n_ (fun i σ Hc=>∃(v3 v4 v5 v6 v7 v8 v9 v10 v11 kH:Option V),σ=[some (.ref a),some (.ref P0),some (.int (most:Int)),v3,v4,v5,v6,v7,v8,v9,v10,v11,kH]∧aF P0 H1 Hc∧bO Hc P0 a) ⟨_,_,_,_,_,_,_,_,_,_,rfl,aF.refl _,p1⟩ ?_ ?_
 ·rintro i σ Hc hi ⟨v3,v4,v5,v6,v7,v8,v9,v10,v11,kH,rfl,sT,pc⟩
  have EL:bt K (er P0 Hc) a (ns.map V.int):=aj.seq sT yc;dsimp only [aO];refine cI fun _ sC=>⟨_,rfl,_,rfl,P0,a,ns,most,rfl,pc,EL,by omega,by omega,fun tp n L H2 s2 p2 nu EC df ok pw n1 n7=>?_⟩
  have n9:n≤9:=by omega
  have bj:eX n L:=fun p hp=>by have:=ok.lt p hp;exact ⟨this.1,by omega,by omega,this.2.2⟩
  have oP:qD L:=fun p hp=>by have:=ok.lt p hp;omega
  have eV:L.length≤81:=a9 ok.eV (a9 (Nat.div_le_self _ _) (sZ n9 n9));have Bh:∀{Hx:Hp},aF P0 H2 Hx→dO Hx tp n L:=fun sx=>(df.mono sx).mono zp;have vD:dO H2 tp n L:=Bh (aF.refl _);obtain ⟨tl,us,cN,ZQ,hL⟩:=id vD;dsimp only [aO];refine sC _ _ ?_;refine cI fun _ VA=>⟨2,rfl,by decide,by decide,?_⟩
  refine n_ (fun j σ Hd=>∃(v5 v6 v7 v8 v9 v10 v11 kH:Option V),σ=[some (.ref a),some (.ref P0),some (.int (most:Int)),some (.int (0+(i:Int))),some (.ref tp),v5,v6,v7,v8,v9,v10,v11,kH]∧aj H2 Hd∧(0<j→v8=some (.int (wW n L []))∧∃o:List Nat,o.Perm (List.range n)∧gQ n L [] o=wW n L [])) ⟨_,_,_,_,_,_,_,_,rfl,aj.refl _,fun h=>absurd h (dG _)⟩ ?_ ?_
  ·rintro j σ Hd hj ⟨v5,v6,v7,v8,v9,v10,v11,kH,rfl,sd,_⟩
   dsimp only [aO];refine cI fun _ VB=>⟨_,rfl,tp,n,L,rfl,vD.mono sd,bj,n9,fun H3 ft lo o s3 xU vE nk po Bi=>?_⟩;have Bj:=sd.trans s3;have CF:=lT po;dsimp only [aO];refine VB _ _ ?_;refine cI fun _ VC=>⟨_,rfl,_,_,_,_,rfl,rfl,.of (.tup vE),rfl,true,rfl,fQ ?_⟩;refine ⟨_,rfl,ft,_,rfl,.inr (.of vE),rfl,false,rfl,fQ ?_⟩;refine ⟨_,rfl,ft,_,_,_,rfl,rfl,.of vE,rfl,_,_,_,_,rfl,rfl,.of (.lst nk),rfl,true,rfl,fQ ?_⟩;dsimp only [g6];refine VC _ _ ?_;refine cI fun _ VD=>⟨_,rfl,ft,_,rfl,.of vE,rfl,_,_,rfl,_,_,rfl,rfl,?_⟩;dsimp only [aO];refine VD _ _ ?_;refine cI fun _ VE=>⟨_,rfl,lo,o.map iN,rfl,by rw [nk,cm];rfl,by rw [aD];omega,fun ws D2 Ew so n2=>?_⟩
   refine ⟨_,rfl,tp,_,_,_,rfl,rfl,.of ((aJ n2) _ _ (Bj _ _ cN)),rfl,(n:Int),rfl,fun q1 l_=>⟨q1,n,rfl,au,by omega,fun l nl=>?_⟩⟩
   have s4:aj H3 (upd (upd (upd H3 D2 (.lst (ws.map V.int))) q1 (.dS 0 (n:Int))) l (.lst (bT n))):=((aJ n2).trans (aJ l_)).trans (aJ nl);have iC:upd (upd (upd H3 D2 (.lst (ws.map V.int))) q1 (.dS 0 (n:Int))) l (.lst (bT n)) D2=some (.lst (ws.map V.int)):=((aJ l_).trans (aJ nl)) _ _ au;have el:upd (upd (upd H3 D2 (.lst (ws.map V.int))) q1 (.dS 0 (n:Int))) l (.lst (bT n)) l=some (.lst (((List.range n).map iN).map V.int)):=by rw [au];unfold bT;rw [cm];rfl
   generalize upd (upd (upd H3 D2 (.lst (ws.map V.int))) q1 (.dS 0 (n:Int))) l (.lst (bT n))=H4 at s4 iC el ⊢;have VF:decide (ws=(List.range n).map iN)=true:=by rw [HP Ew so];exact bQ (po.map iN)
   refine ⟨D2,l,ws,(List.range n).map iN,rfl,rfl,.of iC,.of el,false,by rw [VF];rfl,fQ ?_⟩
   refine ⟨_,rfl,_,_,_,_,rfl,rfl,.of (.int _),rfl,false,rfl,fQ ?_⟩;dsimp only [g6];refine VE _ _ ?_;have EM:=Bj.trans s4;refine cI fun _ VG=>⟨_,rfl,_,rfl,_,rfl,tp,lo,n,L,o,rfl,vD.mono EM,bj,by omega,by omega,s4 _ _ nk,po,fun H5 M s5 fM=>?_⟩
   have yg:wW n L []=(gP n M:Int):=by rw [←Bi];exact z6 po bj fM
   refine ⟨rfl,false,by rw [yg];simp,fQ ?_⟩
   dsimp only [g6];refine VG _ _ ?_;have xW:=(s4.trans s5) _ _ nk;have VH:H2 lo=none:=none_of sd xU;refine ⟨_,rfl,.inl ⟨rfl,_,.of xW⟩,lo,_,rfl,rfl,xW,_,_,_,_,_,_,_,_,rfl,d7 (EM.trans s5) VH,fun _=>⟨rfl,o,po,Bi⟩⟩
  ·rintro σ Hd ⟨v5,v6,v7,v8,v9,v10,v11,kH,rfl,sd,h8⟩
   obtain ⟨h8,ob,LA,VI⟩:=h8 (by decide)
   subst h8;refine VA _ _ ?_;refine cI fun _ VJ=>⟨_,rfl,tp,n,L,rfl,vD.mono sd,bj,n9,fun H3 pp qs s3 VL EN pq=>?_⟩;have Bj:=sd.trans s3;dsimp only [aO];refine VJ _ _ ?_;refine cI fun _ VM=>⟨by show 2≤sizeLine;decide,fun lb EO=>?_⟩
   have s4:aj H3 (upd H3 lb (.lst [.bl true,.bl false])):=aJ EO;have vF:upd H3 lb (.lst [.bl true,.bl false]) lb=some (.lst [.bl true,.bl false]):=au;generalize upd H3 lb (.lst [.bl true,.bl false])=H4 at s4 vF ⊢;have EM:=Bj.trans s4;refine ⟨lb,rfl,⟨_,.of vF⟩,?_⟩;have LB:lb≠pp:=fun z=>by rw [z,EN] at EO;cases EO
   have LC:[]∈qs:=pq.mem_iff.mpr (Te n);have AS:(wD (wW n L) qs).length≤512:=by unfold wD;rw [aD,pq.length_eq,xD];exact a9 (vO (by decide) n9) (by decide)
   have VN:∀W,(wD W qs).length≤512:=fun W=>by unfold wD at AS ⊢;rw [aD] at AS ⊢;exact AS
   refine k_ (K:=K) (a:=lb) (xs:=[.bl true,.bl false]) (fun j σ He=>∃(v10 v11 kH:Option V),σ=[some (.ref a),some (.ref P0),some (.int (most:Int)),some (.int (0+(i:Int))),some (.ref tp),v5,v6,v7,some (.int (wW n L [])),some (.ref pp),v10,v11,kH]∧aj Hd He∧He lb=some (.lst [.bl true,.bl false])∧He pp=some (.dT (wD (iU n L j) qs))) ⟨_,_,_,rfl,s3.trans s4,vF,by rw [Jf];exact s4 _ _ EN⟩ (fun j σ He _ ⟨_,_,_,_,_,e,_⟩=>.of e) ?_ ?_
   ·rintro j x σ He Bf ⟨v10,v11,kH,rfl,se,vF,LD⟩
    have ex:x=.bl (decide (j=0)):=by
     match j,Bf with
     | 0,h=>exact (Option.some.inj h).symm
     | 1,h=>exact (Option.some.inj h).symm
     | j+2,h=>simp at h
    subst ex;have oZ:=sd.trans se;dsimp only [aO];refine cI fun _ VO=>⟨_,rfl,_,rfl,tp,n,L,rfl,vD.mono oZ,bj,n9,fun H5 ft lo o s5 xU vE nk po Bi=>?_⟩;refine ⟨ft,_,_,_,rfl,rfl,.of vE,rfl,_,rfl,tp,lo,pp,n,L,o,qs,iU n L j,rfl,(vD.mono oZ).mono s5,bj,oP,n9,nk,po,s5 _ _ LD,pq,fun H6 d s6 hd=>?_⟩;obtain ⟨M,fM⟩:=Je n L o;have yg:wW n L []=(d:Int):=by rw [←Bi,hd M fM];exact z6 po bj fM
    rw [Tf n1 yg];have ER:=s5.trans s6;dsimp only [aO];refine VO _ _ ?_;refine cI fun _ VP=>⟨_,rfl,_,_,_,_,rfl,rfl,.of (.bl _),rfl,true,rfl,fQ ?_⟩;refine ⟨_,rfl,_,rfl,rfl,false,by simp,fQ ?_⟩
    dsimp only [g6];refine VP _ _ ?_;have LF:=ER _ _ LD;refine ⟨_,rfl,ba _,fun e0 xX=>?_⟩;have s7:aj H6 (upd H6 e0 (.tup [])):=aJ xX;have e7:upd H6 e0 (.tup []) e0=some (.tup []):=au;generalize upd H6 e0 (.tup [])=H7 at s7 e7 ⊢;refine ⟨pp,_,rfl,(xH (iU n L j) LC)▸gM.t (k:=cY []) (s7 _ _ LF) e7,_,_,rfl,rfl,?_⟩;refine ⟨_,rfl,ba _,fun e1 ne1=>?_⟩;have s8:aj H7 (upd H7 e1 (.tup [])):=aJ ne1;have e8:upd H7 e1 (.tup []) e1=some (.tup []):=au;generalize upd H7 e1 (.tup [])=H8 at s8 e8 ⊢;have VQ:=se.trans (ER.trans (s7.trans s8));have VR:=(s7.trans s8) _ _ LF;refine ⟨pp,_,rfl,qz.t (k:=cY []) VR e8 (b4 (by have:=VN (iU n L j);omega)),_,_,_,rfl,d7 VQ VL,?_,?_⟩
    ·rw [aP LB]
     exact (ER.trans (s7.trans s8)) _ _ vF
    ·rw [au]
     exact d8 (fun z=>some (HO.dT z)) (Td LC)
   ·rintro σ He ⟨v10,v11,kH,rfl,se,_,_⟩
    clear vF s4 EN LB;have oZ:=sd.trans se;refine VM _ _ ?_;have ES:aF P0 H2 He:=aF.of oZ;have pe:bO He P0 a:=p2.mono oZ;have VS:bt K (er P0 He) a (ns.map V.int):=aj.seq ES (aj.seq s2 EL);have ET:∀{Hx:Hp},aF P0 He Hx→Hx tp=some (.tup [.int (n:Int),.ref tl]):=fun sx=>(ES.trans sx).at EC cN;refine cI fun _ VT=>(jB (O3 (P:=P0) (a:=a) (N:=8) (by decide) (fun R h=>⟨8,rfl,by decide,by decide,h 8 _ (ax _) (aF.refl _) pe⟩) (fun D j y Hx=>∃(r:Addr) (o:List Nat),y=.ref r∧r≠P0∧r≠D∧Hx r=some (.lst (o.map fun k:Nat=>V.int (k:Int)))∧o.Perm (List.range n)) (fun D j y Ha Hb ys ⟨r,o,h1,h2,h3,h4,h5⟩ e ZR f=>⟨r,o,h1,h2,h3,f _ _ h3 h2 h4,h5⟩) ?_ ?_))
    ·intro D j hj Hx R sx px ⟨zs,eD⟩ DP kR
     have VU:=ET sx;refine ⟨_,rfl,_,rfl,tp,_,_,_,rfl,rfl,.of VU,rfl,(n:Int),rfl,fun q1 l_=>⟨q1,n,rfl,au,by omega,fun l nl=>?_⟩⟩
     have sl:aj Hx (upd (upd Hx q1 (.dS 0 (n:Int))) l (.lst (bT n))):=(aJ l_).trans (aJ nl);have el:upd (upd Hx q1 (.dS 0 (n:Int))) l (.lst (bT n)) l=some (.lst (bT n)):=au;have lP:l≠P0:=px.ne (none_of (aJ l_) nl);generalize upd (upd Hx q1 (.dS 0 (n:Int))) l (.lst (bT n))=Hy at sl el ⊢;have lu:(bT n).length=n:=by unfold bT;simp
     refine ⟨P0,a,l,ns,bT n,rfl,px.mono sl,aj.seq (sx.trans (aF.of sl)) VS,lP,el,by omega,fun r ys Hz sz pz nr rP VW pm=>?_⟩
     obtain ⟨o,rfl,ho⟩:=Q0 pm;refine kR _ _ ((aF.of sl).trans sz) pz ⟨r,o,rfl,rP,fun z=>?_,VW,ho⟩;rw [z,eR DP,sl _ _ eD] at nr;cases nr
    ·intro sm ys H5 ZS ZT s5 p5 ly hy Bk
     have LG:=ES.trans s5;have wu:∀v∈ys,kB H5 n v:=fun v hv=>by obtain ⟨q,hq⟩:=List.getElem?_of_mem hv;obtain ⟨r,o,h1,_,_,h4,h5⟩:=hy q v hq;exact ⟨r,o,h1,h4,h5⟩
     dsimp only [aO];refine VT _ _ ?_;refine cI fun _ VX=>(CT (fun σ Hx=>∃(sm:Addr) (xs:List V),σ=[some (.ref a),some (.ref P0),some (.int (most:Int)),some (.int (0+(i:Int))),some (.ref tp),v5,v6,v7,some (.int (wW n L [])),some (.ref pp),v10,v11,some (.ref sm)]∧Hx sm=some (.lst xs)∧xs.length≤120∧(∀v∈xs,kB Hx n v)∧aF P0 H2 Hx∧bO Hx P0 a) ?_ ?_)
     ·rintro σ H6 ⟨sm,xs,rfl,Bk,lx,hx,LH,p6⟩
      dsimp only;refine VX _ _ ?_;refine cI fun _ VY=>(OZ ?_);unfold tB;refine qq (ou (xs:=xs) (fun R h=>⟨_,rfl,sm,rfl,⟨_,.of Bk⟩,h _ _ (aj.refl _) (iP (.of Bk))⟩) (b4 (by omega)) (fun _ _ y _=>y=.bl false) (fun _ _ _ _ _ _ h _ _=>h) ?_ ?_)
      ·intro D j v hv Hx R sx _ kR
       obtain ⟨b,o,rfl,eb,po⟩:=hx v (iX hv);refine ⟨_,rfl,_,rfl,tp,b,n,L,o,rfl,Bh (LH.trans (aF.of sx)),bj,by omega,by omega,sx _ _ eb,po,fun Hy M sy fM=>⟨_,rfl,_,_,rfl,rfl,kR _ _ sy ?_⟩⟩
       have:=Jd po bj fM;exact d8 V.bl (bW (by omega))
      ·intro D LI H7 nD s7 ZU Ca eD
       have ey:LI=(List.replicate LI.length false).map V.bl:=by
        refine gY (by simp) fun i h1 h2=>?_
        rw [fX,List.getElem_replicate];exact Ca i _ (bx h1)
       refine ⟨D,_,rfl,.of (by rw [eD,ey]),false,by simp,fQ ?_⟩
       have Bl:=LH.trans (aF.of s7);have p7:=p6.mono s7;have VZ:bt K (er P0 H7) a (ns.map V.int):=aj.seq Bl (aj.seq s2 EL);have lt:∀z∈L,0≤z.1∧z.1<z.2∧z.2<(n:Int):=ok.lt;dsimp only [g6];refine VY _ _ ?_;refine ⟨_,rfl,_,rfl,P0,a,tp,ns,n,L,rfl,p7,VZ,EC,Bh Bl,pw,lt,n1,by omega,by omega,fun H8 s8 p8 _=>?_,fun l o H8 s8 p8 lP nl el po fo=>?_⟩
       ·exact ⟨rfl,false,rfl,fQ ⟨_,_,_,_,_,_,_,_,_,_,rfl,sT.trans (s2.trans (Bl.trans s8)),p8⟩⟩
       ·have LJ:=Bl.trans s8
        have LK:=Bh LJ;obtain ⟨V0,V1,LL,V2,V3⟩:=id LK;have nd:L.Nodup:=pw.imp fun h e=>by subst e;unfold lexLt at h;omega
        have yg:wW n L []=(gP n L:Int):=by have h1:=Jd po bj fo;obtain ⟨M,fM⟩:=Je n L ob;have h2:=RE LA fM nd lt;rw [←VI,z6 LA bj fM] at h1 ⊢;omega
        refine ⟨rfl,true,rfl,wC ?_⟩;refine ⟨_,rfl,_,rfl,tp,_,_,_,rfl,rfl,.of LL,rfl,V0,_,rfl,.inr (.of V2),_,_,rfl,rfl,.inl ⟨by decide,by decide⟩,_,rfl,tp,n,L,rfl,LK,nd,lt,by omega,by omega,fun H9 s9=>?_⟩
        refine ⟨_,_,rfl,rfl,.inl ⟨by decide,by decide⟩,_,_,rfl,rfl,_,rfl,tp,_,_,_,rfl,rfl,.of (s9 _ _ LL),rfl,_,_,rfl,rfl,rfl,false,?_,fQ ⟨_,_,_,_,_,_,_,_,_,_,rfl,sT.trans (s2.trans (LJ.trans (aF.of s9))),p8.mono s9⟩⟩
        have e:(4*(V1.length:Int)+2*(l6 n L:Int)+(n:Int))=wW n L []:=by
         rw [yg];unfold gP;rw [V3.1]
         push_cast
         rfl
        rw [←e];simp
     ·intro R hR
      refine ⟨_,rfl,tp,_,_,_,rfl,rfl,.of (ET s5),rfl,_,_,rfl,rfl,_,rfl,dc (fun h6=>?_) (fun _=>?_)⟩
      ·have h6:(n:Int)<6:=fz h6
       refine ⟨_,rfl,tp,_,_,_,rfl,rfl,.of (ET s5),rfl,n,rfl,by omega,fun H6 D xs s6 nD eD lx hx=>?_⟩
       exact hR _ _ ⟨D,xs,rfl,eD,lx,hx,LG.trans (aF.of s6),p5.mono s6⟩
      ·exact hR _ _ ⟨sm,ys,rfl,Bk,by omega,wu,LG,p5⟩
 ·rintro σ Hc ⟨v3,v4,v5,v6,v7,v8,v9,v10,v11,kH,rfl,sT,pc⟩
  exact nE _ _ (kQ _)
theorem V4{l:PySem.W.OpenLaw}(T:Txt K mg t):∃fd:FuncData,(∀(s:Shared) (v:Value),BindsTo s fd ⟨[v],[]⟩ [("script",v)])∧∀base:Heap,K.In base→base.Ns mainGlobals mg→bJ l.prog w K mg base cO 9 t.oQ fd ["script"] (zi K):=by obtain ⟨oc,od,kV,doc,pm,an,b6,ct,lA,e,lk,iH⟩:=T.vn.ex;refine ⟨t.rJ,fun s v=>?_,fun base _ _=>Vy T⟩;rw [e];exact .of_eq rfl
end
theorem walk{l:PySem.W.OpenLaw}{q:Program}{loose:List Str}{XP:(Str→Option Value)→Heap→Prop}{YP:World→Heap→Prop}{d:DefRec}{K:Params→PySem.W.Frag}(hn:l.most=some 63)(wx:d.params.defaults=[])
  (hY:∀(w:World) (h:Heap),YP w h→(K w.params).In h)
  (F:∀(w:World) (mg:du) (fa:Addr) (h:Heap),(K w.params).In h→h.Ns mainGlobals mg→mg d.name=some (.ref fa)→
   ∃fd:FuncData,(∀(s:Shared) (u:Value),BindsTo s fd ⟨[u],[]⟩ [("script",u)])∧∀base:Heap,(K w.params).In base→base.Ns mainGlobals mg→bJ l.prog w (K w.params) mg base cO 9 fa fd ["script"] (zi (K w.params))) :
  PySem.W.WalkO q loose XP YP l.row.toRowW d [] (fun f vs=>PySem.call f vs):=
 L2.N3 (n:=63) (k:=9) (x:="script") (CX:=fun _=>cO) (sp:=fun w=>zi (K w.params)) hn (by decide) wx ⟨rfl,by decide,by decide⟩ hY F (fun _ _ a ns hl _ hS=>⟨a,ns,rfl,hS,hl,fun _=>rfl⟩) fun _ _ _ _ _ z=>z
theorem V5{K:aH}{h:Heap}{mg:du}(X:K.In h)(G:h.Ns mainGlobals mg)
  {l8:Addr}
  {uT:Addr}
  {V6:Tok}
  {qL qM qN qO qQ qR qT qU qV qW qX qY qZ q5 q8 q_ ra rb rd rg rh rj rm rn rp rq rA rB rC rD rE rF rG rH oQ:Addr} {uc ud ue uf ug uh uj um uo ur uu uv uw ux uy uz uA uB uC uD uE uF uG uH uI uJ uK uL uN uO uP uQ uR uS rJ:FuncData}
  (EU:PySem.W.nsIn K mainGlobals "NoOrder"=some (some (.ref l8)))
  (EV:PySem.W.nsIn K mainGlobals "NoSize"=some (some (.ref uT)))
  (V7:mg "is_whole"=some (.ref qL))
  (uU:aS K "is_whole" z7 qL uc)
  (V8:mg "neighbours"=some (.ref qM))
  (rK:aS K "neighbours" z8 qM ud)
  (V9:mg "is_order"=some (.ref qN))
  (uV:aS K "is_order" z9 qN ue)
  (V_:mg "check_order"=some (.ref qO))
  (uW:aS K "check_order" z_ qO uf)
  (Wa:mg "turns_of"=some (.ref qQ))
  (uX:aS K "turns_of" Aa qQ ug)
  (Wb:mg "link_all"=some (.ref qR))
  (uY:aS K "link_all" Ab qR uh)
  (Wc:mg "later"=some (.ref qT))
  (uZ:aS K "later" Ac qT uj)
  (Wd:mg "place_deeds"=some (.ref qU))
  (rN:aS K "place_deeds" Ad qU um)
  (We:mg "deeds"=some (.ref qV))
  (u0:aS K "deeds" Ae qV uo)
  (Wf:mg "check_size"=some (.ref qW))
  (oR:aS K "check_size" Af qW ur)
  (Wg:mg "still_near"=some (.ref qX))
  (u6:aS K "still_near" Ag qX uu)
  (Wh:mg "cost"=some (.ref qY))
  (u7:aS K "cost" Ah qY uv)
  (Wi:mg "rising_tuples"=some (.ref qZ))
  (rO:aS K "rising_tuples" Ai qZ uw)
  (Wj:mg "and_done"=some (.ref q5))
  (rQ:aS K "and_done" Aj q5 ux)
  (Wl:mg "choices"=some (.ref q8))
  (oS:aS K "choices" Ak q8 uy)
  (Wm:mg "worths"=some (.ref q_))
  (rR:aS K "worths" Al q_ uz)
  (Wn:mg "fewest"=some (.ref ra))
  (rS:aS K "fewest" Am ra uA)
  (Wo:mg "keeps_to_costs"=some (.ref rb))
  (u9:aS K "keeps_to_costs" An rb uB)
  (Wq:mg "shows_fewest"=some (.ref rd))
  (u_:aS K "shows_fewest" Ao rd uC)
  (Wr:mg "_law_fill"=some (.ref rg))
  (va:aS K "_law_fill" Ap rg uD)
  (Ws:mg "_law_next"=some (.ref rh))
  (gg:aS K "_law_next" Aq rh uE)
  (Wt:mg "_law_turned"=some (.ref rj))
  (rT:aS K "_law_turned" Ar rj uF)
  (Wu:mg "_law_tied_by"=some (.ref rm))
  (vc:aS K "_law_tied_by" As rm uG)
  (Wv:mg "_law_grown_links"=some (.ref rn))
  (vd:aS K "_law_grown_links" Au rn uH)
  (Ww:mg "_law_drawn"=some (.ref rp))
  (ve:aS K "_law_drawn" Av rp uI)
  (Wx:mg "_law_named"=some (.ref rq))
  (vf:aS K "_law_named" Aw rq uJ)
  (Wy:mg "_law_beside"=some (.ref rA))
  (oT:aS K "_law_beside" Ax rA uK)
  (Wz:mg "_law_walks"=some (.ref rB))
  (vg:aS K "_law_walks" Ay rB uL)
  (WA:mg "_law_filled"=some (.ref rC))
  (vh:aS K "_law_filled" Az rC uN)
  (WB:mg "_law_triangles"=some (.ref rD))
  (rV:aS K "_law_triangles" AA rD uO)
  (WC:mg "_law_free"=some (.ref rE))
  (vi:aS K "_law_free" AB rE uP)
  (WD:mg "_law_perfect"=some (.ref rF))
  (vj:aS K "_law_perfect" AD rF uQ)
  (WE:mg "_law_deeds"=some (.ref rG))
  (rW:aS K "_law_deeds" AE rG uR)
  (WG:mg "_law_all_orders"=some (.ref rH))
  (vk:aS K "_law_all_orders" AF rH uS)
  (WH:mg "law"=some (.ref oQ))
  (vn:aS K "law" AG oQ rJ)
  (EW:PySem.W.nsIn K mainGlobals "len"=some none)
  (EX:PySem.W.nsIn K mainGlobals "isinstance"=some none)
  (EY:PySem.W.nsIn K mainGlobals "int"=some none)
  (EZ:PySem.W.nsIn K mainGlobals "bool"=some none)
  (E1:PySem.W.nsIn K mainGlobals "tuple"=some none)
  (E2:PySem.W.nsIn K mainGlobals "list"=some none)
  (E3:PySem.W.nsIn K mainGlobals "range"=some none)
  (E4:PySem.W.nsIn K mainGlobals "all"=some none)
  (E5:PySem.W.nsIn K mainGlobals "any"=some none)
  (E6:PySem.W.nsIn K mainGlobals "sum"=some none)
  (E7:PySem.W.nsIn K mainGlobals "enumerate"=some none)
  (E8:PySem.W.nsIn K mainGlobals "min"=some none)
  (E9:PySem.W.nsIn K mainGlobals "max"=some none)
  (E_:PySem.W.nsIn K mainGlobals "sorted"=some none)
  (Fb:PySem.W.nsIn K mainGlobals "ValueError"=some none)
  (Fc:PySem.W.nsIn K mainGlobals "MOST"=some (some (.int 9 V6)))
  (Fd:PySem.W.excIn K l8 [.type "ValueError",.type "Exception",.type "BaseException",.type "object"] "ValueError.__new__"=true)
  (Fe:PySem.W.excIn K uT [.type "ValueError",.type "Exception",.type "BaseException",.type "object"] "ValueError.__new__"=true)
  : ∃t:DC,Txt K mg t:=by
 refine ⟨⟨qL,uc,qM,ud,qN,ue,qO,uf,qQ,ug,qR,uh,qT,uj,qU,um,qV,uo,qW,ur,qX,uu,qY,uv,qZ,uw,q5,ux,q8,uy,q_,uz,ra,uA,rb,uB,rd,uC,rg,uD,rh,uE,rj,uF,rm,uG,rn,uH,rp,uI,rq,uJ,rA,uK,rB,uL,rC,uN,rD,uO,rE,uP,rF,uQ,rG,uR,rH,uS,oQ,rJ,l8,uT⟩,?_⟩
 exact {
  uU:=uU
  Jh:=uU.cE
  Ji:=V7
  rK:=rK
  DD:=rK.cE
  DE:=V8
  uV:=uV
  Jj:=uV.cE
  Jk:=V9
  uW:=uW
  Jl:=uW.cE
  Jm:=V_
  uX:=uX
  Jn:=uX.cE
  Jo:=Wa
  uY:=uY
  Jp:=uY.cE
  Jq:=Wb
  uZ:=uZ
  Jr:=uZ.cE
  Js:=Wc
  rN:=rN
  DF:=rN.cE
  DG:=Wd
  u0:=u0
  Jt:=u0.cE
  Ju:=We
  oR:=oR
  AH:=oR.cE
  AI:=Wf
  u6:=u6
  Jv:=u6.cE
  Jw:=Wg
  u7:=u7
  Jx:=u7.cE
  Jy:=Wh
  rO:=rO
  DH:=rO.cE
  DI:=Wi
  rQ:=rQ
  DJ:=rQ.cE
  DK:=Wj
  oS:=oS
  AJ:=oS.cE
  AK:=Wl
  rR:=rR
  DL:=rR.cE
  DM:=Wm
  rS:=rS
  DN:=rS.cE
  DO:=Wn
  u9:=u9
  Jz:=u9.cE
  JA:=Wo
  u_:=u_
  JB:=u_.cE
  JD:=Wq
  va:=va
  JE:=va.cE
  JF:=Wr
  gg:=gg
  jd:=gg.cE
  je:=Ws
  rT:=rT
  DQ:=rT.cE
  DR:=Wt
  vc:=vc
  JG:=vc.cE
  JH:=Wu
  vd:=vd
  JI:=vd.cE
  JJ:=Wv
  ve:=ve
  JK:=ve.cE
  JL:=Ww
  vf:=vf
  JM:=vf.cE
  JN:=Wx
  oT:=oT
  AL:=oT.cE
  AM:=Wy
  vg:=vg
  JO:=vg.cE
  JP:=Wz
  vh:=vh
  JQ:=vh.cE
  JR:=WA
  rV:=rV
  DS:=rV.cE
  DT:=WB
  vi:=vi
  JS:=vi.cE
  JT:=WC
  vj:=vj
  JU:=vj.cE
  JV:=WD
  rW:=rW
  DU:=rW.cE
  DV:=WE
  vk:=vk
  JW:=vk.cE
  JX:=WG
  vn:=vn
  Tg:=vn.cE
  JY:=WH
  JZ:=b_ X G EU
  J0:=b_ X G EV
  fI:=gZ X G EW
  oU:=gZ X G EX
  J1:=gZ X G EY
  AN:=gZ X G EZ
  vp:=gZ X G E1
  m8:=gZ X G E2
  fv:=gZ X G E3
  xJ:=gZ X G E4
  J2:=gZ X G E5
  J3:=gZ X G E6
  J4:=gZ X G E7
  xK:=gZ X G E8
  DW:=gZ X G E9
  oV:=gZ X G E_
  Th:=gZ X G Fb
  J5:=⟨_,b_ X G Fc,_,rfl⟩
  J6:=Fd
  J7:=Fe
 }
end My
namespace PySem.W.Fast
def tw12403344576057217878:Unit:=()
def tw4409957322761260498:Unit:=()
def tw11055671847842939953:Unit:=()
def tw17615083622179135115:Unit:=()
def tw12807799653177941556:Unit:=()
def tw17018093212033629544:Unit:=()
def tw17403779107072441707:Unit:=()
def tw17153771947568303361:Unit:=()
def tw6005042800074992827:Unit:=()
def tw16966686490482251602:Unit:=()
def tw11229341337500518106:Unit:=()
def tw12746705130328808004:Unit:=()
def tw2320188533826664478:Unit:=()
def tw15727381151752154577:Unit:=()
def tw3736785967569837868:Unit:=()
def tw3518707766128820311:Unit:=()
def tw9749284966173160133:Unit:=()
def tw8369713482909422458:Unit:=()
def tw17545424581768727750:Unit:=()
def tw882436168871583965:Unit:=()
def tw12501019393589319467:Unit:=()
def tw9211902413296146972:Unit:=()
def tw15117883099788092150:Unit:=()
def tw11147243777545060419:Unit:=()
def tw17835951256610209274:Unit:=()
def tw13770694134760905682:Unit:=()
def tw7083381078056798719:Unit:=()
def tw12407631118092479086:Unit:=()
def tw13411525251033878864:Unit:=()
def tw1273530117196268863:Unit:=()
def tw16765853212804134047:Unit:=()
def tw15763638231496639120:Unit:=()
def tw4916174870082461340:Unit:=()
def tw15373443189045897369:Unit:=()
def tw8427270039484703491:Unit:=()
def tw14841102740227232359:Unit:=()
def tw16776309952154810285:Unit:=()
def tw12677605840304888030:Unit:=()
def tw9602373797097973841:Unit:=()
def tw4623832093168164739:Unit:=()
def tw14122366769331231586:Unit:=()
def tw14270727183834822315:Unit:=()
def tw8161742838567460242:Unit:=()
def tw8671870771122158567:Unit:=()
def tw12940084412188420088:Unit:=()
def tw13416294480710183567:Unit:=()
def tw1588669654503262721:Unit:=()
def tw8012536462184489813:Unit:=()
def tw12553631486716070813:Unit:=()
def tw683548690485433642:Unit:=()
def tw6023041044250462184:Unit:=()
def tw596607955459914972:Unit:=()
def tw14748267434147822066:Unit:=()
def tw3189624365908654059:Unit:=()
def tw5925414783409200912:Unit:=()
def tw8588174343259586403:Unit:=()
def tw15864369236886230591:Unit:=()
def tw15182319222904256991:Unit:=()
def tw10596230815223873550:Unit:=()
def tw16863953960282778151:Unit:=()
def tw4130281438544640048:Unit:=()
def tw5775424824941288212:Unit:=()
def tw13785290570766922666:Unit:=()
def tw990534977843299598:Unit:=()
def tw4208365270082422602:Unit:=()
def tw165490836065575855:Unit:=()
def tw6627336126493442043:Unit:=()
def tw14863729965509283864:Unit:=()
def tw9155297010224329118:Unit:=()
def tw7255718467482885672:Unit:=()
def tw14588495650843551941:Unit:=()
def tw14156462059267447171:Unit:=()
def tw11856796895172209232:Unit:=()
def tw9005961279300732542:Unit:=()
def tw7744341836413640322:Unit:=()
def tw106830226440513912:Unit:=()
def tw16280254291331024930:Unit:=()
def tw9237214129766883698:Unit:=()
def tw17155894941273043973:Unit:=()
def tw11874330292106924128:Unit:=()
def tw4795660956897536996:Unit:=()
def tw13593081608232307503:Unit:=()
def tw8008025195784387761:Unit:=()
def tw7833480807207889442:Unit:=()
def tw16076633582595624459:Unit:=()
def tw11179250464313878369:Unit:=()
def tw15878024584193296637:Unit:=()
def tw9266193555808347477:Unit:=()
def tw18121786884706058587:Unit:=()
def tw16111272223544131914:Unit:=()
def tw5873385779107975174:Unit:=()
def tw18302220506007730289:Unit:=()
def tw6541888168372433749:Unit:=()
def tw4132353926756814798:Unit:=()
def tw1150538299220199005:Unit:=()
def tw13586614319811672345:Unit:=()
def tw14851238742435977878:Unit:=()
def tw1191362127401113135:Unit:=()
def tw18280916412392862025:Unit:=()
def tw6528348698602493077:Unit:=()
def tw2145771862548250373:Unit:=()
def tw12582976491886275136:Unit:=()
def tw12505340955600963888:Unit:=()
def tw8873441065422749241:Unit:=()
def tw17388226451385591233:Unit:=()
def tw370261110686533193:Unit:=()
def tw1360374750983288730:Unit:=()
def tw3659078806321066804:Unit:=()
def tw4671604447590238027:Unit:=()
def tw1747508865089756964:Unit:=()
def tw7924043604831021849:Unit:=()
def tw10633935558791394973:Unit:=()
def tw9104700933419918837:Unit:=()
def tw6097897176221053064:Unit:=()
def tw11056456547853715749:Unit:=()
def tw4281976168739146517:Unit:=()
def tw9476784163911895492:Unit:=()
def tw2670485450836412621:Unit:=()
def tw11158758848786796719:Unit:=()
def tw5217486942413798948:Unit:=()
def tw4836854952594692098:Unit:=()
def tw11889177275540741973:Unit:=()
def tw6936265053208295048:Unit:=()
def tw11574979227565615902:Unit:=()
def tw4105105429739682243:Unit:=()
def tw14911143794802575425:Unit:=()
def tw17117946168208829235:Unit:=()
def tw12664282237936372935:Unit:=()
def tw16101653865977667843:Unit:=()
def tw17493175291940598278:Unit:=()
def tw6001743845126945790:Unit:=()
def tw16550682124393427346:Unit:=()
def tw15931940855738186064:Unit:=()
def tw12457318550868782512:Unit:=()
def tw17167739358256630550:Unit:=()
def tw13040084310218285448:Unit:=()
def tw6819603313306624024:Unit:=()
def tw5222787931155247666:Unit:=()
def tw6013221715964732322:Unit:=()
def tw2292793477996926722:Unit:=()
def tw17817066154534322975:Unit:=()
def tw15192288629716660168:Unit:=()
def tw8013279939495687408:Unit:=()
def tw16218150649767662503:Unit:=()
def tw18308366377783014165:Unit:=()
def tw7845692739102199056:Unit:=()
def tw8831950971072413702:Unit:=()
def tw6760335786862496346:Unit:=()
def tw7967059431635327210:Unit:=()
def tw9936562312947686916:Unit:=()
def tw4042999533728479557:Unit:=()
def tw6354063196051914049:Unit:=()
def tw17969512680136392525:Unit:=()
def tw722820036219710948:Unit:=()
def tw16971932159154210436:Unit:=()
def tw10000526354896416940:Unit:=()
def tw3855909471389894386:Unit:=()
def tw3414576782357088302:Unit:=()
def tw3925529568659619585:Unit:=()
def tw13477682212026603155:Unit:=()
def tw16761650495290691204:Unit:=()
def tw15970880146334151822:Unit:=()
def tw18304062953843252715:Unit:=()
def tw1720107829165323779:Unit:=()
def tw6356036227687716320:Unit:=()
def tw13291353347208741296:Unit:=()
def tw16295314407568028985:Unit:=()
def tw11537518475158896650:Unit:=()
def tw2058672929508719794:Unit:=()
def tw14525658917064471605:Unit:=()
def tw8603688545972629433:Unit:=()
def tw4700670554799417892:Unit:=()
def tw9159424783042505178:Unit:=()
def tw2208375975489315409:Unit:=()
def tw16825802257019683530:Unit:=()
def tw9702181585021538933:Unit:=()
def tw16888662126012961953:Unit:=()
end PySem.W.Fast
open PySem PySem.W PyProof.Rows
set_option maxRecDepth 100000 in
set_option maxHeartbeats 0 in
theorem PySem.Challenge.cw_bandwright_k27_fewest_of_all_orders_holds : PySem.Challenge.rw_bandwright_k27_fewest_of_all_orders.Holds := by
 w_on;o_law;k_head;(case hw=>w_witness2)
 k_fill
 refine My.walk (l:=PySem.Challenge.rw_bandwright_k27_fewest_of_all_orders) rfl rfl (fun w h Y=>PySem.W.kIn_of Y) ?F
 case F=>
  intro w mg fa h KX G wA
  have T:∃t,My.Txt (L2.Gv KX) mg t:=by
   dsimp only [L2.Gv]
   refine' My.V5 KX G ?EU ?EV (b_ KX G ?WI) (L2.cF (st:=My.z7) ?WJ ?WK ?WL) (b_ KX G ?WM) (L2.cF (st:=My.z8) ?WN ?WO ?WQ) (b_ KX G ?WR) (L2.cF (st:=My.z9) ?WS ?WT ?WU) (b_ KX G ?WV) (L2.cF (st:=My.z_) ?WW ?WX ?WY) (b_ KX G ?WZ) (L2.cF (st:=My.Aa) ?W0 ?W2 ?W3) (b_ KX G ?W4) (L2.cF (st:=My.Ab) ?W5 ?W6 ?W7) (b_ KX G ?W8) (L2.cF (st:=My.Ac) ?W9 ?W_ ?Xa) (b_ KX G ?Xb) (L2.cF (st:=My.Ad) ?Xc ?Xd ?Xe) (b_ KX G ?Xf) (L2.cF (st:=My.Ae) ?Xg ?Xh ?Xi) (b_ KX G ?Xj) (L2.cF (st:=My.Af) ?Xk ?Xl ?Xm) (b_ KX G ?Xn) (L2.cF (st:=My.Ag) ?Xo ?Xp ?Xq) (b_ KX G ?Xr) (L2.cF (st:=My.Ah) ?Xs ?Xu ?Xv) (b_ KX G ?Xw) (L2.cF (st:=My.Ai) ?Xx ?Xy ?Xz) (b_ KX G ?XA) (L2.cF (st:=My.Aj) ?XC ?XD ?XE) (b_ KX G ?XF) (L2.cF (st:=My.Ak) ?XG ?XH ?XI) (b_ KX G ?XJ) (L2.cF (st:=My.Al) ?XM ?XN ?XO) (b_ KX G ?XQ) (L2.cF (st:=My.Am) ?XR ?XS ?XT) (b_ KX G ?XU) (L2.cF (st:=My.An) ?XW ?XX ?XY) (b_ KX G ?XZ) (L2.cF (st:=My.Ao) ?X0 ?X3 ?X4) (b_ KX G ?X5) (L2.cF (st:=My.Ap) ?X6 ?X7 ?X8) (b_ KX G ?X9) (L2.cF (st:=My.Aq) ?X_ ?Yb ?Yc) (b_ KX G ?Yd) (L2.cF (st:=My.Ar) ?Ye ?Yg ?Yh) (b_ KX G ?Yi) (L2.cF (st:=My.As) ?Yj ?Yk ?Yl) (b_ KX G ?Ym) (L2.cF (st:=My.Au) ?Yn ?Yo ?Yp) (b_ KX G ?Yq) (L2.cF (st:=My.Av) ?Yr ?Ys ?Yt) (b_ KX G ?Yu) (L2.cF (st:=My.Aw) ?Yv ?Yw ?Yx) (b_ KX G ?Yy) (L2.cF (st:=My.Ax) ?Yz ?YA ?YB) (b_ KX G ?YC) (L2.cF (st:=My.Ay) ?YD ?YE ?YF) (b_ KX G ?YG) (L2.cF (st:=My.Az) ?YH ?YI ?YJ) (b_ KX G ?YK) (L2.cF (st:=My.AA) ?YL ?YM ?YN) (b_ KX G ?YO) (L2.cF (st:=My.AB) ?YQ ?YR ?YS) (b_ KX G ?YT) (L2.cF (st:=My.AD) ?YU ?YV ?YW) (b_ KX G ?YX) (L2.cF (st:=My.AE) ?YY ?YZ ?Y0) (b_ KX G ?Y3) (L2.cF (st:=My.AF) ?Y4 ?Y5 ?Y6) (b_ KX G ?Y7) (L2.cF (st:=My.AG) ?Y8 ?Y9 ?Y_) ?EW ?EX ?EY ?EZ ?E1 ?E2 ?E3 ?E4 ?E5 ?E6 ?E7 ?E8 ?E9 ?E_ ?Fb ?Fc ?Fd ?Fe
   (case EU|EV|WI|WJ|WK|WL|WM|WN|WO|WQ|WR|WS|WT|WU|WV|WW|WX|WY|WZ|W0|W2|W3|W4|W5|W6|W7|W8|W9|W_|Xa|Xb|Xc|Xd|Xe|Xf|Xg|Xh|Xi|Xj|Xk|Xl|Xm|Xn|Xo|Xp|Xq|Xr|Xs|Xu|Xv|Xw|Xx|Xy|Xz|XA|XC|XD|XE|XF|XG|XH|XI|XJ|XM|XN|XO|XQ|XR|XS|XT|XU|XW|XX|XY|XZ|X0|X3|X4|X5|X6|X7|X8|X9|X_|Yb|Yc|Yd|Ye|Yg|Yh|Yi|Yj|Yk|Yl|Ym|Yn|Yo|Yp|Yq|Yr|Ys|Yt|Yu|Yv|Yw|Yx|Yy|Yz|YA|YB|YC|YD|YE|YF|YG|YH|YI|YJ|YK|YL|YM|YN|YO|YQ|YR|YS|YT|YU|YV|YW|YX|YY|YZ|Y0|Y3|Y4|Y5|Y6|Y7|Y8|Y9|Y_|EW|EX|EY|EZ|E1|E2|E3|E4|E5|E6|E7|E8|E9|E_|Fb|Fc=>k_is)
   (case Fd|Fe=>k_exc)
  obtain ⟨t,T⟩:=T
  have e0:=wA.symm.trans T.JY
  cases e0
  exact My.V4 T
#print axioms PySem.Challenge.cw_bandwright_k27_fewest_of_all_orders_holds
