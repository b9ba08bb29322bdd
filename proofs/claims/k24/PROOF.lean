import PyProof.Rows.All
import Wide.All
import OpenK.AllK
import Wide.FinOn
import Lean
import PyProof.EqAt
import PyProof.EqKinds
import PyProof.TupleCall
import PySem.Challenge.RW_bandwright_k24_whole_perfect_orders_alik
set_option Elab.async false
set_option linter.all false
set_option maxRecDepth 100000
abbrev bX:=@decide_eq_false
abbrev rJ:=@beq_eq_false_iff_ne
abbrev yc:=@List.getElem?_eq_none_iff
abbrev ae:=@if_pos
abbrev aa:=@if_neg
abbrev aS:=@PySem.Heap.lt_size
abbrev c_:=@Nat.lt_of_lt_of_le
abbrev d7:=@Nat.lt_irrefl
abbrev bR:=@Nat.ne_of_lt
abbrev uR:=@PySem.W.hideAll_get
abbrev gJ:=@List.mem_filter
abbrev cL:=@List.mem_range
abbrev bI:=@Nat.le_trans
abbrev mF:=@Nat.le_of_lt
abbrev uS:=@List.filterMap_cons
abbrev cM:=@List.mem_cons_self
abbrev bJ:=@List.mem_cons_of_mem
abbrev bE:=@List.mem_cons
abbrev dw:=@List.mem_append
abbrev mG:=@List.mem_append_left
abbrev bG:=@List.getElem?_eq_some_iff
abbrev uT:=@List.getElem_inj
abbrev cy:=@PySem.wpAny_mono
abbrev mH:=@PySem.wpAny_truthy_bool
abbrev fb:=@Array.length_toList
abbrev cW:=@congrArg
abbrev uU:=@PySem.wpAny_execs_nil
abbrev bf:=@PySem.wpAny_bind
abbrev o4:=@PySem.wpAny_holding
abbrev rK:=@PySem.wpAny_standAt
abbrev mI:=@PySem.wpAny_passesOwn
abbrev cO:=@Bool.false_ne_true
abbrev dm:=@PySem.wpAny_pure
abbrev bO:=@PySem.Heap.get?_push_of_some
abbrev dQ:=@PySem.Heap.get?_push_size
abbrev av:=@Nat.le_refl
abbrev rM:=@PyProof.Rows.callWith_type1
abbrev uV:=@List.mem_filterMap
abbrev d8:=@List.mem_append_right
abbrev bD:=@Nat.zero_le
abbrev mJ:=@Bool.eq_iff_iff
abbrev mK:=@PySem.sizeLine_eq
abbrev gK:=@PySem.W.kia_one
abbrev j8:=@List.append_nil
abbrev uW:=@PySem.wpAny_Call_Name_kw
abbrev hJ:=@List.nodup_cons
abbrev yd:=@Option.isSome_iff_exists
abbrev o9:=@List.length_take
abbrev jw:=@PySem.mem_of_lookup
abbrev fF:=@List.getElem?_append_right
abbrev fG:=@List.getElem?_append_left
abbrev bq:=@List.getElem?_map
abbrev rN:=@List.mem_of_getElem?
abbrev dF:=@List.length_append
abbrev aK:=@List.length_map
abbrev cQ:=@List.map_cons
abbrev bS:=@List.size_toArray
abbrev ye:=@PySem.Heap.get?_update_other
abbrev o_:=@Bool.and_eq_true
abbrev rO:=@List.any_cons
abbrev k6:=@List.replicate_succ
abbrev pb:=@List.flatten_cons
abbrev hU:=@Nat.le_succ
abbrev fg:=@List.append_assoc
abbrev rQ:=@List.length_singleton
abbrev uX:=@Array.getElem?_toList
abbrev uY:=@List.nil_append
abbrev bF:=@decide_eq_true
abbrev mL:=@Nat.not_lt_zero
abbrev cz:=@PySem.W.mg_of
abbrev ph:=@Nat.lt_of_le_of_lt
abbrev yf:=@PySem.F.typeOf_object_class
abbrev rR:=@PySem.wpAny_loadPart_at
abbrev pj:=@List.all_eq_true
abbrev yg:=@PySem.wpAny_comprehension_free
abbrev d9:=@List.length_cons
abbrev yh:=@PySem.codeAny_compLoop_tests
abbrev uZ:=@PySem.lookup_relabel_local
abbrev yi:=@PySem.codeAny_compStart_list
abbrev cp:=@Int.le_of_lt
abbrev dG:=@List.getD_eq_getElem?_getD
abbrev dq:=@List.mem_singleton
abbrev dR:=@List.length_range
abbrev j9:=@List.getElem?_range
abbrev u0:=@beq_self_eq_true
abbrev cR:=@List.getElem_mem
abbrev pA:=@Nat.sub_self
abbrev iS:=@List.take_length
abbrev mM:=@List.not_mem_nil
abbrev rS:=@Nat.lt_succ_of_lt
abbrev u4:=@List.lookup_cons
abbrev rT:=@List.ext_getElem?
abbrev rV:=@List.getElem?_eq_none
abbrev dH:=@Int.toNat_natCast
abbrev pB:=@List.range_succ
abbrev j_:=@List.map_append
abbrev gM:=@List.map_congr_left
abbrev gx:=@List.ext_getElem
abbrev jx:=@List.nodup_nil
abbrev pC:=@PySem.SeqAt.EqAt.of_refs
abbrev mO:=@PySem.Around.in1_units
abbrev aq:=@PyProof.Rows.wpS_bind
abbrev gN:=@PyProof.Rows.wpS_get
abbrev ao:=@PyProof.Rows.wpS_pure
abbrev eE:=@PyProof.Rows.wpS_forRange
abbrev eU:=@PyProof.Rows.wpS_mono
abbrev mP:=@List.perm_append_comm
abbrev mQ:=@List.take_append_drop
abbrev yj:=@List.Perm.append_left
abbrev yk:=@List.take_of_length_le
abbrev u5:=@List.getElem_of_mem
abbrev kd:=@Int.le_refl
abbrev pD:=@List.pairwise_iff_getElem
abbrev iT:=@PyProof.Rows.wpS_modify
abbrev hV:=@of_decide_eq_true
abbrev cG:=@Int.le_trans
abbrev k8:=@Array.toList_push
abbrev jy:=@Array.toList_append
abbrev mR:=@PySem.wpAny_rule
abbrev u6:=@List.Pairwise.imp
abbrev u7:=@Array.toList_reverse
abbrev jA:=@List.mem_reverse
abbrev ke:=@List.reverse_perm
abbrev dy:=@Nat.zero_add
abbrev rW:=@Nat.add_zero
abbrev mS:=@Array.perm_iff_toList_perm
abbrev b9:=@List.getElem?_eq_getElem
abbrev cH:=@List.map_map
abbrev pE:=@PySem.Heap.get?_push_ne
abbrev u9:=@PySem.Heap.get?_update_ne
abbrev rX:=@List.nodup_range
abbrev eV:=@List.getElem_map
abbrev kf:=@List.getElem_range
abbrev dr:=@List.mem_map
abbrev fh:=@Int.eq_ofNat_of_zero_le
abbrev k_:=@List.take_succ
abbrev pF:=@List.pairwise_cons
abbrev kg:=@List.nodup_append
abbrev u_:=@Nat.add_sub_cancel
abbrev lh:=@List.filter_append
abbrev rY:=@List.length_filter_le
abbrev va:=@List.pairwise_map
abbrev yl:=@List.pairwise_lt_range
abbrev vb:=@List.find?_cons
abbrev lp:=@decide_eq_true_iff
abbrev ym:=@List.length_erase_of_mem
abbrev iU:=@List.idxOf_lt_length_of_mem
abbrev rZ:=@List.getElem_idxOf
abbrev r0:=@Option.some.injEq
abbrev pG:=@List.map_id
abbrev d_:=@List.sum_cons
abbrev vc:=@List.idxOf_cons_self
abbrev iV:=@List.filter_cons
abbrev lq:=@List.idxOf_append
abbrev pH:=@Classical.byContradiction
abbrev vd:=@List.filter_eq_nil_iff
abbrev ve:=@List.append_inj'
abbrev yn:=@List.mem_of_mem_erase
abbrev pI:=@PySem.wpAny_ite_split
abbrev eF:=@PySem.PassesOwn.never
abbrev vf:=@PyProof.Rows.boot_sorted
abbrev jB:=@PySem.boot_len
abbrev fH:=@PySem.F.plainAttrs_list
abbrev kh:=@Int.emod_nonneg
abbrev mT:=@Int.emod_lt_of_pos
abbrev vg:=@Int.ediv_nonneg
abbrev jC:=@PySem.F.slot_list_append
abbrev jD:=@PySem.F.type_list_append
abbrev r6:=@Nat.mul_le_mul
abbrev eG:=@PySem.W.mg_none_of
abbrev RF:=List (List (Int×Int))
abbrev ay:=List (Int×Int)
abbrev RR:=Nat→Nat→Int
abbrev bV:=PySem.Str→Option PySem.Value
abbrev aI:=PySem.Value→PySem.Shared→Prop
abbrev aD:=PySem.W.Frag
abbrev aG:=List (PySem.Addr×PySem.Obj)
namespace L2
open PySem PySem.Spec PyProof.Rows
abbrev Key:=Sum Int Str
def mU:Key→Value→Bool
 | .inl k,v=>Value.isInt k v
 | .inr x,v=>Value.isStrOf x v
def GI(w:World):Key→Int
 | .inl k=>hashInt k
 | .inr x=>hashStr w x
theorem jE:∀{k:Key} {v:Value},mU k v=true→(∃i t,k=Sum.inl i∧v=Value.int i t)∨(∃x t,k=Sum.inr x∧v=Value.str x t)
 | .inl i,v,h=>by obtain ⟨t,e⟩:=Value.isInt_shape (k:=i) (v:=v) h;exact .inl ⟨i,t,rfl,e⟩
 | .inr x,v,h=>by obtain ⟨t,e⟩:=Value.isStrOf_shape (x:=x) (v:=v) h;exact .inr ⟨x,t,rfl,e⟩
theorem GJ(i:Int)(t:Tok):mU (.inl i) (.int i t)=true:=by simp [mU,Value.isInt]
theorem GK(x:Str)(t:Tok):mU (.inr x) (.str x t)=true:=by simp [mU,Value.isStrOf]
theorem GL(a b:Int):decide ((Sum.inl a:Key)=Sum.inl b)=(a == b):=by
 by_cases e:a=b;·subst e;simp
 ·have h:¬(Sum.inl a:Key)=Sum.inl b:=fun q=>e (Sum.inl.inj q)
  rw [bX h];exact (rJ.mpr e).symm
theorem GN(a b:Str):decide ((Sum.inr a:Key)=Sum.inr b)=decide (a=b):=by
 by_cases e:a=b;·subst e;simp
 ·have h:¬(Sum.inr a:Key)=Sum.inr b:=fun q=>e (Sum.inr.inj q)
  rw [bX h,bX e]
theorem GO(a:Int)(b:Str):decide ((Sum.inl a:Key)=Sum.inr b)=false:=bX (fun q=>nomatch q)
theorem GP(a:Str)(b:Int):decide ((Sum.inr a:Key)=Sum.inl b)=false:=bX (fun q=>nomatch q)
def fi(prog:Program)(w:World):PySem.KeyKind prog w Key where
 is:=mU
 hash:=GI w
 inj:=fun v a b ha hb=>by
  rcases jE ha with ⟨i,t,rfl,rfl⟩ | ⟨x,t,rfl,rfl⟩
  ·rcases jE hb with ⟨j,u,rfl,e⟩ | ⟨y,u,rfl,e⟩
   ·injection e with e1 _;rw [e1]
   ·exact nomatch e
  ·rcases jE hb with ⟨j,u,rfl,e⟩ | ⟨y,u,rfl,e⟩
   ·exact nomatch e
   ·injection e with e1 _;rw [e1]
 byValue:=fun k v h=>by
  rcases jE h with ⟨i,t,rfl,rfl⟩ | ⟨x,t,rfl,rfl⟩ <;> rfl
 pyHash:=fun hv h=>by
  rcases jE hv with ⟨i,t,rfl,rfl⟩ | ⟨x,t,rfl,rfl⟩
  ·exact wpAny_pyHash_int h
  ·exact wpAny_pyHash_str h
 eqBool:=fun hu hv h=>by
  rcases jE hu with ⟨i,t,rfl,rfl⟩ | ⟨x,t,rfl,rfl⟩
  ·rcases jE hv with ⟨j,u,rfl,rfl⟩ | ⟨y,u,rfl,rfl⟩
   ·rw [GL] at h;exact wpAny_eqBool_int h
   ·rw [GO] at h;exact SeqAt.EqAt.int_str i t y u _ _ _ _ h
  ·rcases jE hv with ⟨j,u,rfl,rfl⟩ | ⟨y,u,rfl,rfl⟩
   ·rw [GP] at h;exact SeqAt.EqAt.str_int x t j u _ _ _ _ h
   ·rw [GN] at h;exact wpAny_eqBool_str h
 «strs»:=fun k x t v h=>by
  rcases jE h with ⟨i,u,rfl,e⟩ | ⟨y,u,rfl,e⟩
  ·exact nomatch e
  ·injection e with e1 _
   subst e1
   cases v <;> rfl
theorem GQ(prog:Program)(w:World)(i:Int)(t:Tok):(fi prog w).is (.inl i) (.int i t)=true:=GJ i t
theorem GR(prog:Program)(w:World)(x:Str)(t:Tok):(fi prog w).is (.inr x) (.str x t)=true:=GK x t
inductive V where
 | aM | bl (b:Bool) | int (i:Int) | str (x:Str) | iW (b:Array UInt8) | pJ (b:UInt64) | ref (a:Addr) | ty (n:String)
 deriving DecidableEq
def RelV:V→Value→Prop
 | .aM,u=>u=Value.none
 | .bl b,u=>u=Value.bool b
 | .int i,u=>∃t,u=Value.int i t
 | .str x,u=>∃t,u=Value.str x t
 | .iW b,u=>∃t,u=Value.bytes b t
 | .pJ b,u=>∃t,u=Value.float b t
 | .ref a,u=>u=Value.ref a
 | .ty n,u=>u=Value.type n
abbrev Vals:List V→List Value→Prop:=Paired RelV
variable {xs:List V} {us:List Value}
theorem Vals.length(r:Vals xs us):xs.length=us.length:=Paired.length r
theorem Vals.get:∀{xs:List V} {us:List Value} {i:Nat} {x:V},Vals xs us→xs[i]?=some x→∃u,us[i]?=some u∧RelV x u
 | _,_,_,_,.nil,e=>by simp at e
 | _,_,0,_,.cons r _,e=>by simp at e;subst e;exact ⟨_,rfl,r⟩
 | _,_,i+1,x,.cons _ t,e=>by
  obtain ⟨u,h1,h2⟩:=Vals.get (i:=i) (x:=x) t (by simpa using e)
  exact ⟨u,by simpa using h1,h2⟩
theorem Vals.set{x:V}{u:Value}(r:RelV x u):∀{xs:List V} {us:List Value} (i:Nat),Vals xs us→Vals (xs.set i x) (us.set i u)
 | _,_,_,.nil=>.nil
 | _,_,0,.cons _ t=>.cons r t
 | _,_,i+1,.cons q t=>.cons q (Vals.set r i t)
theorem Vals.append:∀{xs ys:List V} {us ws:List Value},Vals xs us→Vals ys ws→Vals (xs++ys) (us++ws)
 | _,_,_,_,.nil,s=>s
 | _,_,_,_,.cons r t,s=>.cons r (Vals.append t s)
theorem Vals.take:∀{xs:List V} {us:List Value} (n:Nat),Vals xs us→Vals (xs.take n) (us.take n)
 | _,_,0,_=>.nil
 | _,_,_+1,.nil=>.nil
 | _,_,n+1,.cons r t=>.cons r (Vals.take n t)
theorem Vals.drop:∀{xs:List V} {us:List Value} (n:Nat),Vals xs us→Vals (xs.drop n) (us.drop n)
 | _,_,0,r=>r
 | _,_,_+1,.nil=>.nil
 | _,_,n+1,.cons _ t=>Vals.drop n t
theorem Vals.none_of:∀{xs:List V} {us:List Value} {i:Nat},Vals xs us→xs[i]?=none→us[i]?=none:=fun{xs us i} r e=>by have h1:=r.length;have h2:xs.length≤i:=yc.mp e;exact yc.mpr (by omega)
def pK:Option V→Option Value→Prop
 | some v,some u=>RelV v u
 | none,none=>True
 | _,_=>False
def KV{κ:Type}:List (κ×V)→List (κ×Value)→Prop:=Paired fun(p:κ×V) (q:κ×Value)=>p.1=q.1∧RelV p.2 q.2
def kV:Key→V
 | .inl i=>.int i
 | .inr x=>.str x
inductive HO where
 | lst (xs:List V)
 | tup (xs:List V)
 | dK (kvs:List (Key×V)) | dT (kvs:List (List Key×V))
 | set (S:Int→Bool) (n:Nat)
 | ins (C dx:Addr) (fs:List (Str×V))
 | own (x:Addr)
 | xd (fs:List (Str×V))
 | met (f x:Addr)
 | eg (lo hi:Int)
 | bg (o:Obj) (u:HO)
 | cm (ps:Array Value)
 | ext (φ:Heap→Prop)
abbrev Hp:=Addr→Option HO
def upd(H:Hp)(a:Addr)(o:HO):Hp:=fun b=>if b=a then some o else H b
variable {H:Hp} {a:Addr} {o:HO}
theorem aw:upd H a o a=some o:=by unfold upd;rw [ae rfl]
variable {b:Addr}
theorem aE(h:b≠a):upd H a o b=H b:=by unfold upd;rw [aa h]
theorem GS{u:HO}(h:H a=some o)(h':H b=some u)(d:o≠u):a≠b:=by intro e;subst e;rw [h] at h';exact d (Option.some.inj h')
theorem fj(h:H a=some o)(h':H b=none):a≠b:=by intro e;subst e;rw [h] at h';cases h'
section
variable (P:Program) (w:World)
def bu(H:Hp)(h:Heap)(a:Addr):HO→Prop
 | .lst xs=>xs.length≤sizeLine∧∃(its:List Value) (n:Nat),Vals xs its∧h.get? a=some {cls:=.type "list",data:=.seq its.toArray n}
 | .tup xs=>xs.length≤sizeLine∧∃its:List Value,Vals xs its∧IsTup h a its.toArray
 | .dK kvs=>kvs.length≤sizeLine∧(a == sysModules)=false∧∃vs,KV kvs vs∧h.DictOf (fi P w) a vs
 | .dT kvs=>kvs.length≤sizeLine∧(a == sysModules)=false∧∃xs:List (List Key×Addr×Value),
   Paired (fun(p:List Key×V) (q:List Key×Addr×Value)=>p.1=q.1∧H q.2.1=some (.tup (p.1.map kV))∧RelV p.2 q.2.2) kvs xs ∧
   ∃o es ep,h.get? a=some o∧o.ExactDict∧o.data=.dict es ep∧es.toList=xs.map (entryOfKey (tupleKind (fi P w)))∧(xs.map (·.1)).Nodup
 | .set S n=>h.SetOf (intKind P w) a S n
 | .ins C dx fs=>H dx=some (.own a)∧fs.length≤1000∧dx≠a∧h.get? a=some (PySem.W.instObj C dx) ∧
   ∃mA,h.Ns1 dx mA∧(∀f,pK (fs.lookup f) (mA f))∧PySem.Within mA (fs.map (·.1))
 | .own _=>∃o,h.get? a=some o
 | .xd fs=>∃mA,h.Ns1 a mA∧∀f,pK (fs.lookup f) (mA f)
 | .eg lo hi=>∃t u v,h.get? a=some {cls:=.type "range",data:=.fields #[.int lo t,.int hi u,.int 1 v]}
 | .bg o u=>h.get? a=some o∧bu H h a u
 | .cm ps=>h.get? a=some {cls:=.none,data:=.fields ps}
 | .met f x=>h.get? a=some (PySem.W.methodObj (.ref f) (.ref x))
 | .ext φ=>φ h∧(∃o,h.get? a=some o)∧∀h1 h2:Heap,φ h1→(∀o,h1.get? a=some o→h2.get? a=some o)→φ h2
def bQ(H:Hp)(h:Heap):Prop:=∀a o,H a=some o→bu P w H h a o
end
section
variable {P:Program} {w:World} {H H':Hp} {h h':Heap} {a:Addr} {o:HO}
theorem bu.lt(x:bu P w H h a o):a<h.objs.size:=by
 cases o with
 | lst xs=>obtain ⟨_,_,_,_,e⟩:=x;exact aS e
 | tup xs=>obtain ⟨_,_,_,p⟩:=x;exact p.lt
 | dK kvs=>obtain ⟨_,_,_,_,o,_,_,e,_⟩:=x;exact aS e
 | dT kvs=>obtain ⟨_,_,_,_,o,_,_,e,_⟩:=x;exact aS e
 | set S n=>obtain ⟨o,_,_,_,e,_⟩:=x;exact aS e
 | ins C dx fs=>obtain ⟨_,_,_,e,_⟩:=x;exact aS e
 | own y=>obtain ⟨_,e⟩:=x;exact aS e
 | xd fs=>obtain ⟨_,⟨_,_,_,e,_⟩,_⟩:=x;exact aS e
 | eg lo hi=>obtain ⟨_,_,_,e⟩:=x;exact aS e
 | bg ob u=>obtain ⟨e,_⟩:=x;exact aS e
 | cm ps=>exact aS (show h.get? a=some _ from x)
 | met f y=>exact aS (show h.get? a=some _ from x)
 | ext φ=>obtain ⟨_,⟨_,e⟩,_⟩:=x;exact aS e
theorem Paired.yo{α β:Type}{F G:α→β→Prop}:∀{l₁:List α} {l₂:List β},Paired F l₁ l₂→(∀a b,F a b→G a b)→Paired G l₁ l₂
 | _,_,.nil,_=>.nil
 | _,_,.cons r t,f=>.cons (f _ _ r) (Paired.yo t f)
theorem bu.gO(x:bu P w H h a o)(k:∀b u,(b=a∨H b=some (.own a))→h.get? b=some u→h'.get? b=some u)
  (ho:∀b,H b=some (.own a)→H' b=some (.own a)) (ht:∀b xs,H b=some (.tup xs)→H' b=some (.tup xs)):bu P w H' h' a o:=by
 induction o with
 | lst xs=>obtain ⟨z,its,n,r,e⟩:=x;exact ⟨z,its,n,r,k _ _ (.inl rfl) e⟩
 | tup xs=>obtain ⟨z,its,r,ob,e,c⟩:=x;exact ⟨z,its,r,ob,k _ _ (.inl rfl) e,c⟩
 | dK kvs=>obtain ⟨z,y,vs,r,ob,es,ep,e,c⟩:=x;exact ⟨z,y,vs,r,ob,es,ep,k _ _ (.inl rfl) e,c⟩
 | dT kvs=>obtain ⟨z,y,xs,r,ob,es,ep,e,c⟩:=x;exact ⟨z,y,xs,Paired.yo r fun p q z=>⟨z.1,ht _ _ z.2.1,z.2.2⟩,ob,es,ep,k _ _ (.inl rfl) e,c⟩
 | set S n=>obtain ⟨ob,es,ep,t,e,c⟩:=x;exact ⟨ob,es,ep,t,k _ _ (.inl rfl) e,c⟩
 | ins C dx fs=>obtain ⟨d,z,ne,e,mA,⟨od,es,ep,e2,c⟩,r⟩:=x;exact ⟨ho _ d,z,ne,k _ _ (.inl rfl) e,mA,⟨od,es,ep,k _ _ (.inr d) e2,c⟩,r⟩
 | own y=>obtain ⟨ob,e⟩:=x;exact ⟨ob,k _ _ (.inl rfl) e⟩
 | xd fs=>obtain ⟨mA,⟨od,es,ep,e,c⟩,r⟩:=x;exact ⟨mA,⟨od,es,ep,k _ _ (.inl rfl) e,c⟩,r⟩
 | eg lo hi=>obtain ⟨t,u,v,e⟩:=x;exact ⟨t,u,v,k _ _ (.inl rfl) e⟩
 | bg ob u ih=>obtain ⟨e,q⟩:=x;exact ⟨k _ _ (.inl rfl) e,ih q⟩
 | cm ps=>have e:h.get? a=some {cls:=.none,data:=.fields ps}:=x;show h'.get? a=some {cls:=.none,data:=.fields ps};exact k a _ (.inl rfl) e
 | met f y=>have e:h.get? a=some (PySem.W.methodObj (.ref f) (.ref y)):=x;show h'.get? a=some (PySem.W.methodObj (.ref f) (.ref y));exact k a _ (.inl rfl) e
 | ext φ=>obtain ⟨p,⟨o,e⟩,st⟩:=x;exact ⟨st _ _ p fun o q=>k _ _ (.inl rfl) q,⟨o,k _ _ (.inl rfl) e⟩,st⟩
theorem bQ.lt(x:bQ P w H h)(e:H a=some o):a<h.objs.size:=(x a o e).lt
theorem bQ.fresh(x:bQ P w H h)(e:h.objs.size≤a):H a=none:=by
 cases q:H a with
 | none=>rfl
 | some u=>exact absurd (c_ (x.lt q) e) (d7 _)
theorem bQ.kept(x:bQ P w H h)(k:∀b u,h.get? b=some u→h'.get? b=some u):bQ P w H h':=fun a o e=>(x a o e).gO (fun b u _ q=>k b u q) (fun _ q=>q) fun _ _ q=>q
theorem bQ.laid(x:bQ P w H h)(k:∀b u,h.get? b=some u→h'.get? b=some u)(hp:h.objs.size≤a)(new:bu P w (upd H a o) h' a o):bQ P w (upd H a o) h':=fun b u e=>by
 have hn:=x.fresh hp;by_cases hb:b=a;·subst hb;rw [aw] at e;cases e;exact new
 ·rw [aE hb] at e
  exact (x b u e).gO (fun c v _ q=>k c v q) (fun c q=>by rw [aE (fj q hn)];exact q) fun c xs q=>by rw [aE (fj q hn)];exact q
end
def Rd(H:Hp)(a:Addr)(u:HO):Prop:=H a=some u∨∃o,H a=some (.bg o u)
variable {P:Program} {w:World} {h:Heap}
theorem Rd.ok{u:HO}(r:Rd H a u)(x:bQ P w H h):bu P w H h a u:=by
 rcases r with r | ⟨o,r⟩;·exact x a u r
 ·obtain ⟨_,q⟩:=x a _ r
  exact q
def r_:Option HO→Prop
 | some (.lst _)=>True
 | some (.dK _)=>True
 | some (.dT _)=>True
 | some (.set _ _)=>True
 | some (.ins _ _ _)=>True
 | some (.ext _)=>True
 | _=>False
section
variable {P:Program} {w:World} {H:Hp} {h h':Heap} {x e:Addr} {o':HO}
theorem bQ.write(ok:bQ P w H h)(mu:r_ (H x))(he:e=x∨H e=some (.own x))(k:∀b u,b≠e→h.get? b=some u→h'.get? b=some u)(pL:∃u,h'.get? e=some u)
  (new:bu P w (upd H x o') h' x o'):bQ P w (upd H x o') h':=fun b u q=>by
 have Bz:∀c y,H c=some (.own y)→c≠x:=fun c y r z=>by subst z;rw [r] at mu;exact mu
 have GU:∀c xs,H c=some (.tup xs)→c≠x:=fun c xs r z=>by subst z;rw [r] at mu;exact mu
 by_cases hb:b=x;·subst hb;rw [aw] at q;cases q;exact new
 ·rw [aE hb] at q
  by_cases mV:b=e
  ·have q':H b=some (.own x):=by
    rcases he with z | z;·exact absurd (mV.trans z) hb
    ·rw [mV];exact z
   rw [q] at q';cases q';obtain ⟨v,hv⟩:=pL;exact ⟨v,by rw [mV];exact hv⟩
  ·refine (ok b u q).gO (fun c v hc r=>k c v ?_ r) (fun c r=>by rw [aE (Bz c b r)];exact r) fun c xs r=>by rw [aE (GU c xs r)];exact r
   rcases hc with rfl | hc;·exact mV
   ·rintro rfl
    rcases he with z | z;·exact Bz c b hc z
    ·rw [hc] at z;cases z;exact hb rfl
end
structure Un (fs ex:List Addr) (H H':Hp) (h h':Heap):Prop where
 keep:∀b o,h.get? b=some o→H b=none→b∉fs→b∉ex→h'.get? b=some o
 slot:∀b o,h.get? b=some o→H b=none→b∈fs→b∉ex→∃sl,h'.get? b=some {o with slots:=sl}
 free:∀b o,h.get? b=some o→H b=none→b∉ex→H' b=none
 there:∀b o,h.get? b=some o→b∉ex→∃o',h'.get? b=some o'
 fI:∀b xs,H b=some (.tup xs)→H' b=some (.tup xs)
 fk:∀b o u,H b=some (.bg o u)→H' b=some (.bg o u)
 fm:∀b ps,H b=some (.cm ps)→∃more,H' b=some (.cm (ps++more))
section
variable {fs yp ex mW:List Addr} {H H1 H2:Hp} {h h1 h2 h':Heap} {a x e:Addr} {o:HO}
theorem Un.any(u:Un fs ex H H1 h h1){ob:Obj}(q:h.get? b=some ob)(n:H b=none)(hx:b∉ex):∃sl,h1.get? b=some {ob with slots:=sl}:=by
 by_cases hb:b∈fs;·exact u.slot b ob q n hb hx
 ·exact ⟨ob.slots,u.keep b ob q n hb hx⟩
theorem Un.kept(k:∀b u,h.get? b=some u→h'.get? b=some u):Un fs ex H H h h':=
 ⟨fun b ob q _ _ _=>k b ob q,fun b ob q _ _ _=>⟨ob.slots,k b ob q⟩,fun _ _ _ n _=>n,fun b ob q _=>⟨ob,k b ob q⟩,fun _ _ q=>q,fun _ _ _ q=>q,fun _ ps q=>⟨#[],by rw [q];simp⟩⟩
theorem Un.refl:Un fs ex H H h h:=Un.kept fun _ _ q=>q
theorem Un.laid(k:∀b u,h.get? b=some u→h'.get? b=some u)(hp:h.objs.size≤a)(hn:H a=none):Un fs ex H (upd H a o) h h' where
 keep:=fun b u q _ _ _=>k b u q
 slot:=fun b u q _ _ _=>⟨u.slots,k b u q⟩
 free:=fun b u q n _=>by rw [aE (bR (c_ (aS q) hp))];exact n
 there:=fun b u q _=>⟨u,k b u q⟩
 fI:=fun b xs q=>by rw [aE (fj q hn)];exact q
 fk:=fun b u xs q=>by rw [aE (fj q hn)];exact q
 fm:=fun b ps q=>⟨#[],by rw [aE (fj q hn),q];simp⟩
theorem Un.write(mu:r_ (H x))(he:e=x∨H e=some (.own x))(k:∀b u,b≠e→h.get? b=some u→h'.get? b=some u)(pL:∃u,h'.get? e=some u):Un fs ex H (upd H x o) h h':=by
 have hx:∀b,H b=none→b≠x:=fun b n z=>by subst z;rw [n] at mu;exact mu
 have hb:∀b,H b=none→b≠e:=fun b n z=>by
  subst z;rcases he with r | r;·exact hx b n r
  ·rw [n] at r;cases r
 have hm:∀b u,H b=some u→¬r_ (some u)→b≠x:=fun b u q nm z=>by subst z;rw [q] at mu;exact nm mu
 refine ⟨fun b u q n _ _=>k b u (hb b n) q,fun b u q n _ _=>⟨u.slots,k b u (hb b n) q⟩,fun b u q n _=>by rw [aE (hx b n)];exact n,fun b u q _=>?_,
  fun b xs q=>by rw [aE (hm b _ q fun z=>z)];exact q,fun b u xs q=>by rw [aE (hm b _ q fun z=>z)];exact q,fun b ps q=>⟨#[],by rw [aE (hm b _ q fun z=>z),q];simp⟩⟩
 by_cases mV:b=e;·subst mV;exact pL
 ·exact ⟨u,k b u mV q⟩
end
def vh(h:Heap)(H:Hp):List Addr:=(List.range h.objs.size).filter fun a=>(H a).isSome
def jF(h:Heap)(H:Hp):Heap:=PySem.W.hideAll h (vh h H)
theorem GV(h:Heap)(H:Hp):(jF h H).objs.size=h.objs.size:=PySem.W.hideAll_size _ _
theorem GW{o:Obj}(e:h.get? b=some o)(n:H b=none):(jF h H).get? b=some o:=
 uR _ e fun hm=>by have q:(H b).isSome=true:=(gJ.mp hm).2;rw [n] at q;simp at q
theorem GX{o:Obj}(e:(jF h H).get? b=some o):h.get? b=some o∧H b=none:=by
 have e':h.get? b=some o:=PySem.W.of_hideAll (vh h H) e;refine ⟨e',?_⟩;cases q:H b with
 | none=>rfl
 | some x=>
  have hm:b∈vh h H:=gJ.mpr ⟨cL.mpr (aS e'),by simp [q]⟩
  have z:(jF h H).get? b=none:=PySem.W.hideAll_none (vh h H) hm;rw [z] at e;cases e
structure Mod (K:aD) (mg:bV) (base:Heap):Prop where
 cB:K.In base
 glob:base.Ns mainGlobals mg
 blt:∃mb,base.Ns builtinsNs mb∧∀x:Str,x ≠ "__name__"→mb x=bootBuiltins x
 nolimit:base.NoLimit
structure Cx where
 prog:Program
 w:World
 K:PySem.W.Frag
 mg:Str→Option Value
 base:Heap
 A:Around
 N:List Str
 s₀:Shared
 H₀:Hp
 env:Env
 outer:List Env
 stack:List Env
 ex:List Addr
 fn:Str→Bool
 calm:Bool
 pn:List (Addr×Obj)
 xe:Value→Shared→Prop
def bY(l:List Env):List Addr:=l.filterMap (·.frame)
abbrev Cx.fs (X:Cx):List Addr:=bY X.outer
def mX(sc:Scope)(x:Str):Prop:=sc.names.lookup x=some .local∨sc.names.lookup x=some .cell∨sc.names.lookup x=some .free
def Loc(sc:Scope)(x:Str):Prop:=sc.names.lookup x=some .local∨sc.names.lookup x=some .cell
def Look(env:Env)(h:Heap)(m:bV)(x:Str)(u:Value):Prop:=
 (env.kindOf x=some .local∧m x=some u)∨((env.kindOf x=some .cell∨env.kindOf x=some .free)∧∃c,env.cells.lookup x=some c∧h.IsCell c (some u))
structure Cx.Ok (X:Cx):Prop where
 mod:Mod X.K X.mg X.base
 kind:X.env.scope.kind=.function
 glob:X.env.globals=mainGlobals
 blt:X.env.builtins=builtinsNs
 above:X.s₀.heap.objs.size≤X.env.locals
 inj:∀x y c,X.env.cells.lookup x=some c→X.env.cells.lookup y=some c→x=y
 has:∀x,(X.env.kindOf x=some .cell∨X.env.kindOf x=some .free)→∃c,X.env.cells.lookup x=some c
 mY:∀x c,X.fn x=true→X.env.cells.lookup x=some c→X.s₀.heap.objs.size≤c
 hd:X.calm=true→X.A.handled=none
 frames:X.A.frames=some X.stack
 gP:X.stack=X.outer∨(X.stack=X.env::X.outer∧X.env.frame=some X.env.locals)
 BM:∀b∈X.ex,b≠X.env.locals∧∀x c,X.env.cells.lookup x=some c→c≠b
 bs:∀b o,X.base.get? b=some o→X.s₀.heap.get? b=some o∧X.H₀ b=none
 gQ:X.base.objs.size≤X.s₀.heap.objs.size
 mZ:∀b o,X.base.get? b=some o→b∉X.ex
 m5:∀b∈X.ex,b∉X.fs
 iX:X.s₀.heap.FunFrames X.base X.outer
 lA:∀b∈X.fs,X.H₀ b=none
structure Inv (X:Cx) (pins:aG) (σ:List (Option V)) (H:Hp) (s:Shared):Prop where
 ok:X.Ok
 os:s.os=X.s₀.os
 bare:AllBare s.gens
 base:Un X.fs X.ex X.H₀ H X.s₀.heap s.heap
 loc:∃m,s.heap.Ns X.env.locals m∧∀(i:Nat) (x:Str) (v:V),X.N[i]?=some x→σ[i]?=some (some v)→mX X.env.scope x→∃u,RelV v u∧Look X.env s.heap m x u
 cell:∀x c,X.env.cells.lookup x=some c→∃v,s.heap.IsCell c v
 free:H X.env.locals=none
 hW:∀x c,X.env.cells.lookup x=some c→H c=none
 pin:∀p∈X.pn++pins,s.heap.get? p.1=some p.2∧H p.1=none∧p.1≠X.env.locals∧p.1∉X.fs∧∀v,p.2.data≠.cell v
 ax:bQ X.prog X.w H s.heap
 len:σ.length=X.N.length
section
variable {X:Cx} {pins:aG} {σ:List (Option V)} {H H':Hp} {s:Shared} {h':Heap}
theorem Cx.Ok.GY(ok:X.Ok){o:Obj}(e:X.base.get? b=some o):b∉X.fs:=fun hb=>by have:=(ok.iX.mem hb).1;rw [e] at this;cases this
theorem Inv.bs(I:Inv X pins σ H s):∀b o,X.base.get? b=some o→s.heap.get? b=some o∧H b=none:=fun b o e=>⟨I.base.keep b o (I.ok.bs b o e).1 (I.ok.bs b o e).2 (I.ok.GY e) (I.ok.mZ b o e),I.base.free b o (I.ok.bs b o e).1 (I.ok.bs b o e).2 (I.ok.mZ b o e)⟩
theorem Inv.bk(I:Inv X pins σ H s):∀b o,X.base.get? b=some o→s.heap.get? b=some o:=fun b o e=>(I.bs b o e).1
theorem Inv.mod(I:Inv X pins σ H s):Mod X.K X.mg X.base:=I.ok.mod
theorem Inv.dS(I:Inv X pins σ H s):X.K.In s.heap:=I.ok.mod.cB.keeps I.bk
theorem Inv.lt(I:Inv X pins σ H s):X.env.locals<s.heap.objs.size:=let ⟨_,hn,_⟩:=I.loc;hn.lt
theorem Inv.sz(I:Inv X pins σ H s):X.s₀.heap.objs.size≤s.heap.objs.size:=bI I.ok.above (mF I.lt)
theorem Inv.GZ(I:Inv X pins σ H s)(h:s.heap.objs.size≤a):a∉X.fs:=fun hb=>by obtain ⟨_,o,ho,_⟩:=I.ok.iX.mem hb;exact absurd (c_ (aS ho) (bI I.sz h)) (d7 _)
theorem Inv.m6(I:Inv X pins σ H s):∀x c,X.env.cells.lookup x=some c→c≠X.env.locals:=fun x c e z=>by obtain ⟨v,o,ho,hd⟩:=I.cell x c e;obtain ⟨m,⟨o',es,ep,hZ,yq,_⟩,_⟩:=I.loc;rw [z,hZ] at ho;cases ho;rw [yq] at hd;cases hd
theorem Inv.iX(I:Inv X pins σ H s):s.heap.FunFrames X.base X.outer:=by
 have all:∀(l:List Env),(∀b∈bY l,b∈X.fs)→X.s₀.heap.FunFrames X.base l→s.heap.FunFrames X.base l:=by
  intro l
  induction l with
  | nil=>intro _ _;trivial
  | cons env r ih=>
   intro hs hl;obtain ⟨hk,⟨L,o,hf,hn,ho,hd⟩,hr⟩:=hl;have hL:L∈X.fs:=hs L (by unfold bY;rw [uS,hf];exact cM)
   obtain ⟨sl,e⟩:=I.base.slot L o ho (I.ok.lA L hL) hL fun z=>I.ok.m5 L z hL;exact ⟨hk,⟨L,_,hf,hn,e,hd⟩,ih (fun b hb=>hs b (by unfold bY;rw [uS,hf];exact bJ _ hb)) hr⟩
 exact all X.outer (fun _ hb=>hb) I.ok.iX
theorem Inv.stack(I:Inv X pins σ H s):s.heap.FunFrames X.base X.stack:=by
 rcases I.ok.gP with e | ⟨e,hf⟩;·rw [e];exact I.iX
 ·rw [e]
  obtain ⟨m,hn,_⟩:=I.loc;refine .cons (by rw [I.ok.kind];decide) hf hn ?_ I.iX
  exact Heap.get?_none_of_le (bI I.ok.gQ I.ok.above)
theorem Inv.si(I:Inv X pins σ H s):∀b∈bY X.stack,b∈X.env.locals::X.fs:=fun b hb=>by
 rcases I.ok.gP with e | ⟨e,hf⟩;·rw [e] at hb;exact bJ _ hb
 ·rw [e] at hb
  unfold bY at hb;rw [uS,hf] at hb;exact hb
theorem Inv.sj(I:Inv X pins σ H s):∀b∈bY X.stack,H b=none:=fun b hb=>by
 rcases bE.mp (I.si b hb) with e | hb;·rw [e];exact I.free
 ·obtain ⟨_,o,ho,_⟩:=I.ok.iX.mem hb
  exact I.base.free b o ho (I.ok.lA b hb) fun z=>I.ok.m5 b z hb
variable {g':Array GenState} {t':Nat} {d':Drawn} {ch:List Addr}
theorem Inv.step(I:Inv X pins σ H s)
  (jG:∀b∈ch,(b∈X.ex∨X.s₀.heap.objs.size≤b)∧b≠X.env.locals∧(∀x c,X.env.cells.lookup x=some c→c≠b)∧∀p∈X.pn++pins,p.1≠b)
  (keep:∀b o,b≠X.env.locals→b∉X.fs→b∉ch→s.heap.get? b=some o→H b=none→h'.get? b=some o)
  (slot:∀b o,b≠X.env.locals→b∈X.fs→b∉ch→s.heap.get? b=some o→H b=none→∃sl,h'.get? b=some {o with slots:=sl}) (free:∀b o,b∉ch→s.heap.get? b=some o→H b=none→H' b=none)
  (there:∀b o,b∉ch→s.heap.get? b=some o→∃o',h'.get? b=some o')
  (fI:∀b xs,H b=some (.tup xs)→H' b=some (.tup xs)) (fk:∀b o u,H b=some (.bg o u)→H' b=some (.bg o u)) (fm:∀b ps,H b=some (.cm ps)→∃more,H' b=some (.cm (ps++more)))
  (ns:∀m,s.heap.Ns X.env.locals m→h'.Ns X.env.locals m) (ax:bQ X.prog X.w H' h') (hg:AllBare g') :
  Inv X pins σ H' {s with heap:=h',gens:=g',drawn:=d',toks:=t'}:=by
 have jH:∀b o,X.s₀.heap.get? b=some o→b≠X.env.locals:=fun b o e=>bR (c_ (aS e) I.ok.above);have vi:∀b o,X.s₀.heap.get? b=some o→b∉X.ex→b∉ch:=fun b o e hx hb=>by
  rcases (jG b hb).1 with z | z;·exact hx z
  ·exact absurd (c_ (aS e) z) (d7 _)
 have cellK:∀x c,X.env.cells.lookup x=some c→∀v,s.heap.IsCell c v→h'.IsCell c v:=fun x c e v ⟨o,ho,hd⟩=>by
  have sk:c∉ch:=fun z=>(jG c z).2.2.1 x c e rfl;by_cases hc:c∈X.fs
  ·obtain ⟨sl,q⟩:=slot c o (I.m6 x c e) hc sk ho (I.hW x c e)
   exact ⟨_,q,hd⟩
  ·exact ⟨o,keep c o (I.m6 x c e) hc sk ho (I.hW x c e),hd⟩
 refine ⟨I.ok,I.os,hg,⟨fun b o e n hb hx=>?_,fun b o e n hb hx=>?_,fun b o e n hx=>?_,fun b o e hx=>?_,fun b xs e=>fI b xs (I.base.fI b xs e),fun b o xs e=>fk b o xs (I.base.fk b o xs e),fun b ps e=>?_⟩,?_,fun x c e=>?_,?_,fun x c e=>?_,fun p hp=>?_,ax,I.len⟩;·exact keep b o (jH b o e) hb (vi b o e hx) (I.base.keep b o e n hb hx) (I.base.free b o e n hx)
 ·obtain ⟨sl,e1⟩:=I.base.slot b o e n hb hx
  obtain ⟨G0,e2⟩:=slot b _ (jH b o e) hb (vi b o e hx) e1 (I.base.free b o e n hx);exact ⟨G0,e2⟩
 ·obtain ⟨o',e1⟩:=I.base.there b o e hx
  exact free b o' (vi b o e hx) e1 (I.base.free b o e n hx)
 ·obtain ⟨o',e1⟩:=I.base.there b o e hx
  exact there b o' (vi b o e hx) e1
 ·obtain ⟨m1,e1⟩:=I.base.fm b ps e
  obtain ⟨m2,e2⟩:=fm b _ e1;exact ⟨m1++m2,by rw [e2,Array.append_assoc]⟩
 ·obtain ⟨m,hn,hl⟩:=I.loc
  refine ⟨m,ns m hn,fun i x v e1 e2 e3=>?_⟩;obtain ⟨u,r,l⟩:=hl i x v e1 e2 e3;refine ⟨u,r,?_⟩;rcases l with l | ⟨k,c,e,z⟩;·exact .inl l
  ·exact .inr ⟨k,c,e,cellK x c e _ z⟩
 ·obtain ⟨v,z⟩:=I.cell x c e
  exact ⟨v,cellK x c e v z⟩
 ·obtain ⟨m,⟨o,_,_,ho,_⟩,_⟩:=I.loc
  exact free _ o (fun z=>(jG _ z).2.1 rfl) ho I.free
 ·obtain ⟨v,o,ho,hd⟩:=I.cell x c e
  exact free c o (fun z=>(jG c z).2.2.1 x c e rfl) ho (I.hW x c e)
 ·obtain ⟨e,n,ne,nf,d⟩:=I.pin p hp
  have sk:p.1∉ch:=fun z=>(jG p.1 z).2.2.2 p hp rfl;exact ⟨keep p.1 p.2 ne nf sk e n,free p.1 p.2 sk e n,ne,nf,d⟩
theorem Inv.un(I:Inv X pins σ H s)(u:Un X.fs [] H H' s.heap h')(ax:bQ X.prog X.w H' h'):Inv X pins σ H' {s with heap:=h',toks:=t'}:=by
 obtain ⟨m,⟨o,es,ep,ho,r⟩,_⟩:=id I.loc;obtain ⟨sl,hL⟩:=u.any ho I.free (by simp)
 exact I.step (g':=s.gens) (d':=s.drawn) (ch:=[]) (fun _ z=>nomatch z) (fun b o _ hb _ e n=>u.keep b o e n hb (by simp)) (fun b o _ hb _ e n=>u.slot b o e n hb (by simp)) (fun b o _ e n=>u.free b o e n (by simp)) (fun b o _ e=>u.there b o e (by simp)) u.fI u.fk u.fm (fun m' hm=>by obtain ⟨o',yr,h_,hZ,r'⟩:=hm;rw [ho] at hZ;cases hZ;exact ⟨_,yr,h_,hL,r'⟩) ax I.bare
theorem Inv.call(I:Inv X pins σ H s)(u:Un (bY X.stack) ch H H' s.heap h')(ax:bQ X.prog X.w H' h')(hg:AllBare g')
  (jG:∀b∈ch,(b∈X.ex∨X.s₀.heap.objs.size≤b)∧b≠X.env.locals∧(∀x c,X.env.cells.lookup x=some c→c≠b)∧∀p∈X.pn++pins,p.1≠b) :
  Inv X pins σ H' {s with heap:=h',gens:=g',drawn:=d',toks:=t'}:=by
 obtain ⟨m,⟨o,es,ep,ho,r⟩,_⟩:=id I.loc;obtain ⟨sl,hL⟩:=u.any ho I.free fun z=>(jG _ z).2.1 rfl;exact I.step (ch:=ch) jG (fun b o hL hb hc e n=>u.keep b o e n (fun z=>(bE.mp (I.si b z)).elim hL hb) hc) (fun b o _ _ hc e n=>u.any e n hc) (fun b o hc e n=>u.free b o e n hc) (fun b o hc e=>u.there b o e hc) u.fI u.fk u.fm (fun m' hm=>by obtain ⟨o',yr,h_,hZ,r'⟩:=hm;rw [ho] at hZ;cases hZ;exact ⟨_,yr,h_,hL,r'⟩) ax hg
theorem Inv.turned{it:Addr}(I:Inv X pins σ H s)(k:∀b o,b≠it→s.heap.get? b=some o→h'.get? b=some o)(hn:H it=none)(hL:it≠X.env.locals)
  (h1:it∈X.ex∨X.s₀.heap.objs.size≤it) (h2:∀x c,X.env.cells.lookup x=some c→c≠it) (h3:∀p∈X.pn++pins,p.1≠it):Inv X pins σ H {s with heap:=h',toks:=t'}:=by
 have BP:∀b u,H b=some u→b≠it:=fun b u e z=>by rw [z,hn] at e;cases e
 refine I.step (g':=s.gens) (d':=s.drawn) (ch:=[it]) (fun b hb=>?_) (fun b o _ _ hc e _=>k b o (fun z=>hc (by simp [z])) e) (fun b o _ _ hc e _=>⟨o.slots,k b o (fun z=>hc (by simp [z])) e⟩) (fun _ _ _ _ n=>n)
  (fun b o hc e=>⟨o,k b o (fun z=>hc (by simp [z])) e⟩) (fun _ _ e=>e) (fun _ _ _ e=>e) (fun b ps e=>⟨#[],by rw [e];simp⟩) (fun m hm=>?_) (fun b u e=>?_) I.bare
 ·have e:b=it:=by simpa using hb
  subst e;exact ⟨h1,hL,h2,h3⟩
 ·obtain ⟨o,es,ep,ho,r⟩:=hm
  exact ⟨o,es,ep,k _ o (Ne.symm hL) ho,r⟩
 ·refine (I.ax b u e).gO (fun c v hc q=>k c v ?_ q) (fun _ q=>q) fun _ _ q=>q
  rcases hc with z | z;·rw [z];exact BP b u e
  ·exact BP c _ z
theorem Inv.tok(I:Inv X pins σ H s)(t:Nat):Inv X pins σ H {s with toks:=t}:=I.un (h':=s.heap) (t':=t) Un.refl I.ax
theorem Inv.kept(I:Inv X pins σ H s)(k:∀b u,s.heap.get? b=some u→h'.get? b=some u):Inv X pins σ H {s with heap:=h',toks:=t'}:=I.un (Un.kept k) (I.ax.kept k)
theorem Inv.laid(I:Inv X pins σ H s)(k:∀b u,s.heap.get? b=some u→h'.get? b=some u)(hp:s.heap.objs.size≤a)(new:bu X.prog X.w (upd H a o) h' a o) :
  Inv X pins σ (upd H a o) {s with heap:=h',toks:=t'}:=I.un (Un.laid k hp (I.ax.fresh hp)) (I.ax.laid k hp new)
theorem Inv.write{x e:Addr}(I:Inv X pins σ H s)(mu:r_ (H x))(he:e=x∨H e=some (.own x))(k:∀b u,b≠e→s.heap.get? b=some u→h'.get? b=some u)(pL:∃u,h'.get? e=some u)
  (new:bu X.prog X.w (upd H x o) h' x o):Inv X pins σ (upd H x o) {s with heap:=h',toks:=t'}:=I.un (Un.write mu he k pL) (I.ax.write mu he k pL new)
theorem Inv.BQ{BR:aG}(I:Inv X pins σ H s)(h:∀p∈BR,s.heap.get? p.1=some p.2∧H p.1=none∧p.1≠X.env.locals∧p.1∉X.fs∧∀v,p.2.data≠.cell v):Inv X BR σ H s:=
 ⟨I.ok,I.os,I.bare,I.base,I.loc,I.cell,I.free,I.hW,fun p hp=>(dw.mp hp).elim (fun z=>I.pin p (mG _ z)) (h p),I.ax,I.len⟩
variable {i:Nat} {x:Str}
theorem BS{N:List Str}(hN:N.Nodup){j:Nat}(a:N[i]?=some x)(b:N[j]?=some x):i=j:=by obtain ⟨h1,e1⟩:=bG.mp a;obtain ⟨h2,e2⟩:=bG.mp b;exact (uT hN).mp (e1.trans e2.symm)
variable {M:Model} {A:Around} {E:aI} {u:Value} {Q:Unit→Shared→Prop}
theorem yt{v:V}(I:Inv X pins σ H s)(hN:X.N.Nodup)(hi:X.N[i]?=some x)(hx:Loc X.env.scope x)(r:RelV v u)
  (h:∀s',Inv X pins (σ.set i (some v)) H s'→(∃a,Heap.SameBut a s.heap s'.heap∧(a=X.env.locals∨X.env.cells.lookup x=some a))→Q () s') (hf:X.fn x=true∨X.env.scope.names.lookup x=some .local:=by first | exact .inl rfl | exact .inr rfl | assumption):wpAny M A (storeName X.env x u) Q E s:=by
 obtain ⟨m,hn,hl⟩:=id I.loc;have G1:(X.env.scope.kind == .class || (X.env.scope.kind == .module && X.env.locals != X.env.globals))=false:=by rw [I.ok.kind];rfl
 have BU:i<σ.length:=by rw [I.len];exact (bG.mp hi).1
 have m6:=I.m6;have tracked:∀{a:Addr} {h':Heap},(∃o,s.heap.get? a=some o∧H a=none)→Heap.SameBut a s.heap h'→bQ X.prog X.w H h':=fun{a h'} ha hs b ob e=>by
  obtain ⟨_,_,BV⟩:=ha;refine (I.ax b ob e).gO (fun c w' hc q=>(hs.2 c ?_).trans q) (fun _ q=>q) fun _ _ q=>q;rintro rfl;rcases hc with rfl | hc;·rw [BV] at e;cases e
  ·rw [BV] at hc;cases hc
 rcases hx with hk | hk
 ·refine wpAny_storeName_local hk hn (fun h' G2 hs=>?_) G1
  obtain ⟨oL,_,_,G3,_⟩:=id hn;refine h _ ⟨I.ok,I.os,I.bare,⟨fun b o e n hb hx=>?_,fun b o e n hb hx=>?_,I.base.free,fun b o e hx=>?_,I.base.fI,I.base.fk,I.base.fm⟩,⟨_,G2,fun j y v' e1 e2 e3=>?_⟩,fun y c e=>?_,I.free,I.hW,fun p hp=>?_,tracked ⟨oL,G3,I.free⟩ hs,by simpa using I.len⟩ ⟨_,hs,.inl rfl⟩
  ·exact (hs.2 b (bR (c_ (aS e) I.ok.above))).trans (I.base.keep b o e n hb hx)
  ·obtain ⟨sl,e1⟩:=I.base.slot b o e n hb hx
   exact ⟨sl,(hs.2 b (bR (c_ (aS e) I.ok.above))).trans e1⟩
  ·obtain ⟨o',e1⟩:=I.base.there b o e hx
   exact ⟨o',(hs.2 b (bR (c_ (aS e) I.ok.above))).trans e1⟩
  ·by_cases hj:j=i
   ·subst hj
    rw [hi] at e1;cases e1;rw [List.getElem?_set_self BU] at e2;cases e2;exact ⟨u,r,.inl ⟨hk,by simp⟩⟩
   ·rw [List.getElem?_set_ne (Ne.symm hj)] at e2
    obtain ⟨u',r',q⟩:=hl j y v' e1 e2 e3;refine ⟨u',r',?_⟩;rcases q with ⟨k,e⟩ | ⟨k,c,e,z⟩
    ·refine .inl ⟨k,?_⟩
     have:y≠x:=fun e=>hj (BS hN e1 (e▸hi));simp [this,e]
    ·exact .inr ⟨k,c,e,z.sameBut hs (m6 y c e)⟩
  ·obtain ⟨w',z⟩:=I.cell y c e
   exact ⟨w',z.sameBut hs (m6 y c e)⟩
  ·obtain ⟨e,n,ne,nf,d⟩:=I.pin p hp
   exact ⟨(hs.2 p.1 ne).trans e,n,ne,nf,d⟩
 ·have yu:X.fn x=true:=by
   rcases hf with z | z;·exact z
   ·rw [z] at hk;cases hk
  obtain ⟨c,hc⟩:=I.ok.has x (.inl hk);obtain ⟨w',z⟩:=I.cell x c hc;refine wpAny_storeName_cell I.ok.kind hk hc z (fun h' eI hs=>?_);obtain ⟨oc,BW,G4⟩:=id z;refine h {s with heap:=h'} ⟨I.ok,I.os,I.bare,⟨fun b o e n hb hx=>?_,fun b o e n hb hx=>?_,I.base.free,fun b o e hx=>?_,I.base.fI,I.base.fk,I.base.fm⟩,⟨m,hn.sameBut hs (Ne.symm (m6 x c hc)),fun j y v' e1 e2 e3=>?_⟩,fun y c' e=>?_,I.free,I.hW,fun p hp=>?_,tracked ⟨oc,BW,I.hW x c hc⟩ hs,by simpa using I.len⟩ ⟨c,hs,.inr hc⟩
  ·exact (hs.2 b (bR (c_ (aS e) (I.ok.mY x c yu hc)))).trans (I.base.keep b o e n hb hx)
  ·obtain ⟨sl,e1⟩:=I.base.slot b o e n hb hx
   exact ⟨sl,(hs.2 b (bR (c_ (aS e) (I.ok.mY x c yu hc)))).trans e1⟩
  ·obtain ⟨o',e1⟩:=I.base.there b o e hx
   exact ⟨o',(hs.2 b (bR (c_ (aS e) (I.ok.mY x c yu hc)))).trans e1⟩
  ·by_cases hj:j=i
   ·subst hj
    rw [hi] at e1;cases e1;rw [List.getElem?_set_self BU] at e2;cases e2;exact ⟨u,r,.inr ⟨.inl hk,c,hc,eI⟩⟩
   ·rw [List.getElem?_set_ne (Ne.symm hj)] at e2
    obtain ⟨u',r',q⟩:=hl j y v' e1 e2 e3;refine ⟨u',r',?_⟩;rcases q with q | ⟨k,c',e,z'⟩;·exact .inl q
    ·refine .inr ⟨k,c',e,z'.sameBut hs ?_⟩
     rintro rfl;exact hj (BS hN e1 (I.ok.inj _ _ _ e hc▸hi))
  ·by_cases sq:c'=c
   ·subst sq;exact ⟨_,eI⟩
   ·obtain ⟨w2,z2⟩:=I.cell y c' e
    exact ⟨w2,z2.sameBut hs sq⟩
  ·obtain ⟨e,n,ne,nf,d⟩:=I.pin p hp
   refine ⟨(hs.2 p.1 ?_).trans e,n,ne,nf,d⟩;intro q;rw [q,BW] at e;have q':oc=p.2:=Option.some.inj e;exact d w' (by rw [←q'];exact G4)
theorem BX{v:V}(I:Inv X pins σ H s)(hN:X.N.Nodup)(hi:X.N[i]?=some x)(hx:Loc X.env.scope x)(r:RelV v u)
  (h:∀s',Inv X pins (σ.set i (some v)) H s'→Q () s') (hf:X.fn x=true∨X.env.scope.names.lookup x=some .local:=by first | exact .inl rfl | exact .inr rfl | assumption):wpAny M A (storeName X.env x u) Q E s:=
 yt I hN hi hx r (fun s' I' _=>h s' I') hf
theorem Inv.m7{s':Shared}(I:Inv X pins σ H s)(ho:s'.os=s.os)(u:Un (bY X.stack) ch H H' s.heap s'.heap)(ax:bQ X.prog X.w H' s'.heap)(hg:AllBare s'.gens)
  (jG:∀b∈ch,(b∈X.ex∨X.s₀.heap.objs.size≤b)∧b≠X.env.locals∧(∀x c,X.env.cells.lookup x=some c→c≠b)∧∀p∈X.pn++pins,p.1≠b):Inv X pins σ H' s':=by
 obtain ⟨h',g',d',t',o'⟩:=s';have e:o'=s.os:=ho;subst e;exact I.call (g':=g') (t':=t') (d':=d') u ax hg jG
end
abbrev XK:=Value→Option Addr→Hp→Prop
abbrev St:=List (Option V)
abbrev VK:=V→Hp→Prop
abbrev TE:=St→Hp→VK→Prop
abbrev TT:=St→Hp→(Bool→Hp→Prop)→Prop
abbrev TA:=St→Hp→(List V→Hp→Prop)→Prop
structure Ends where
 nx:St→Hp→Prop
 rt:VK
 bk:St→Hp→Prop:=fun _ _=>False
 ct:St→Hp→Prop:=fun _ _=>False
abbrev TS:=Ends→St→Hp→Prop
def EP(X:Cx)(pins:aG)(σ:St)(Q:VK)(u:Value)(s':Shared):Prop:=∃v H',Inv X pins σ H' s'∧RelV v u∧Q v H'
def TP(X:Cx)(pins:aG)(σ:St)(Q:Bool→Hp→Prop)(b:Bool)(s':Shared):Prop:=∃H',Inv X pins σ H' s'∧Q b H'
def AP(X:Cx)(pins:aG)(σ:St)(Q:List V→Hp→Prop)(us:List Value)(s':Shared):Prop:=∃vs H',Inv X pins σ H' s'∧Vals vs us∧Q vs H'
def SP(X:Cx)(pins:aG)(D:Ends)(f:Flow)(s':Shared):Prop:=
 match f with
 | .next=>∃σ' H',Inv X pins σ' H' s'∧D.nx σ' H'
 | .brk=>∃σ' H',Inv X pins σ' H' s'∧D.bk σ' H'
 | .cont=>∃σ' H',Inv X pins σ' H' s'∧D.ct σ' H'
 | .ret u=>∃v σ' H',Inv X pins σ' H' s'∧RelV v u∧D.rt v H'
def PE(X:Cx)(e:Expr)(t:TE):Prop:=
 ∀(pins:aG) (s:Shared) (σ:St) (H:Hp) (Q:VK),Inv X pins σ H s→t σ H Q→wpAny (model X.prog X.w) X.A (eval e X.env) (EP X pins σ Q) X.xe s
def PT(X:Cx)(e:Expr)(t:TT):Prop:=
 ∀(pins:aG) (s:Shared) (σ:St) (H:Hp) (Q:Bool→Hp→Prop),Inv X pins σ H s→t σ H Q→wpAny (model X.prog X.w) X.A (isTrue e X.env (eval e X.env)) (TP X pins σ Q) X.xe s
def PW(X:Cx)(e:Expr)(t:TT):Prop:=
 ∀(whole:Sem Value) (pins:aG) (s:Shared) (σ:St) (H:Hp) (Q:Bool→Hp→Prop),Inv X pins σ H s→t σ H Q→wpAny (model X.prog X.w) X.A (isTrue e X.env whole) (TP X pins σ Q) X.xe s
variable {X:Cx}
theorem PW.pt{e:Expr}{t:TT}(h:PW X e t):PT X e t:=h _
def PA(X:Cx)(es:List Expr)(t:TA):Prop:=
 ∀(pos:Pos) (pins:aG) (s:Shared) (σ:St) (H:Hp) (Q:List V→Hp→Prop),Inv X pins σ H s→t σ H Q→wpAny (model X.prog X.w) X.A (spliced (backTo pos (starEach es X.env))) (AP X pins σ Q) X.xe s
def PS(X:Cx)(st:Stmt)(t:TS):Prop:=
 ∀(pins:aG) (s:Shared) (σ:St) (H:Hp) (D:Ends),Inv X pins σ H s→t D σ H→wpAny (model X.prog X.w) X.A (exec st X.env) (SP X pins D) X.xe s
def ei(X:Cx)(st:List Stmt)(t:TS):Prop:=
 ∀(pins:aG) (s:Shared) (σ:St) (H:Hp) (D:Ends),Inv X pins σ H s→t D σ H→wpAny (model X.prog X.w) X.A (execs st X.env) (SP X pins D) X.xe s
variable {M:Model} {A:Around} {E:aI} {s:Shared}
theorem aJ{α:Type}{t:Sem α}{Q Q':α→Shared→Prop}(h:wpAny M A t Q E s)(hQ:∀a s,Q a s→Q' a s):wpAny M A t Q' E s:=cy h hQ fun _ _ x=>x
section
variable {X:Cx}
variable {pins:aG} {σ:St}
theorem bin{a b:Expr}{ta tb:TE}(ha:PE X a ta)(hb:PE X b tb){R:V→V→Hp→Prop}(I:Inv X pins σ H s)(h:ta σ H fun x H1=>tb σ H1 fun y H2=>R x y H2)
  {α:Type} {Q:α→Shared→Prop} {f:Value→Value→Sem α}
  (hf:∀v u s2 x y H2,Inv X pins σ H2 s2→RelV x v→RelV y u→R x y H2→wpAny (model X.prog X.w) X.A (f v u) Q X.xe s2) :
  wpAny (model X.prog X.w) X.A (eval a X.env) (fun v s₁=>wpAny (model X.prog X.w) X.A (eval b X.env) (fun u s₂=>wpAny (model X.prog X.w) X.A (f v u) Q X.xe s₂) X.xe s₁) X.xe s:=by
 refine aJ (ha pins s σ H _ I h) fun v s1 ⟨x,H1,I1,r1,q1⟩=>?_;refine aJ (hb pins s1 σ H1 _ I1 q1) fun u s2 ⟨y,H2,I2,r2,q2⟩=>?_;exact hf v u s2 x y H2 I2 r1 r2 q2
def BY(i:Nat):TE:=fun σ H Q=>∃v,σ[i]?=some (some v)∧Q v H
def tC(v:V):TE:=fun _ H Q=>Q v H
variable {x:Str} {pos:Pos}
theorem G5{i:Nat}(hN:X.N[i]?=some x)(hv:mX X.env.scope x)(hd:(x == ("__debug__":Str))=false:=by decide)(dz:(x == ("__classdict__":Str))=false:=by decide):PE X (.Name x pos) (BY i):=by
 intro pins s σ H Q I h;obtain ⟨v,e,h⟩:=h;obtain ⟨m,hn,hl⟩:=I.loc;obtain ⟨u,r,l⟩:=hl i x v hN e hv;have fin:EP X pins σ Q u s:=⟨v,H,I,r,h⟩;rcases l with ⟨hk,hm⟩ | ⟨hk,c,hc,ki⟩;·exact wpAny_Name (wpAny_loadName_local I.ok.kind hk hn hm fin) hd
 ·rcases hk with hk | hk
  ·exact wpAny_Name (wpAny_loadName_cell I.ok.kind hk hc ki fin) hd
  ·exact wpAny_Name (wpAny_loadName_free I.ok.kind hk hc ki fin dz) hd
theorem aH{i j pos}:PE X (.Constant (.int i) j pos) (tC (.int i)):=fun _ _ _ H _ I h=>wpAny_Constant_int ⟨.int i,H,I.tok _,⟨_,rfl⟩,h⟩
theorem kj{b j pos}:PE X (.Constant (.bool b) j pos) (tC (.bl b)):=fun _ _ _ H _ I h=>Constant_bool ⟨.bl b,H,I,rfl,h⟩
theorem BZ{j pos}:PE X (.Constant .none j pos) (tC .aM):=fun _ _ _ H _ I h=>Constant_none ⟨.aM,H,I,rfl,h⟩
theorem yv{x j pos}:PE X (.Constant (.str x) j pos) (tC (.str x)):=fun _ _ _ H _ I h=>Calls.Constant_str ⟨.str x,H,I.tok _,⟨_,rfl⟩,h⟩
def Gl(X:Cx)(x:Str):Prop:=X.env.kindOf x=some .globalImplicit
variable {u:Value} {Q:aI}
theorem B0(I:Inv X pins σ H s)(hg:Gl X x)(hm:X.mg x=some u)(h:Q u s)
  (hd:(x == ("__debug__":Str))=false:=by decide):wpAny (model X.prog X.w) X.A (eval (.Name x pos) X.env) Q E s:=
 Calls.Name_function_global I.ok.kind hg (Calls.loadGlobal_global (by rw [I.ok.glob];exact I.mod.glob.keeps I.bk) hm h) hd
theorem ko(I:Inv X pins σ H s)(hg:Gl X x)(hm:X.mg x=none)(hv:bootBuiltins x=some u)(h:Q u s)
  (hn:x ≠ "__name__":=by decide) (hd:(x == ("__debug__":Str))=false:=by decide):wpAny (model X.prog X.w) X.A (eval (.Name x pos) X.env) Q E s:=by
 obtain ⟨mb,h1,h2⟩:=I.mod.blt;exact Calls.Name_function_global I.ok.kind hg (Calls.loadGlobal_builtin (by rw [I.ok.glob];exact I.mod.glob.keeps I.bk) hm (by rw [I.ok.blt];exact h1.keeps I.bk) ((h2 x hn).trans hv) h) hd
theorem yw{v:V}(hg:Gl X x)(hm:X.mg x=none)(hv:bootBuiltins x=some u)(r:RelV v u)(hn:x ≠ "__name__":=by decide)(hd:(x == ("__debug__":Str))=false:=by decide):PE X (.Name x pos) (tC v):=
 fun _ _ _ H _ I h=>ko I hg hm hv ⟨v,H,I,r,h⟩ hn hd
variable {a b:Expr} {ta tb:TE} {pos:Pos}
def PC(X:Cx)(op:CmpOp)(a b:Expr)(t:TE):Prop:=
 ∀(pins:aG) (s:Shared) (σ:St) (H:Hp) (Q:VK),Inv X pins σ H s→t σ H Q→
  wpAny (model X.prog X.w) X.A (eval a X.env) (fun v s₁=>wpAny (model X.prog X.w) X.A (eval b X.env) (fun u s₂=>wpAny (model X.prog X.w) X.A (compareOp op v u) (EP X pins σ Q) X.xe s₂) X.xe s₁) X.xe s
def tB(t:TE):TT:=fun σ H Q=>t σ H fun x H1=>∃c,x=.bl c∧Q c H1
variable {t:TE}
theorem Sr{op:CmpOp}(h:PC X op a b t)(h1:behindInMarks op b=false:=by first | exact SF _ (by decide) (by decide) | rfl):PT X (.Compare a [op] [b] pos) (tB t):=by intro pins s σ H Q I hw;refine wpAny_isTrue_Compare1 (aJ (h pins s σ H _ I hw) fun v s1 h1=>aJ h1 fun u s2 h2=>aJ h2 fun c s3 ⟨x,H1,I1,r1,q1⟩=>?_) h1;obtain ⟨d,rfl,q⟩:=q1;cases r1;exact mH ⟨H1,I1,q⟩
theorem sr{e:Expr}(h:PE X e t)(he:∀whole,isTrue e X.env whole=(do let v ←whole;standAt e.pos;holding [v] (truthy v)):=by intro _;rfl):PT X e (tB t):=by
 intro pins s σ H Q I hw
 refine isTrue_plain (aJ (h pins s σ H _ I hw) fun v s1 ⟨x,H1,I1,r1,q1⟩=>?_) (he _)
 obtain ⟨d,rfl,q⟩:=q1
 cases r1
 exact mH ⟨H1,I1,q⟩
variable {tA su:TT} {rest:List Expr}
def G6(t u:TT):TT:=fun σ H Q=>t σ H fun c H1=>if c=true then u σ H1 Q else Q false H1
def G7(t u:TT):TT:=fun σ H Q=>t σ H fun c H1=>if c=true then Q true H1 else u σ H1 Q
def B1(t:TT):TT:=fun σ H Q=>t σ H fun c H1=>Q (!c) H1
theorem pw_and1(ha:PT X a tA):PW X (.BoolOp .And [a] pos) tA:=by
 intro wh pins s σ H Q I h;refine isTrue_and (aJ (ha pins s σ H Q I h) fun c s1 e=>?_);cases c with
 | true=>exact isTrue_and_nil e
 | false=>exact e
theorem pw_or1(ha:PT X a tA):PW X (.BoolOp .Or [a] pos) tA:=by
 intro wh pins s σ H Q I h;refine isTrue_or (aJ (ha pins s σ H Q I h) fun c s1 e=>?_);cases c with
 | false=>exact isTrue_or_nil e
 | true=>exact e
theorem pw_and(ha:PT X a tA)(hb:PW X (.BoolOp .And (b::rest) pos) su):PW X (.BoolOp .And (a::b::rest) pos) (G6 tA su):=by
 intro wh pins s σ H Q I h;refine isTrue_and (aJ (ha pins s σ H _ I h) fun c s1 ⟨H1,I1,q1⟩=>?_);cases c with
 | true=>exact hb wh pins s1 σ H1 Q I1 q1
 | false=>exact ⟨H1,I1,q1⟩
theorem pw_or(ha:PT X a tA)(hb:PW X (.BoolOp .Or (b::rest) pos) su):PW X (.BoolOp .Or (a::b::rest) pos) (G7 tA su):=by
 intro wh pins s σ H Q I h;refine isTrue_or (aJ (ha pins s σ H _ I h) fun c s1 ⟨H1,I1,q1⟩=>?_);cases c with
 | true=>exact ⟨H1,I1,q1⟩
 | false=>exact hb wh pins s1 σ H1 Q I1 q1
theorem yy(ha:PT X a tA):PT X (.UnaryOp .Not a pos) (B1 tA):=by intro pins s σ H Q I h;exact isTrue_not (ha pins s σ H (fun c H1=>Q (!c) H1) I h)
def G8(ta tb:TE):TE:=fun σ H Q=>ta σ H fun x H1=>∃c,x=.bl c∧if c=true then tb σ H1 Q else Q (.bl false) H1
def G9(ta tb:TE):TE:=fun σ H Q=>ta σ H fun x H1=>∃c,x=.bl c∧if c=true then Q (.bl true) H1 else tb σ H1 Q
def G_(ta:TE):TE:=fun σ H Q=>ta σ H fun x H1=>∃c,x=.bl c∧Q (.bl (!c)) H1
theorem B2{op}(h:PE X a t):PE X (.BoolOp op [a] pos) t:=fun pins s σ H Q I hw=>BoolOp_one (h pins s σ H Q I hw)
theorem Hi(ha:PE X a ta)(hb:PE X (.BoolOp .And (b::rest) pos) tb):PE X (.BoolOp .And (a::b::rest) pos) (G8 ta tb):=by
 intro pins s σ H Q I h;refine BoolOp_and (aJ (ha pins s σ H _ I h) fun v s1 ⟨x,H1,I1,r1,q1⟩=>?_);obtain ⟨c,rfl,q1⟩:=q1;cases r1;refine mH ?_;cases c with
 | true=>exact hb pins s1 σ H1 Q I1 q1
 | false=>exact ⟨.bl false,H1,I1,rfl,q1⟩
theorem Hj(ha:PE X a ta)(hb:PE X (.BoolOp .Or (b::rest) pos) tb):PE X (.BoolOp .Or (a::b::rest) pos) (G9 ta tb):=by
 intro pins s σ H Q I h;refine BoolOp_or (aJ (ha pins s σ H _ I h) fun v s1 ⟨x,H1,I1,r1,q1⟩=>?_);obtain ⟨c,rfl,q1⟩:=q1;cases r1;refine mH ?_;cases c with
 | false=>exact hb pins s1 σ H1 Q I1 q1
 | true=>exact ⟨.bl true,H1,I1,rfl,q1⟩
theorem Hk(ha:PE X a ta):PE X (.UnaryOp .Not a pos) (G_ ta):=by intro pins s σ H Q I h;refine UnaryOp_ (aJ (ha pins s σ H _ I h) fun v s1 ⟨x,H1,I1,r1,q1⟩=>?_);obtain ⟨c,rfl,q1⟩:=q1;cases r1;exact not_of (mH ⟨.bl (!c),H1,I1,rfl,q1⟩)
end
def aU(K:aD)(H:Hp)(a:Addr)(xs:List V):Prop:=
 Rd H a (.lst xs) ∨
  ∃(o:Obj) (its:Array Value) (n:Nat),K.lookup a=some o∧o.cls=.type "list"∧o.dict=none∧o.data=.seq its n∧its.size≤sizeLine∧Vals xs its.toList
def eW(K:aD)(H:Hp)(a:Addr)(xs:List V):Prop:=
 Rd H a (.tup xs) ∨
  ∃(o:Obj) (its:Array Value) (n:Nat),K.lookup a=some o∧o.cls=.type "tuple"∧o.data=.seq its n∧its.size≤sizeLine∧Vals xs its.toList
def Hl:Value→Option V
 | .none=>some .aM
 | .bool b=>some (.bl b)
 | .int i _=>some (.int i)
 | .str x _=>some (.str x)
 | .bytes b _=>some (.iW b)
 | .float b _=>some (.pJ b)
 | .ref a=>some (.ref a)
 | .type n=>some (.ty n)
 | _=>none
variable {x:V} {u:Value}
theorem RelV.abs(r:RelV x u):Hl u=some x:=by
 cases x with
 | aM=>cases r;rfl
 | bl _=>cases r;rfl
 | int _=>obtain ⟨t,rfl⟩:=r;rfl
 | str _=>obtain ⟨t,rfl⟩:=r;rfl
 | iW _=>obtain ⟨t,rfl⟩:=r;rfl
 | pJ _=>obtain ⟨t,rfl⟩:=r;rfl
 | ref _=>cases r;rfl
 | ty _=>cases r;rfl
theorem RelV.inj{y:V}(r:RelV x u)(q:RelV y u):x=y:=Option.some.inj (r.abs.symm.trans q.abs)
theorem Vals.inj:∀{xs ys:List V} {us:List Value},Vals xs us→Vals ys us→xs=ys
 | _,_,_,.nil,.nil=>rfl
 | _,_,_,.cons r t,.cons r' t'=>by rw [r.inj r',Vals.inj t t']
section
variable {X:Cx} {pins:aG} {σ:St} {H:Hp} {s:Shared} {a:Addr} {xs ys:List V}
variable {K:aD}
theorem aU.of(h:H a=some (.lst xs)):aU K H a xs:=.inl (.inl h)
theorem eW.of(h:H a=some (.tup xs)):eW K H a xs:=.inl (.inl h)
theorem Inv.list(I:Inv X pins σ H s)(h:aU X.K H a xs):∃its:List Value,Vals xs its∧PlainL s.heap a its.toArray∧xs.length≤sizeLine:=by
 rcases h with h | ⟨o,its,n,hk,hc,hd,hs,hz,r⟩
 ·obtain ⟨z,its,n,r,e⟩:=h.ok I.ax
  exact ⟨its,r,⟨_,n,e,rfl,rfl,rfl⟩,z⟩
 ·refine ⟨its.toList,r,⟨o,n,I.dS a o hk,hc,hd,by simpa using hs⟩,?_⟩
  have e:=r.length;simp only [fb] at e;omega
theorem Inv.tuple(I:Inv X pins σ H s)(h:eW X.K H a xs):∃its:List Value,Vals xs its∧IsTup s.heap a its.toArray∧xs.length≤sizeLine:=by
 rcases h with h | ⟨o,its,n,hk,hc,hs,hz,r⟩
 ·obtain ⟨z,its,r,p⟩:=h.ok I.ax
  exact ⟨its,r,p,z⟩
 ·refine ⟨its.toList,r,⟨o,I.dS a o hk,hc,n,by simpa using hs⟩,?_⟩
  have e:=r.length;simp only [fb] at e;omega
theorem Inv.B3(I:Inv X pins σ H s)(h:aU X.K H a xs)(h':aU X.K H a ys):xs=ys:=by
 obtain ⟨its,r,⟨o,n,e,_,_,d⟩,_⟩:=I.list h;obtain ⟨its',r',⟨o',n',e',_,_,d'⟩,_⟩:=I.list h';rw [e] at e';cases e';rw [d] at d';injection d' with d1 _;have:its=its':=by simpa using cW Array.toList d1
 subst this;exact r.inj r'
theorem Inv.Hm(I:Inv X pins σ H s)(h:eW X.K H a xs)(h':eW X.K H a ys):xs=ys:=by
 obtain ⟨its,r,⟨o,e,_,n,d⟩,_⟩:=I.tuple h;obtain ⟨its',r',⟨o',e',_,n',d'⟩,_⟩:=I.tuple h';rw [e] at e';cases e';rw [d] at d';injection d' with d1 _;have:its=its':=by simpa using cW Array.toList d1
 subst this;exact r.inj r'
end
abbrev Cx.jI (X:Cx) (E:aI):Cx:={X with xe:=E}
abbrev Cx.kq (X:Cx):Cx:=X.jI fun _ _=>False
theorem Cx.Ok.jI(ok:X.Ok)(E:aI):(X.jI E).Ok:=
 ⟨ok.mod,ok.kind,ok.glob,ok.blt,ok.above,ok.inj,ok.has,ok.mY,ok.hd,ok.frames,ok.gP,ok.BM,ok.bs,ok.gQ,ok.mZ,ok.m5,ok.iX,ok.lA⟩
theorem Cx.Ok.lB(ok:(X.jI E).Ok):X.Ok:=
 ⟨ok.mod,ok.kind,ok.glob,ok.blt,ok.above,ok.inj,ok.has,ok.mY,ok.hd,ok.frames,ok.gP,ok.BM,ok.bs,ok.gQ,ok.mZ,ok.m5,ok.iX,ok.lA⟩
section
variable {X:Cx} {pins:aG} {σ:St} {H:Hp} {s:Shared} {E:aI}
theorem Inv.jI(I:Inv X pins σ H s)(E:aI):Inv (X.jI E) pins σ H s:=⟨I.ok.jI E,I.os,I.bare,I.base,I.loc,I.cell,I.free,I.hW,I.pin,I.ax,I.len⟩
theorem Inv.lB(I:Inv (X.jI E) pins σ H s):Inv X pins σ H s:=⟨I.ok.lB,I.os,I.bare,I.base,I.loc,I.cell,I.free,I.hW,I.pin,I.ax,I.len⟩
theorem SP.lB{D:Ends}{f:Flow}{s':Shared}(h:SP (X.jI E) pins D f s'):SP X pins D f s':=by
 cases f with
 | next=>obtain ⟨σ',H',I,q⟩:=h;exact ⟨σ',H',I.lB,q⟩
 | brk=>obtain ⟨σ',H',I,q⟩:=h;exact ⟨σ',H',I.lB,q⟩
 | cont=>obtain ⟨σ',H',I,q⟩:=h;exact ⟨σ',H',I.lB,q⟩
 | ret u=>obtain ⟨v,σ',H',I,r,q⟩:=h;exact ⟨v,σ',H',I.lB,r,q⟩
theorem ei.kq{st:List Stmt}{t:TS}(h:ei X.kq st t):ei X st t:=fun pins s σ H D I hw=>cy (h pins s σ H D (I.jI _) hw) (fun _ _ q=>q.lB) fun _ _ z=>False.elim z
end
section
variable {X:Cx} {st:Stmt} {rest:List Stmt} {t u:TS} {e:Expr} {te:TE} {pos:Pos}
def kr:TS:=fun D σ H=>D.nx σ H
def yA(t u:TS):TS:=fun D σ H=>t {D with nx:=u D} σ H
theorem dI:ei X [] kr:=fun _ _ σ H _ I h=>uU ⟨σ,H,I,h⟩
theorem aF(h1:PS X st t)(h2:ei X rest u):ei X (st::rest) (yA t u):=by
 intro pins s σ H D I h;refine wpAny_execs_cons (aJ (h1 pins s σ H {D with nx:=u D} I h) fun f s1 q=>?_);cases f with
 | next=>obtain ⟨σ',H',I',q⟩:=q;exact h2 pins s1 σ' H' D I' q
 | ret v=>exact q
 | brk=>exact q
 | cont=>exact q
theorem aO(h1:PS X st t):ei X [st] t:=by
 intro pins s σ H D I h;refine wpAny_execs_cons (aJ (h1 pins s σ H D I h) fun f s1 q=>?_);cases f with
 | next=>exact uU q
 | ret v=>exact q
 | brk=>exact q
 | cont=>exact q
theorem Inv.quiet{pins:aG}{σ:St}(I:Inv X pins σ H s):interactive X.env=false:=by simp [interactive,I.ok.kind]
def Hn(te:TE):TS:=fun D σ H=>te σ H fun _ H1=>D.nx σ H1
theorem fq(he:PE X e te)(hs:swapsWith e none pos.line X.env=pure false:=by rfl):PS X (.Expr e pos) (Hn te):=by intro pins s σ H D I h;exact wpAny_Expr_any (aJ (he pins s σ H _ I h) fun v s1 ⟨x,H1,I1,r1,q1⟩=>⟨σ,H1,I1,q1⟩) I.quiet hs
def B4(te:TE):TS:=fun D σ H=>te σ H D.rt
theorem bZ(he:PE X e te):PS X (.Return (some e) pos) (B4 te):=by intro pins s σ H D I h;exact wpAny_Return_some (aJ (he pins s σ H _ I h) fun v s1 ⟨x,H1,I1,r1,q1⟩=>⟨x,σ,H1,I1,r1,q1⟩)
def yB(c:TT)(t u:TS):TS:=fun D σ H=>c σ H fun b H1=>if b=true then t D σ H1 else u D σ H1
theorem dJ{c:Expr}{a b:List Stmt}{tc:TT}(hc:PT X c tc)(ha:ei X a t)(hb:ei X b u):PS X (.If c a b pos) (yB tc t u):=by
 intro pins s σ H D I h;refine wpAny_If (aJ (hc pins s σ H _ I h) fun d s1 ⟨H1,I1,q1⟩=>?_);cases d with
 | true=>exact ha pins s1 σ H1 D I1 q1
 | false=>exact hb pins s1 σ H1 D I1 q1
end
abbrev TG:=V→St→Hp→(St→Hp→Prop)→Prop
abbrev m8:=List V→St→Hp→(St→Hp→Prop)→Prop
def PG(X:Cx)(target:Expr)(t:TG):Prop:=
 ∀(pins:aG) (s:Shared) (σ:St) (H:Hp) (v:V) (u:Value) (Q:St→Hp→Prop),Inv X pins σ H s→RelV v u→t v σ H Q→
  wpAny (model X.prog X.w) X.A (assign target X.env u) (fun _ s'=>∃σ' H',Inv X pins σ' H' s'∧Q σ' H') X.xe s
def vj(X:Cx)(ts:List Expr)(t:m8):Prop:=
 ∀(pins:aG) (s:Shared) (σ:St) (H:Hp) (vs:List V) (us:List Value) (Q:St→Hp→Prop),Inv X pins σ H s→Vals vs us→t vs σ H Q→
  wpAny (model X.prog X.w) X.A (assignInOrder ((assignEach ts X.env).map (·.2)) us) (fun _ s'=>∃σ' H',Inv X pins σ' H' s'∧Q σ' H') X.xe s
abbrev sC:=V→V→V→Hp→(Hp→Prop)→Prop
def yC(X:Cx)(t:sC):Prop:=
 ∀(pins:aG) (s:Shared) (σ:St) (H:Hp) (o i v:V) (ov iv u:Value) (Q:Hp→Prop),Inv X pins σ H s→RelV o ov→RelV i iv→RelV v u→t o i v H Q→
  wpAny (model X.prog X.w) X.A (setItem ov iv u) (fun _ s'=>∃H',Inv X pins σ H' s'∧Q H') X.xe s
abbrev vk:=V→V→Hp→VK→Prop
def B5(X:Cx)(op:Operator)(t:vk):Prop:=
 ∀(pins:aG) (s:Shared) (σ:St) (H:Hp) (x y:V) (v u:Value) (Q:VK),Inv X pins σ H s→RelV x v→RelV y u→t x y H Q→
  wpAny (model X.prog X.w) X.A (inplaceOp op v u) (EP X pins σ Q) X.xe s
section
variable {X:Cx} {pos:Pos}
def aY(i:Nat):TG:=fun v σ H Q=>Q (σ.set i (some v)) H
variable {i:Nat}
theorem da{x:Str}(hN:X.N.Nodup)(hi:X.N[i]?=some x)(hx:Loc X.env.scope x)(hf:X.fn x=true∨X.env.scope.names.lookup x=some .local:=by first | exact .inl rfl | exact .inr rfl | assumption):PG X (.Name x pos) (aY i):=by intro pins s σ H v u Q I r h;exact wpAny_assign_Name (BX I hN hi hx r (fun s' I'=>⟨_,H,I',h⟩) hf)
def Ho:m8:=fun vs σ H Q=>vs=[]∧Q σ H
def Hq(t:TG)(u:m8):m8:=fun vs σ H Q=>∃v r,vs=v::r∧t v σ H fun σ' H'=>u r σ' H' Q
theorem sD:vj X [] Ho:=by intro pins s σ H vs us Q I r h;obtain ⟨e,h⟩:=h;subst e;cases r;exact assignInOrder_nil ⟨σ,H,I,h⟩
variable {e:Expr} {es:List Expr}
theorem jJ{t:TG}{u:m8}(h1:PG X e t)(h2:vj X es u)
  (hs:(assignEach (e::es) X.env).map (·.2)=assign e X.env::(assignEach es X.env).map (·.2):=by rfl):vj X (e::es) (Hq t u):=by
 intro pins s σ H vs us Q I r h;obtain ⟨v,vr,e1,h⟩:=h;subst e1;cases r with
 | cons r rr=>rw [hs];refine assignInOrder_cons (aJ (h1 pins s σ H _ _ _ I r h) fun _ s1 ⟨σ1,H1,I1,q1⟩=>?_);exact h2 pins s1 σ1 H1 _ _ Q I1 rr q1
def Hr(K:aD)(n:Nat)(t:m8):TG:=fun v σ H Q=>∃a xs,v=.ref a∧eW K H a xs∧xs.length=n∧t xs σ H Q
theorem sE{k:Nat}{t:m8}{n:Nat}(hc:X.calm=true)(h:vj X es t)
  (hn:(assignEach es X.env).length=n:=by rfl) (Hs:(assignEach es X.env).findIdx? (·.1)=none:=by rfl):PG X (.Tuple es k pos) (Hr X.K n t):=by
 intro pins s σ H v u Q I r hw;obtain ⟨a,xs,e1,hq,hl,hw⟩:=hw;subst e1;cases r;obtain ⟨its,rv,ht,hz⟩:=I.tuple hq;refine assign_Tuple_tuple (I.ok.hd hc) ht (by simp [hn,←hl,rv.length]) Hs fun h' hx=>?_
 have I1:Inv X pins σ H {s with heap:=h'}:=I.kept (t':=s.toks) fun b o e=>hx b o (bR (aS e)) e;exact h pins _ σ H xs _ Q I1 (by simpa using rv) hw
def Ht(to ti:TE)(t:sC):TG:=fun v σ H Q=>to σ H fun o H1=>ti σ H1 fun i H2=>t o i v H2 fun H3=>Q σ H3
theorem sF{o i:Expr}{to ti:TE}{t:sC}(ho:PE X o to)(hi:PE X i ti)(hs:yC X t)
  (ha:∀v,assign (.Subscript o i pos) X.env v=(do
   let ov ←holding [v] (eval o X.env)
   let iv ←holding [v,ov] (eval i X.env)
   standAt pos
   holding [v,ov,iv] (setItem ov iv v)
   release [v,ov,iv] []):=by intro _;rfl):PG X (.Subscript o i pos) (Ht to ti t):=by
 intro pins s σ H v u Q I r h
 rw [ha]
 refine bf (o4 (aJ (ho pins s σ H _ I h) fun ov s1 ⟨x,H1,I1,r1,q1⟩=>?_))
 refine bf (o4 (aJ (hi pins s1 σ H1 _ I1 q1) fun iv s2 ⟨y,H2,I2,r2,q2⟩=>?_))
 refine bf (rK (bf (o4 (aJ (hs pins s2 σ H2 x y v ov iv u _ I2 r1 r2 r q2) fun _ s3 ⟨H3,I3,q3⟩=>?_))))
 exact wpAny_release ⟨σ,H3,I3,q3⟩
def lC(te:TE)(g:TG):TS:=fun D σ H=>te σ H fun x H1=>g x σ H1 D.nx
theorem sG{tg e:Expr}{te:TE}{g:TG}(he:PE X e te)(hg:PG X tg g)(hs:swapsWithSole [tg] e pos.line X.env=pure false:=by rfl)(hw:swappedStores [tg] e X.env=pure none:=by rfl)
  (h1:(assignEach [tg] X.env).map (·.2)=[assign tg X.env]:=by rfl):PS X (.Assign [tg] e pos) (lC te g):=by
 intro pins s σ H D I h;refine wpAny_Assign_stores (aJ (he pins s σ H _ I h) fun v s1 ⟨x,H1,I1,r1,q1⟩=>?_) hs hw;rw [h1];exact aJ (hg pins s1 σ H1 x v _ I1 r1 q1) fun _ s2 q=>q
theorem Hu{x:Str}{te:TE}{pos':Pos}(hN:X.N.Nodup)(hi:X.N[i]?=some x)(hx:Loc X.env.scope x)(he:PE X e te)(hs:swapsWith e (some (.Name x pos')) pos.line X.env=pure false:=by rfl)(hf:X.fn x=true∨X.env.scope.names.lookup x=some .local:=by first | exact .inl rfl | exact .inr rfl | assumption) :
  PS X (.Assign [.Name x pos'] e pos) (lC te (aY i)):=by
 intro pins s σ H D I h;refine wpAny_Assign_Name (aJ (he pins s σ H _ I h) fun v s1 ⟨y,H1,I1,r1,q1⟩=>?_) hs;exact BX I1 hN hi hx r1 (fun s2 I2=>⟨_,H1,I2,q1⟩) hf
def HA(to ti te:TE)(vn:V→V→Hp→VK→Prop)(vp:vk)(vt:sC):TS:=fun D σ H=>to σ H fun o H1=>ti σ H1 fun i H2=>vn o i H2 fun x H3=>te σ H3 fun y H4=>vp x y H4 fun z H5=>vt o i z H5 fun H6=>D.nx σ H6
def B6(X:Cx)(t:V→V→Hp→VK→Prop):Prop:=
 ∀(pins:aG) (s:Shared) (σ:St) (H:Hp) (o i:V) (ov iv:Value) (Q:VK),Inv X pins σ H s→RelV o ov→RelV i iv→t o i H Q→
  wpAny (model X.prog X.w) X.A (getItem ov iv) (EP X pins σ Q) X.xe s
theorem HB{o i e:Expr}{to ti te:TE}{vn:V→V→Hp→VK→Prop}{vp:vk}{vt:sC}{op:Operator}{pM:Pos}(ho:PE X o to)(hi:PE X i ti)(hg:B6 X vn)(he:PE X e te)(hp:B5 X op vp)(hs:yC X vt)
  (ha:∀ov iv new,augStore i ov iv new=(do holding [new,ov,iv] (setItem ov iv new);release [new,ov,iv] [];pure .next):=by intros;rfl):PS X (.AugAssign (.Subscript o i pM) op e pos) (HA to ti te vn vp vt):=by
 intro pins s σ H D I h
 refine wpAny_AugAssign_SubscriptAny (aJ (ho pins s σ H _ I h) fun ov s1 ⟨x1,H1,I1,r1,q1⟩=>?_) ha
 refine aJ (hi pins s1 σ H1 _ I1 q1) fun iv s2 ⟨x2,H2,I2,r2,q2⟩=>?_
 refine aJ (hg pins s2 σ H2 x1 x2 ov iv _ I2 r1 r2 q2) fun old s3 ⟨x3,H3,I3,r3,q3⟩=>?_
 refine aJ (he pins s3 σ H3 _ I3 q3) fun v s4 ⟨x4,H4,I4,r4,q4⟩=>?_
 refine aJ (hp pins s4 σ H4 x3 x4 old v _ I4 r3 r4 q4) fun new s5 ⟨x5,H5,I5,r5,q5⟩=>?_
 exact aJ (hs pins s5 σ H5 x1 x2 x5 ov iv new _ I5 r1 r2 r5 q5) fun _ s6 ⟨H6,I6,q6⟩=>⟨σ,H6,I6,q6⟩
def HC(f:Int→Int→Int):vk:=fun x y H Q=>∃i j,x=.int i∧y=.int j∧Q (.int (f i j)) H
theorem HD:B5 X .Add (HC fun i j=>i+j):=by intro pins s σ H x y v u Q I r1 r2 h;obtain ⟨i,j,e1,e2,q⟩:=h;subst e1;subst e2;obtain ⟨t,rfl⟩:=r1;obtain ⟨t',rfl⟩:=r2;exact iadd_int ⟨.int _,H,I.tok _,⟨_,rfl⟩,q⟩
end
section
variable {X:Cx} {pos:Pos}
def HE(c:TT)(tb:TS):TS:=fun D σ H=>∃W:Nat→St→Hp→Prop,(∃m,W m σ H)∧∀m σ H,W m σ H→
 c σ H fun b H1=>if b=true then ∃N:St→Hp→Prop,(∀σ' H',N σ' H'→∃m',m'<m∧W m' σ' H')∧tb {D with nx:=N,ct:=N,bk:=D.nx} σ H1 else D.nx σ H1
theorem yE{c:Expr}{body:List Stmt}{tc:TT}{tb:TS}(hp:PassesOwn (model X.prog X.w) X.A X.env X.xe)(hc:PT X c tc)(hb:ei X body tb):PS X (.While c body [] pos) (HE tc tb):=by
 intro pins s σ H D I h;obtain ⟨W,⟨m0,w0⟩,turn⟩:=h;refine wpAny_While (codeAny_whileLoop (fun n s'=>∃σ' H',Inv X pins σ' H' s'∧W n σ' H') ?_ m0 ⟨σ,H,I,w0⟩);rintro n s1 ⟨σ1,H1,I1,w1⟩;refine mI hp (aJ (hc pins s1 σ1 H1 _ I1 (turn n σ1 H1 w1)) fun b s2 ⟨H2,I2,q2⟩=>?_);cases b with
 | true=>
  obtain ⟨N,hN,q2⟩:=q2;rw [ae rfl];refine mI hp (aJ (hb pins s2 σ1 H2 _ I2 q2) fun f s3 q3=>?_);cases f with
  | next=>obtain ⟨σ3,H3,I3,n3⟩:=q3;obtain ⟨m',hm,w3⟩:=hN σ3 H3 n3;exact ⟨m',hm,σ3,H3,I3,w3⟩
  | cont=>obtain ⟨σ3,H3,I3,n3⟩:=q3;obtain ⟨m',hm,w3⟩:=hN σ3 H3 n3;exact ⟨m',hm,σ3,H3,I3,w3⟩
  | brk=>exact q3
  | ret v=>exact q3
 | false=>rw [aa cO];exact uU ⟨σ1,H2,I2,q2⟩
end
structure It where
 go:Nat→Hp→Prop
 en:Nat→Hp→V→Hp→Prop
 stop:Nat→Hp→Prop
def ku(X:Cx)(pins:aG)(H:Hp)(b:Addr):Prop:=
 H b=none∧b≠X.env.locals∧b∉X.fs∧(b∈X.ex∨X.s₀.heap.objs.size≤b)∧(∀x c,X.env.cells.lookup x=some c→c≠b)∧∀p∈X.pn++pins,p.1≠b
variable {σ:St}
theorem Inv.sI{pins:aG}{H':Hp}(I:Inv X pins σ H s)(hb:s.heap.objs.size≤b)(hn:H' b=none):ku X pins H' b:=by
 refine ⟨hn,Nat.ne_of_gt (c_ I.lt hb),I.GZ hb,.inr (bI I.sz hb),fun x c e z=>?_,fun p hp z=>?_⟩
 ·obtain ⟨v,q⟩:=I.cell x c e
  exact absurd (c_ q.lt (by rw [z];exact hb)) (d7 _)
 ·exact absurd (c_ (aS (I.pin p hp).1) (by rw [z];exact hb)) (d7 _)
structure Turn (P:Program) (w:World) (K:aD) (tg:Expr) (J:It) (fp:List Addr) (it:Addr) (tn:Nat→Heap→Prop):Prop where
 mem:it∈fp
 obj:∀i h,tn i h→∀b∈fp,∃o,h.get? b=some o∧∀v,o.data≠.cell v
 keep:∀i h h',tn i h→(∀b∈fp,∀o,h.get? b=some o→h'.get? b=some o)→tn i h'
 item:∀(X:Cx),X.prog=P→X.w=w→X.K=K→X.calm=true→∀(i:Nat) (pins:aG) (s:Shared) (σ:St) (H:Hp) (E:aI),Inv X pins σ H s→(∀b∈fp,ku X pins H b)→tn i s.heap→J.go i H→
  wpAny (model P w) X.A (pyNext (.ref it)) (fun r s1=>∃u,r=some u ∧
   wpAny (model P w) X.A (letOwnedTupleGo tg (.ref it) u) (fun _ s2=>∃x H',Inv X pins σ H' s2∧RelV x u∧J.en i H x H'∧tn (i+1) s2.heap∧∀b∈fp,H' b=none) E s1) E s
 done:∀(X:Cx),X.prog=P→X.w=w→X.K=K→X.calm=true→∀(i:Nat) (pins:aG) (s:Shared) (σ:St) (H:Hp) (E:aI),Inv X pins σ H s→(∀b∈fp,ku X pins H b)→tn i s.heap→J.stop i H→
  wpAny (model P w) X.A (pyNext (.ref it)) (fun r s1=>r=none∧Inv X pins σ H s1) E s
 self:∀(A:Around) (i:Nat) (s:Shared) (Q:aI) (E:aI),tn i s.heap→Q (.ref it) s→wpAny (model P w) A (pyIter (.ref it)) Q E s
abbrev TI:=St→Hp→(It→Hp→Prop)→Prop
def yF(X:Cx)(pins:aG)(σ:St)(tg:Expr)(R:It→Hp→Prop)(sJ:Value)(s2:Shared):Prop:=
 ∃(it:Addr) (fp:List Addr) (tn:Nat→Heap→Prop) (J:It) (H':Hp),sJ=.ref it∧Inv X pins σ H' s2∧Turn X.prog X.w X.K tg J fp it tn∧tn 0 s2.heap∧(∀b∈fp,ku X pins H' b)∧R J H'
def PI(X:Cx)(tg iter:Expr)(wi:TI):Prop:=
 ∀(pins:aG) (s:Shared) (σ:St) (H:Hp) (R:It→Hp→Prop),Inv X pins σ H s→wi σ H R→
  wpAny (model X.prog X.w) X.A (eval iter X.env) (fun v s1=>wpAny (model X.prog X.w) X.A (pyIter v) (yF X pins σ tg R) X.xe s1) X.xe s
variable {tg:Expr}
theorem vv{it:Addr}{o:Obj}{n:String}{vs:Array Value}{Q:Unit→Shared→Prop}(ho:s.heap.get? it=some o)(hc:o.cls=.type n)(hd:o.data=.fields vs)
    (hn:["enumerate","zip","dict_itemiterator","dict_reverseitemiterator","odict_iterator","itertools.zip_longest","itertools.pairwise"].contains n=false) (hQ:Q () s):wpAny M A (letOwnedTupleGo tg (.ref it) u) Q E s:=by
  unfold letOwnedTupleGo
  cases tg <;> first
    | exact dm hQ
    | (cases u <;> first
        | exact dm hQ
        | (refine bf (wpAny_load ho ?_)
           rw [hc,hd];show wpAny M A (if (["enumerate","zip","dict_itemiterator","dict_reverseitemiterator","odict_iterator","itertools.zip_longest","itertools.pairwise"].contains n && vs[0]? == some (rawInt _))=true then _ else _) Q E s
           rw [aa (by intro h;rw [hn,Bool.false_and] at h;cases h)]
           exact dm hQ))
def m9(K:aD)(a:Addr):It:=
 ⟨fun i H=>∃xs x,aU K H a xs∧xs[i]?=some x,fun i H x H'=>H'=H∧∀xs,aU K H a xs→xs[i]?=some x,fun i H=>∃xs,aU K H a xs∧xs.length≤i⟩
def sL(K:aD)(a:Addr):It:=
 ⟨fun i H=>∃xs x,eW K H a xs∧xs[i]?=some x,fun i H x H'=>H'=H∧∀xs,eW K H a xs→xs[i]?=some x,fun i H=>∃xs,eW K H a xs∧xs.length≤i⟩
def ky(lo:Int)(n:Nat):It:=⟨fun i _=>i<n,fun i H x H'=>H'=H∧x=.int (lo+i),fun i _=>n≤i⟩
variable {K:aD}
theorem HF(a it:Addr):Turn P w K tg (m9 K a) [it] it (fun i h=>h.IsListIter it a i) where
 mem:=by simp
 obj:=fun i h st b hb=>by
  have e:b=it:=by simpa using hb
  subst e;obtain ⟨o,e,c,d⟩:=st;exact ⟨o,e,fun v z=>by rw [d] at z;cases z⟩
 keep:=fun i h h' st k=>st.at fun o e=>k it (by simp) o e
 item:=by
  intro X hP hw hK hc i pins s σ H E I hf st hg;subst hP hw hK;obtain ⟨xs,x,hq,hx⟩:=hg;obtain ⟨its,rv,p,hz⟩:=I.list hq;obtain ⟨u,hu,ru⟩:=rv.get hx;obtain ⟨f0,f1,f2,f3,f4,f5⟩:=hf it (by simp)
  refine wpAny_pyNext_list_item st p.isList (x:=u) (by simpa using hu) fun h' ar sb=>?_
  have I1:Inv X pins σ H {s with heap:=h'}:=I.turned (t':=s.toks) (fun b o hb e=>(sb.2 b hb).trans e) f0 f1 f3 f4 f5;obtain ⟨o,e,c,d⟩:=id ar;exact ⟨u,rfl,vv (s:={s with heap:=h'}) e c d (by decide) ⟨x,H,I1,ru,⟨rfl,fun ys hy=>by rw [I.B3 hy hq];exact hx⟩,ar,fun b hb=>(hf b hb).1⟩⟩
 done:=by
  intro X hP hw hK hc i pins s σ H E I hf st hg;subst hP hw hK;obtain ⟨xs,hq,hx⟩:=hg;obtain ⟨its,rv,p,hz⟩:=I.list hq;obtain ⟨f0,f1,f2,f3,f4,f5⟩:=hf it (by simp)
  have hl:=rv.length;exact wpAny_pyNext_list_end (I.ok.hd hc) st p.isList (by simp;omega) fun h' eb=>⟨rfl,I.turned (t':=s.toks) (fun b o hb e=>eb b o hb e) f0 f1 f3 f4 f5⟩
 self:=fun _ _ _ _ _ st h=>wpAny_pyIter_listiter st h
theorem HG(a it:Addr):Turn P w K tg (sL K a) [it] it (fun i h=>h.IsTupleIter it a i) where
 mem:=by simp
 obj:=fun i h st b hb=>by
  have e:b=it:=by simpa using hb
  subst e;obtain ⟨o,e,c,d⟩:=st;exact ⟨o,e,fun v z=>by rw [d] at z;cases z⟩
 keep:=fun i h h' st k=>st.at fun o e=>k it (by simp) o e
 item:=by
  intro X hP hw hK hc i pins s σ H E I hf st hg;subst hP hw hK;obtain ⟨xs,x,hq,hx⟩:=hg;obtain ⟨its,rv,p,hz⟩:=I.tuple hq;obtain ⟨u,hu,ru⟩:=rv.get hx;obtain ⟨f0,f1,f2,f3,f4,f5⟩:=hf it (by simp)
  refine wpAny_pyNext_tuple_item st (show s.heap.IsTuple a its.toArray from p) (x:=u) (by simpa using hu) fun h' ar sb=>?_
  have I1:Inv X pins σ H {s with heap:=h'}:=I.turned (t':=s.toks) (fun b o hb e=>(sb.2 b hb).trans e) f0 f1 f3 f4 f5;obtain ⟨o,e,c,d⟩:=id ar;exact ⟨u,rfl,vv (s:={s with heap:=h'}) e c d (by decide) ⟨x,H,I1,ru,⟨rfl,fun ys hy=>by rw [I.Hm hy hq];exact hx⟩,ar,fun b hb=>(hf b hb).1⟩⟩
 done:=by
  intro X hP hw hK hc i pins s σ H E I hf st hg;subst hP hw hK;obtain ⟨xs,hq,hx⟩:=hg;obtain ⟨its,rv,p,hz⟩:=I.tuple hq;obtain ⟨f0,f1,f2,f3,f4,f5⟩:=hf it (by simp)
  have hl:=rv.length;exact wpAny_pyNext_tuple_end (I.ok.hd hc) st (show s.heap.IsTuple a its.toArray from p) (by simp;omega) fun h' eb=>⟨rfl,I.turned (t':=s.toks) (fun b o hb e=>eb b o hb e) f0 f1 f3 f4 f5⟩
 self:=fun _ _ _ _ _ st h=>wpAny_pyIter_tupleiter st h
theorem HH(it:Addr)(lo:Int)(n:Nat):Turn P w K tg (ky lo n) [it] it (fun i h=>IsRangeIter h it (lo+(i:Nat)*1) ((n:Int)-(i:Nat)) 1) where
 mem:=by simp
 obj:=fun i h st b hb=>by
  have e:b=it:=by simpa using hb
  subst e;exact ⟨_,st,fun v z=>by have z':Data.fields _=Data.cell v:=z;cases z'⟩
 keep:=fun i h h' st k=>k it (by simp) _ st
 item:=by
  intro X hP hw hK hc i pins s σ H E I hf st hg;subst hP hw hK;obtain ⟨f0,f1,f2,f3,f4,f5⟩:=hf it (by simp)
  have W:=Walks.range (prog:=X.prog) (w:=X.w) (I.ok.hd hc) it lo 1 n;refine W.item i s _ _ hg st fun v h' tk hv ar kk=>?_;obtain ⟨t,rfl⟩:=hv;have I1:Inv X pins σ H {s with heap:=h',toks:=tk}:=I.turned (fun b o hb e=>kk b o (by simpa using hb) e) f0 f1 f3 f4 f5
  refine ⟨_,rfl,vv (s:={s with heap:=h',toks:=tk}) (n:="range_iterator") ar rfl rfl (by decide) ⟨.int (lo+i),H,I1,⟨t,?_⟩,⟨rfl,rfl⟩,ar,fun b hb=>(hf b hb).1⟩⟩
  rw [Int.mul_one]
 done:=by
  intro X hP hw hK hc i pins s σ H E I hf st hg;subst hP hw hK;obtain ⟨f0,f1,f2,f3,f4,f5⟩:=hf it (by simp)
  exact wpAny_pyNext_range_end (I.ok.hd hc) st (by have:n≤i:=hg;omega) fun h' eb=>⟨rfl,I.turned (t':=s.toks) (fun b o hb e=>eb b o hb e) f0 f1 f3 f4 f5⟩
 self:=fun _ _ _ _ _ st h=>wpAny_pyIter_rangeiter st h
section
variable {X:Cx} {tg:Expr}
def B7(K:aD)(tl:TE):TI:=fun σ H R=>tl σ H fun x H1=>∃a,x=.ref a∧(∃xs,aU K H1 a xs)∧R (m9 K a) H1
def HI(K:aD)(tl:TE):TI:=fun σ H R=>tl σ H fun x H1=>∃a,x=.ref a∧(∃xs,eW K H1 a xs)∧R (sL K a) H1
variable {l:Expr} {tl:TE}
theorem ft(hl:PE X l tl):PI X tg l (B7 X.K tl):=by
 intro pins s σ H R I h;refine aJ (hl pins s σ H _ I h) fun v s1 ⟨x,H1,I1,r1,q1⟩=>?_;obtain ⟨a,e,⟨xs,hq⟩,q⟩:=q1;subst e;cases r1;obtain ⟨its,rv,p,hz⟩:=I1.list hq;refine wpAny_pyIter_list p.isList ?_;refine ⟨s1.heap.objs.size,[s1.heap.objs.size],_,_,H1,rfl,I1.kept (t':=s1.toks) fun b o e=>bO _ e,HF a _,⟨_,dQ _ rfl,rfl,rfl⟩,fun b hb=>?_,q⟩;have e:b=s1.heap.objs.size:=by simpa using hb
 subst e;exact I1.sI (av _) (I1.ax.fresh (av _))
theorem B8(hl:PE X l tl):PI X tg l (HI X.K tl):=by
 intro pins s σ H R I h;refine aJ (hl pins s σ H _ I h) fun v s1 ⟨x,H1,I1,r1,q1⟩=>?_;obtain ⟨a,e,⟨xs,hq⟩,q⟩:=q1;subst e;cases r1;obtain ⟨its,rv,p,hz⟩:=I1.tuple hq;refine wpAny_pyIter_tuple (show s1.heap.IsTuple a its.toArray from p) ?_;refine ⟨s1.heap.objs.size,[s1.heap.objs.size],_,_,H1,rfl,I1.kept (t':=s1.toks) fun b o e=>bO _ e,HG a _,⟨_,dQ _ rfl,rfl,rfl⟩,fun b hb=>?_,q⟩;have e:b=s1.heap.objs.size:=by simpa using hb
 subst e;exact I1.sI (av _) (I1.ax.fresh (av _))
variable {pins:aG}
theorem B9{R:It→Hp→Prop}{lo hi:Int}{t u v:Tok}{tk:Nat}(I:Inv X pins σ H s)(h1:-(2 ^ 62)≤lo)(h2:lo<2 ^ 62)(h3:-(2 ^ 62)≤hi)(h4:hi<2 ^ 62)
  (q:R (ky lo (hi-lo).toNat) H):wpAny (model X.prog X.w) X.A (pyIter (.ref s.heap.objs.size)) (yF X pins σ tg R) E {s with heap:=s.heap.push {cls:=.type "range",data:=.fields #[.int lo t,.int hi u,.int 1 v]},toks:=tk}:=by
 refine wpAny_pyIter_range (IsRange.new ..) (small_one h1 h2 h3 h4) ?_;have I1:Inv X pins σ H {s with heap:=s.heap.push {cls:=.type "range",data:=.fields #[.int lo t,.int hi u,.int 1 v]},toks:=tk}:=I.kept fun b o e=>bO _ e
 refine ⟨(s.heap.push {cls:=.type "range",data:=.fields #[.int lo t,.int hi u,.int 1 v]}).objs.size,[(s.heap.push {cls:=.type "range",data:=.fields #[.int lo t,.int hi u,.int 1 v]}).objs.size],_,_,H,rfl,
  I1.kept (t':=tk) fun b o e=>bO _ e,HH _ lo (hi-lo).toNat,?_,fun b hb=>?_,q⟩
 ·have e1:lo+((0:Nat):Int)*1=lo:=by simp
  have e2:(((hi-lo).toNat:Nat):Int)-((0:Nat):Int)=Builtin.Range.rangeSize lo hi 1:=by rw [rangeSize_one];split <;> omega
  show IsRangeIter _ _ (lo+((0:Nat):Int)*1) ((((hi-lo).toNat:Nat):Int)-((0:Nat):Int)) 1;rw [e1,e2];exact dQ _ rfl
 ·have e:b=(s.heap.push {cls:=.type "range",data:=.fields #[.int lo t,.int hi u,.int 1 v]}).objs.size:=by simpa using hb
  subst e;exact I1.sI (av _) (I1.ax.fresh (av _))
def HJ(ta:TA):TI:=fun σ H R=>ta σ H fun vs H1=>∃j:Int,vs=[.int j]∧-(2 ^ 62)≤j∧j<2 ^ 62∧R (ky 0 j.toNat) H1
def HK(ta:TA):TI:=fun σ H R=>ta σ H fun vs H1=>∃i j:Int,vs=[.int i,.int j]∧(-(2 ^ 62)≤i∧i<2 ^ 62∧-(2 ^ 62)≤j∧j<2 ^ 62)∧R (ky i (j-i).toNat) H1
variable {ta:TA} {p pos:Pos}
theorem m_{a:Expr}(hg:Gl X "range")(hm:X.mg "range"=none)(ha:PA X [a] ta)(hs:starEach [a] X.env=[(false,eval a X.env)]:=by rfl):PI X tg (.Call (.Name "range" p) [a] [] pos) (HJ ta):=by
 intro pins s σ H R I h;refine Call_ (ko I hg hm boot_range (rM (aJ (ha pos pins s σ H _ I h) fun us s1 ⟨vs,H1,I1,r1,q1⟩=>?_) hs rfl));obtain ⟨j,e,q1,q2,q⟩:=q1;subst e;cases r1 with
 | cons r rr=>cases rr;obtain ⟨t,rfl⟩:=r;exact call_range_1 (B9 I1 (by omega) (by omega) q1 q2 (by simpa using q))
theorem HL{a b:Expr}(hg:Gl X "range")(hm:X.mg "range"=none)(ha:PA X [a,b] ta)(hs:starEach [a,b] X.env=[(false,eval a X.env),(false,eval b X.env)]:=by rfl)(ng:starEach [b] X.env=[(false,eval b X.env)]:=by rfl) :
  PI X tg (.Call (.Name "range" p) [a,b] [] pos) (HK ta):=by
 intro pins s σ H R I h;refine Call_ (ko I hg hm boot_range (rM (aJ (ha pos pins s σ H _ I h) fun us s1 ⟨vs,H1,I1,r1,q1⟩=>?_) (by rw [hs,ng]) (by rw [ng];rfl)))
 obtain ⟨i,j,e,⟨q1,q2,q3,q4⟩,q⟩:=q1;subst e;cases r1 with
 | cons r rr=>
  cases rr with
  | cons r' rr=>cases rr;obtain ⟨t,rfl⟩:=r;obtain ⟨t',rfl⟩:=r';exact call_range_2 (B9 I1 q1 q2 q3 q4 q)
def HM(wi:TI)(g:TG)(tb:TS):TS:=fun D σ H=>wi σ H fun J H1=>∃W:Nat→Nat→St→Hp→Prop,(∃m,W 0 m σ H1)∧∀i m σ H,W i m σ H→
 (J.stop i H∧D.nx σ H)∨(J.go i H∧∃N:St→Hp→Prop,(∀σ' H',N σ' H'→∃m',m'<m∧W (i+1) m' σ' H')∧∀x H',J.en i H x H'→g x σ H' fun σ2 H2=>tb {D with nx:=N,ct:=N,bk:=D.nx} σ2 H2)
def jK(fp:List Addr)(h:Heap):List (Addr×Obj):=fp.filterMap fun b=>(h.get? b).map fun o=>(b,o)
variable {fp:List Addr}
theorem lE{o:Obj}(hb:b∈fp)(e:h.get? b=some o):(b,o)∈jK fp h:=uV.mpr ⟨b,hb,by rw [e];rfl⟩
theorem HN{p:Addr×Obj}(hp:p∈jK fp h):p.1∈fp∧h.get? p.1=some p.2:=by
 obtain ⟨b,hb,e⟩:=uV.mp hp;cases q:h.get? b with
 | none=>rw [q] at e;cases e
 | some o=>rw [q] at e;have e':(b,o)=p:=Option.some.inj e;subst e';exact ⟨hb,q⟩
theorem Inv.pinned(I:Inv X pins σ H s)(hf:∀b∈fp,ku X pins H b)(ho:∀b∈fp,∃o,s.heap.get? b=some o∧∀v,o.data≠.cell v):Inv X (pins++jK fp s.heap) σ H s:=
 I.BQ fun p hp=>(dw.mp hp).elim (fun z=>I.pin p (d8 _ z)) fun z=>by obtain ⟨hb,e⟩:=HN z;obtain ⟨f0,f1,f2,_⟩:=hf p.1 hb;obtain ⟨o,e',d⟩:=ho p.1 hb;rw [e] at e';cases e';exact ⟨e,f0,f1,f2,d⟩
theorem Inv.pO{pl:aG}(I:Inv X (pins++pl) σ H s):Inv X pins σ H s:=I.BQ fun p hp=>I.pin p (d8 _ (mG _ hp))
theorem fu{iter:Expr}{body:List Stmt}{wi:TI}{g:TG}{tb:TS}(hp:PassesOwn (model X.prog X.w) X.A X.env X.xe)(hc:X.calm=true)(hi:PI X tg iter wi)(hg:PG X tg g)(hb:ei X body tb)
  (hs:∀x,foldedSetIterable iter X.env x=pure x:=by intro _;rfl):PS X (.For tg iter body [] pos) (HM wi g tb):=by
 intro pins s σ H D I h;refine wpAny_For (aJ (hi pins s σ H _ I h) fun v s1 h1=>aJ h1 fun sJ s2 h2=>?_) hs;obtain ⟨it,fp,tn,J,H2,e,I2,T,gR,f2,W,⟨m0,w0⟩,turn⟩:=h2;subst e;have fJ:∀{H':Hp},(∀b∈fp,H' b=none)→∀b∈fp,ku X pins H' b:=fun hn b hb=>⟨hn b hb,(f2 b hb).2⟩;refine codeAny_forLoop_any (fun n s'=>∃i σ' H',Inv X pins σ' H' s'∧tn i s'.heap∧(∀b∈fp,H' b=none)∧W i n σ' H') ?_ m0 ⟨0,σ,H2,I2,gR,fun b hb=>(f2 b hb).1,w0⟩;rintro n s3 ⟨i,σ3,H3,I3,B_,Ca,w3⟩;rcases turn i n σ3 H3 w3 with ⟨stop,qn⟩ | ⟨go,N,hN,step⟩
 ·refine mI hp (aJ (T.done X rfl rfl rfl hc i pins s3 σ3 H3 X.xe I3 (fJ Ca) B_ stop) fun r s4 ⟨hr,I4⟩=>?_)
  subst hr;exact uU ⟨σ3,H3,I4,qn⟩
 ·refine mI hp (aJ (T.item X rfl rfl rfl hc i pins s3 σ3 H3 X.xe I3 (fJ Ca) B_ go) fun r s4 ⟨u,hr,h4⟩=>?_)
  subst hr;refine mI hp (aJ h4 fun _ s5 ⟨x,H5,I5,r5,y5,fK,nh⟩=>?_);have ni:=I5.pinned (fJ nh) (T.obj _ _ fK);refine mI hp (aJ (hg _ s5 σ3 H5 x u _ ni r5 (step x H5 y5)) fun _ s6 ⟨σ6,H6,I6,q6⟩=>?_);refine mI hp (aJ (hb _ s6 σ6 H6 _ I6 q6) fun f s7 q7=>?_);have again:∀{σ7:St} {H7:Hp},Inv X (pins++jK fp s5.heap) σ7 H7 s7→N σ7 H7→∃m,m<n∧∃i σ' H',Inv X pins σ' H' s7∧tn i s7.heap∧(∀b∈fp,H' b=none)∧W i m σ' H':=fun{σ7 H7} I7 n7=>by obtain ⟨m',hm,w7⟩:=hN σ7 H7 n7;refine ⟨m',hm,i+1,σ7,H7,I7.pO,T.keep _ _ _ fK fun b hb o e=>(I7.pin (b,o) (d8 _ (d8 _ (lE hb e)))).1,fun b hb=>?_,w7⟩;obtain ⟨o,e,d⟩:=T.obj _ _ fK b hb;exact (I7.pin (b,o) (d8 _ (d8 _ (lE hb e)))).2.1
  cases f with
  | next=>obtain ⟨σ7,H7,I7,n7⟩:=q7;exact again I7 n7
  | cont=>obtain ⟨σ7,H7,I7,n7⟩:=q7;exact again I7 n7
  | brk=>obtain ⟨σ7,H7,I7,q7⟩:=q7;exact ⟨σ7,H7,I7.pO,q7⟩
  | ret v=>obtain ⟨x7,σ7,H7,I7,r7,q7⟩:=q7;exact ⟨x7,σ7,H7,I7.pO,r7,q7⟩
end
variable {g:TG} {tb:TS} {D:Ends}
theorem pP(Pv:Nat→St→Hp→Prop)(h0:Pv 0 σ H)(hl:∀i σ H,i≤xs.length→Pv i σ H→aU K H a xs)
  (hs:∀i x σ H,xs[i]?=some x→Pv i σ H→g x σ H fun σ2 H2=>tb {D with nx:=Pv (i+1),ct:=Pv (i+1),bk:=D.nx} σ2 H2) (hd:∀σ H,Pv xs.length σ H→D.nx σ H) :
  ∃W:Nat→Nat→St→Hp→Prop,(∃m,W 0 m σ H)∧∀i m σ H,W i m σ H→
   ((m9 K a).stop i H∧D.nx σ H)∨((m9 K a).go i H∧∃N:St→Hp→Prop,(∀σ' H',N σ' H'→∃m',m'<m∧W (i+1) m' σ' H')∧∀x H',(m9 K a).en i H x H'→g x σ H' fun σ2 H2=>tb {D with nx:=N,ct:=N,bk:=D.nx} σ2 H2):=by
 refine ⟨fun i m σ H=>m=xs.length-i∧i≤xs.length∧Pv i σ H,⟨xs.length,by simp,bD _,h0⟩,?_⟩
 rintro i m σ H ⟨rfl,hi,p⟩;have q:=hl i σ H hi p;by_cases aZ:i<xs.length
 ·refine .inr ⟨⟨xs,xs[i],q,by simp [aZ]⟩,Pv (i+1),fun σ' H' p'=>⟨xs.length-(i+1),by omega,rfl,aZ,p'⟩,fun x H' y=>?_⟩
  obtain ⟨e,y⟩:=y;subst e;exact hs i x σ _ (y xs q) p
 ·have e:i=xs.length:=by omega
  subst e;exact .inl ⟨⟨xs,q,av _⟩,hd σ H p⟩
theorem Cb(Pv:Nat→St→Hp→Prop)(h0:Pv 0 σ H)(hl:∀i σ H,i≤xs.length→Pv i σ H→eW K H a xs)
  (hs:∀i x σ H,xs[i]?=some x→Pv i σ H→g x σ H fun σ2 H2=>tb {D with nx:=Pv (i+1),ct:=Pv (i+1),bk:=D.nx} σ2 H2) (hd:∀σ H,Pv xs.length σ H→D.nx σ H) :
  ∃W:Nat→Nat→St→Hp→Prop,(∃m,W 0 m σ H)∧∀i m σ H,W i m σ H→
   ((sL K a).stop i H∧D.nx σ H)∨((sL K a).go i H∧∃N:St→Hp→Prop,(∀σ' H',N σ' H'→∃m',m'<m∧W (i+1) m' σ' H')∧∀x H',(sL K a).en i H x H'→g x σ H' fun σ2 H2=>tb {D with nx:=N,ct:=N,bk:=D.nx} σ2 H2):=by
 refine ⟨fun i m σ H=>m=xs.length-i∧i≤xs.length∧Pv i σ H,⟨xs.length,by simp,bD _,h0⟩,?_⟩
 rintro i m σ H ⟨rfl,hi,p⟩;have q:=hl i σ H hi p;by_cases aZ:i<xs.length
 ·refine .inr ⟨⟨xs,xs[i],q,by simp [aZ]⟩,Pv (i+1),fun σ' H' p'=>⟨xs.length-(i+1),by omega,rfl,aZ,p'⟩,fun x H' y=>?_⟩
  obtain ⟨e,y⟩:=y;subst e;exact hs i x σ _ (y xs q) p
 ·have e:i=xs.length:=by omega
  subst e;exact .inl ⟨⟨xs,q,av _⟩,hd σ H p⟩
variable {n:Nat}
theorem sM{lo:Int}(Pv:Nat→St→Hp→Prop)(h0:Pv 0 σ H)
  (hs:∀i σ H,i<n→Pv i σ H→g (.int (lo+i)) σ H fun σ2 H2=>tb {D with nx:=Pv (i+1),ct:=Pv (i+1),bk:=D.nx} σ2 H2) (hd:∀σ H,Pv n σ H→D.nx σ H) :
  ∃W:Nat→Nat→St→Hp→Prop,(∃m,W 0 m σ H)∧∀i m σ H,W i m σ H→
   ((ky lo n).stop i H∧D.nx σ H)∨((ky lo n).go i H∧∃N:St→Hp→Prop,(∀σ' H',N σ' H'→∃m',m'<m∧W (i+1) m' σ' H')∧∀x H',(ky lo n).en i H x H'→g x σ H' fun σ2 H2=>tb {D with nx:=N,ct:=N,bk:=D.nx} σ2 H2):=by
 refine ⟨fun i m σ H=>m=n-i∧i≤n∧Pv i σ H,⟨n,by simp,bD _,h0⟩,?_⟩
 rintro i m σ H ⟨rfl,hi,p⟩;by_cases aZ:i<n
 ·refine .inr ⟨aZ,Pv (i+1),fun σ' H' p'=>⟨n-(i+1),by omega,rfl,aZ,p'⟩,fun x H' y=>?_⟩
  obtain ⟨e,y⟩:=y;subst e y;exact hs i σ _ aZ p
 ·have e:i=n:=by omega
  subst e;exact .inl ⟨av _,hd σ H p⟩
abbrev R2:=V→V→Hp→VK→Prop
def b7(X:Cx)(f:Value→Value→Sem Value)(r:R2):Prop:=
 ∀(pins:aG) (s:Shared) (σ:St) (H:Hp) (x y:V) (v u:Value) (Q:VK),Inv X pins σ H s→RelV x v→RelV y u→r x y H Q→
  wpAny (model X.prog X.w) X.A (f v u) (EP X pins σ Q) X.xe s
def yG(X:Cx)(f:Value→Sem Value)(r:V→Hp→VK→Prop):Prop:=
 ∀(pins:aG) (s:Shared) (σ:St) (H:Hp) (x:V) (v:Value) (Q:VK),Inv X pins σ H s→RelV x v→r x H Q→
  wpAny (model X.prog X.w) X.A (f v) (EP X pins σ Q) X.xe s
def fO(X:Cx)(f:Value)(r:List V→Hp→VK→Prop):Prop:=
 ∀(pins:aG) (s:Shared) (σ:St) (H:Hp) (xs:List V) (us:List Value) (Q:VK),Inv X pins σ H s→Vals xs us→r xs H Q→
  wpAny (model X.prog X.w) X.A (call f us) (EP X pins σ Q) X.xe s
def lF(r:R2)(ta tb:TE):TE:=fun σ H Q=>ta σ H fun x H1=>tb σ H1 fun y H2=>r x y H2 Q
def HP(r:V→Hp→VK→Prop)(ta:TE):TE:=fun σ H Q=>ta σ H fun x H1=>r x H1 Q
def rI(C:Int→Int→Prop)(g:Int→Int→V):R2:=fun x y H Q=>∃i j,x=.int i∧y=.int j∧C i j∧Q (g i j) H
def lG(g:Int→Int→V):R2:=fun x y H Q=>∃i j,x=.int i∧y=.int j∧Q (g i j) H
def rU(g:Int→V):V→Hp→VK→Prop:=fun x H Q=>∃i,x=.int i∧Q (g i) H
section
variable {X:Cx} {a b c:Expr} {ta tb tc:TE} {pos:Pos}
variable {f:Value→Value→Sem Value}
theorem yH(ha:PE X a ta)(hb:PE X b tb){pins:aG}{R:V→V→Hp→Prop}(I:Inv X pins σ H s)
  (h:ta σ H fun x H1=>tb σ H1 fun y H2=>R x y H2) {Q:aI}
  (hf:∀v u s2 x y H2,Inv X pins σ H2 s2→RelV x v→RelV y u→R x y H2→wpAny (model X.prog X.w) X.A (f v u) Q X.xe s2) :
  wpAny (model X.prog X.w) X.A (eval a X.env) (fun v s₁=>wpAny (model X.prog X.w) X.A (eval b X.env) (fun u s₂=>wpAny (model X.prog X.w) X.A (f v u) Q X.xe s₂) X.xe s₁) X.xe s:=by
 refine aJ (ha pins s σ H _ I h) fun v s1 ⟨x,H1,I1,r1,q1⟩=>?_;refine aJ (hb pins s1 σ H1 _ I1 q1) fun u s2 ⟨y,H2,I2,r2,q2⟩=>?_;exact hf v u s2 x y H2 I2 r1 r2 q2
theorem bH{op:Operator}{r:R2}(ho:b7 X (binaryOp op) r)(ha:PE X a ta)(hb:PE X b tb):PE X (.BinOp a op b pos) (lF r ta tb):=by intro pins s σ H Q I h;exact wpAny_BinOp (yH ha hb I h fun v u s2 x y H2 I2 rx ry q=>ho pins s2 σ H2 x y v u Q I2 rx ry q)
theorem HQ{op:UnaryOp}{r:V→Hp→VK→Prop}(ho:yG X (unaryOp op) r)(ha:PE X a ta):PE X (.UnaryOp op a pos) (HP r ta):=by intro pins s σ H Q I h;exact UnaryOp_ (aJ (ha pins s σ H _ I h) fun v s1 ⟨x,H1,I1,r1,q1⟩=>ho pins s1 σ H1 x v Q I1 r1 q1)
theorem vw{C:Int→Int→Prop}{g:Int→Int→Int}
  (rule:∀(i j:Int) (t u:Tok) (s:Shared) (Q:aI) (E:aI),C i j→Q (.int (g i j) s.toks) {s with toks:=s.toks+1}→wpAny (model X.prog X.w) X.A (f (.int i t) (.int j u)) Q E s) :
  b7 X f (rI C fun i j=>.int (g i j)):=by
 intro pins s σ H x y v u Q I rx ry h;obtain ⟨i,j,rfl,rfl,hc,q⟩:=h;obtain ⟨t,rfl⟩:=rx;obtain ⟨t',rfl⟩:=ry;exact rule i j t t' s _ _ hc ⟨.int (g i j),H,I.tok _,⟨_,rfl⟩,q⟩
theorem Cc{g:Int→Int→Int}
  (rule:∀(i j:Int) (t u:Tok) (s:Shared) (Q:aI) (E:aI),Q (.int (g i j) s.toks) {s with toks:=s.toks+1}→wpAny (model X.prog X.w) X.A (f (.int i t) (.int j u)) Q E s) :
  b7 X f (lG fun i j=>.int (g i j)):=by
 intro pins s σ H x y v u Q I rx ry h;obtain ⟨i,j,rfl,rfl,q⟩:=h;obtain ⟨t,rfl⟩:=rx;obtain ⟨t',rfl⟩:=ry;exact rule i j t t' s _ _ ⟨.int (g i j),H,I.tok _,⟨_,rfl⟩,q⟩
theorem vx{g:Int→Int→Bool}
  (rule:∀(i j:Int) (t u:Tok) (s:Shared) (Q:aI) (E:aI),Q (.bool (g i j)) s→wpAny (model X.prog X.w) X.A (f (.int i t) (.int j u)) Q E s) :
  b7 X f (lG fun i j=>.bl (g i j)):=by
 intro pins s σ H x y v u Q I rx ry h;obtain ⟨i,j,rfl,rfl,q⟩:=h;obtain ⟨t,rfl⟩:=rx;obtain ⟨t',rfl⟩:=ry;exact rule i j t t' s _ _ ⟨.bl (g i j),H,I,rfl,q⟩
def HR(i j:Int):Prop:=0≤j∧j≤1000000∧i.natAbs<2 ^ 64
def yI(i j:Int):Prop:=(-(2 ^ 64)<i∧i<2 ^ 64)∨(-(2 ^ 64)<j∧j<2 ^ 64)
theorem yI.ok{i j:Int}(h:yI i j):IntMulOk i j:=by
 rcases h with ⟨h1,h2⟩ | ⟨h1,h2⟩;·exact .of_left (intBits_le_64 h1 h2)
 ·exact .of_right (intBits_le_64 h1 h2)
theorem iY:b7 X (binaryOp .Add) (lG fun i j=>.int (i+j)):=Cc fun _ _ _ _ _ _ _ q=>add_int q
theorem vy:b7 X (binaryOp .Sub) (lG fun i j=>.int (i-j)):=Cc fun _ _ _ _ _ _ _ q=>sub_int q
theorem iZ:b7 X (binaryOp .Mult) (rI yI fun i j=>.int (i*j)):=vw fun _ _ _ _ _ _ _ hc q=>mul_int q hc.ok
theorem nk:b7 X (binaryOp .Mod) (rI (fun _ j=>0<j) fun i j=>.int (i % j)):=vw fun i j _ _ _ _ _ hc q=>by have h1:(0:Int)<j:=hc;exact mod_int' (by omega) (by rw [Int.fmod_eq_emod_of_nonneg i (by omega)];exact q)
theorem HS:b7 X (binaryOp .Pow) (rI HR fun i j=>.int (i ^ j.toNat)):=vw fun _ _ _ _ _ _ _ hc q=>pow_int_small hc.1 hc.2.1 hc.2.2 q
theorem HU{f:Value→Sem Value}{g:Int→Int}
  (rule:∀(i:Int) (t:Tok) (s:Shared) (Q:aI) (E:aI),Q (.int (g i) s.toks) {s with toks:=s.toks+1}→wpAny (model X.prog X.w) X.A (f (.int i t)) Q E s) :
  yG X f (rU fun i=>.int (g i)):=by
 intro pins s σ H x v Q I rx h;obtain ⟨i,rfl,q⟩:=h;obtain ⟨t,rfl⟩:=rx;exact rule i t s _ _ ⟨.int (g i),H,I.tok _,⟨_,rfl⟩,q⟩
theorem HV:yG X (unaryOp .USub) (rU fun i=>.int (-i)):=HU fun _ _ _ _ _ q=>neg_int q
end
def yJ:V→V→Bool
 | .aM,.aM=>true | .aM,.int _=>true | .int _,.aM=>true | .aM,.bl _=>true | .bl _,.aM=>true | .aM,.str _=>true | .str _,.aM=>true
 | .int _,.int _=>true | .bl _,.bl _=>true | .str _,.str _=>true | .iW _,.iW _=>true
 | .int _,.str _=>true | .str _,.int _=>true | .bl _,.str _=>true | .str _,.bl _=>true
 | _,_=>false
def HW:R2:=fun x y H Q=>yJ x y=true∧Q (.bl (decide (x=y))) H
def HX:R2:=fun x y H Q=>yJ x y=true∧Q (.bl (!decide (x=y))) H
theorem Cd{i j:Int}:decide (V.int i=V.int j)=(i == j):=by rw [mJ];simp
theorem Ce{i j:Bool}:decide (V.bl i=V.bl j)=(i == j):=by rw [mJ];simp
theorem Cf{i j:Str}:decide (V.str i=V.str j)=(i == j):=by rw [mJ];simp
theorem Cg{i j:Array UInt8}:decide (V.iW i=V.iW j)=(i.toList == j.toList):=by rw [mJ];cases i;cases j;simp
section
variable {X:Cx} {a b c:Expr} {ta tb tc:TE} {pos:Pos}
theorem b_{pins:aG}{Q:VK}{k k':Bool}(I:Inv X pins σ H s)(q:Q (.bl k) H)(e:k=k'):EP X pins σ Q (.bool k') s:=by subst e;exact ⟨.bl k,H,I,rfl,q⟩
theorem jL:b7 X (compareOp .Eq) HW:=by
 intro pins s σ H x y v u Q I rx ry h;obtain ⟨hs,q⟩:=h;cases x with
 | aM=>
  cases rx;cases y with
  | aM=>cases ry;exact PySem.EqNone.eq_none_none (b_ I q (by simp))
  | bl j=>cases ry;exact PySem.EqNone.eq_none_bool (b_ I q (by simp))
  | int j=>obtain ⟨t',rfl⟩:=ry;exact PySem.EqNone.eq_none_int (b_ I q (by simp))
  | str j=>obtain ⟨t',rfl⟩:=ry;exact PySem.EqNone.eq_none_str (b_ I q (by simp))
  | _=>exact absurd (show false=true from hs) cO
 | bl i=>
  cases rx;cases y with
  | aM=>cases ry;exact PySem.EqNone.eq_bool_none (b_ I q (by simp))
  | bl j=>cases ry;exact eq_bool (b_ I q Ce)
  | str j=>obtain ⟨t',rfl⟩:=ry;exact PySem.EqMixed.eq_bool_str (b_ I q (by simp))
  | _=>exact absurd (show false=true from hs) cO
 | int i=>
  obtain ⟨t,rfl⟩:=rx;cases y with
  | aM=>cases ry;exact PySem.EqNone.eq_int_none (b_ I q (by simp))
  | int j=>obtain ⟨t',rfl⟩:=ry;exact eq_int (b_ I q Cd)
  | str j=>obtain ⟨t',rfl⟩:=ry;exact PySem.EqMixed.eq_int_str (b_ I q (by simp))
  | _=>exact absurd (show false=true from hs) cO
 | str i=>
  obtain ⟨t,rfl⟩:=rx;cases y with
  | aM=>cases ry;exact PySem.EqNone.eq_str_none (b_ I q (by simp))
  | bl j=>cases ry;exact PySem.EqMixed.eq_str_bool (b_ I q (by simp))
  | int j=>obtain ⟨t',rfl⟩:=ry;exact PySem.EqMixed.eq_str_int (b_ I q (by simp))
  | str j=>obtain ⟨t',rfl⟩:=ry;exact eq_str (b_ I q Cf)
  | _=>exact absurd (show false=true from hs) cO
 | iW i=>
  obtain ⟨t,rfl⟩:=rx;cases y with
  | iW j=>obtain ⟨t',rfl⟩:=ry;exact PySem.W.eq_bytes (b_ I q Cg)
  | _=>exact absurd (show false=true from hs) cO
 | _=>cases y <;> exact absurd (show false=true from hs) cO
theorem vz:b7 X (compareOp .NotEq) HX:=by
 intro pins s σ H x y v u Q I rx ry h;obtain ⟨hs,q⟩:=h;cases x with
 | aM=>
  cases rx;cases y with
  | aM=>cases ry;exact PySem.EqNone.ne_none_none (b_ I q (by simp))
  | bl j=>cases ry;exact PySem.EqNone.ne_none_bool (b_ I q (by simp))
  | int j=>obtain ⟨t',rfl⟩:=ry;exact PySem.EqNone.ne_none_int (b_ I q (by simp))
  | str j=>obtain ⟨t',rfl⟩:=ry;exact PySem.EqNone.ne_none_str (b_ I q (by simp))
  | _=>exact absurd (show false=true from hs) cO
 | bl i=>
  cases rx;cases y with
  | aM=>cases ry;exact PySem.EqNone.ne_bool_none (b_ I q (by simp))
  | bl j=>cases ry;exact ne_bool (b_ I q (cW not Ce))
  | str j=>obtain ⟨t',rfl⟩:=ry;exact PySem.EqMixed.ne_bool_str (b_ I q (by simp))
  | _=>exact absurd (show false=true from hs) cO
 | int i=>
  obtain ⟨t,rfl⟩:=rx;cases y with
  | aM=>cases ry;exact PySem.EqNone.ne_int_none (b_ I q (by simp))
  | int j=>obtain ⟨t',rfl⟩:=ry;exact ne_int (b_ I q (cW not Cd))
  | str j=>obtain ⟨t',rfl⟩:=ry;exact PySem.EqMixed.ne_int_str (b_ I q (by simp))
  | _=>exact absurd (show false=true from hs) cO
 | str i=>
  obtain ⟨t,rfl⟩:=rx;cases y with
  | aM=>cases ry;exact PySem.EqNone.ne_str_none (b_ I q (by simp))
  | bl j=>cases ry;exact PySem.EqMixed.ne_str_bool (b_ I q (by simp))
  | int j=>obtain ⟨t',rfl⟩:=ry;exact PySem.EqMixed.ne_str_int (b_ I q (by simp))
  | str j=>obtain ⟨t',rfl⟩:=ry;exact ne_str (b_ I q (cW not Cf))
  | _=>exact absurd (show false=true from hs) cO
 | iW i=>
  obtain ⟨t,rfl⟩:=rx;cases y with
  | iW j=>obtain ⟨t',rfl⟩:=ry;exact PySem.W.ne_bytes (b_ I q (cW not Cg))
  | _=>exact absurd (show false=true from hs) cO
 | _=>cases y <;> exact absurd (show false=true from hs) cO
theorem vB:b7 X (compareOp .Lt) (lG fun i j=>.bl (decide (i<j))):=vx fun _ _ _ _ _ _ _ q=>lt_int q
theorem HY:b7 X (compareOp .LtE) (lG fun i j=>.bl (decide (i≤j))):=vx fun _ _ _ _ _ _ _ q=>le_int q
theorem sN:b7 X (compareOp .Gt) (lG fun i j=>.bl (decide (j<i))):=vx fun _ _ _ _ _ _ _ q=>gt_int q
theorem HZ:b7 X (compareOp .GtE) (lG fun i j=>.bl (decide (j≤i))):=vx fun _ _ _ _ _ _ _ q=>ge_int q
theorem H_:b7 X (compareOp .IsNot) (fun x y H Q=>y=.aM∧Q (.bl (!decide (x=.aM))) H):=by
 intro pins s σ H x y v u Q I rx ry h;obtain ⟨rfl,q⟩:=h;cases ry;refine isnot_none_gen (b_ I q ?_)
 cases x <;> first
  | (cases rx;rfl)
  | (obtain ⟨t,rfl⟩:=rx;rfl)
variable {op:CmpOp}
theorem Ci(b:Expr)(h:op≠.In:=by decide)(h2:op≠.NotIn:=by decide):behindInMarks op b=false:=by
 have e1:(op == CmpOp.In)=false:=by cases op <;> first | rfl | exact absurd rfl h
 have e2:(op == CmpOp.NotIn)=false:=by cases op <;> first | rfl | exact absurd rfl h2
 cases b <;> simp [behindInMarks,e1,e2]
variable {r:R2}
theorem Ia(ho:b7 X (compareOp op) r)(ha:PE X a ta)(hb:PE X b tb)(hm:behindInMarks op b=false):PE X (.Compare a [op] [b] pos) (lF r ta tb):=by intro pins s σ H Q I h;exact wpAny_Compare1 (yH ha hb I h fun v u s2 x y H2 I2 rx ry q=>ho pins s2 σ H2 x y v u Q I2 rx ry q) hm
theorem lH(ho:b7 X (compareOp op) r)(ha:PE X a ta)(hb:PE X b tb)(hm:behindInMarks op b=false:=by exact Ci _):PE X (.Compare a [op] [b] pos) (lF r ta tb):=Ia ho ha hb hm
def yK(t:TE):TT:=fun σ H Q=>t σ H fun x H'=>∃k,x=.bl k∧Q k H'
theorem yL(ho:b7 X (compareOp op) r)(ha:PE X a ta)(hb:PE X b tb)(hm:behindInMarks op b=false):PT X (.Compare a [op] [b] pos) (yK (lF r ta tb)):=by intro pins s σ H Q I h;refine wpAny_isTrue_Compare1 (aJ (ha pins s σ H _ I h) fun v s1 ⟨x,H1,I1,r1,q1⟩=>aJ (hb pins s1 σ H1 _ I1 q1) fun u s2 ⟨y,H2,I2,r2,q2⟩=>aJ (ho pins s2 σ H2 x y v u _ I2 r1 r2 q2) fun c s3 ⟨z,H3,I3,r3,k,e,q3⟩=>?_) hm;subst e;cases r3;exact mH ⟨H3,I3,q3⟩
theorem cS(ho:b7 X (compareOp op) r)(ha:PE X a ta)(hb:PE X b tb)(hm:behindInMarks op b=false:=by exact Ci _):PT X (.Compare a [op] [b] pos) (yK (lF r ta tb)):=yL ho ha hb hm
theorem pQ:(sizeLine:Nat)<2 ^ 63:=by rw [mK];decide
theorem vals1(r:Vals [x] us):∃u,us=[u]∧RelV x u:=by
 cases r with
 | cons r1 r2=>cases r2;exact ⟨_,rfl,r1⟩
theorem vals2{y:V}(r:Vals [x,y] us):∃u w',us=[u,w']∧RelV x u∧RelV y w':=by
 cases r with
 | cons r1 r2=>
  cases r2 with
  | cons r3 r4=>cases r4;exact ⟨_,_,rfl,r1,r3⟩
theorem Cj(hc:X.calm=true):fO X (.builtin "max") (fun xs H Q=>∃i j,xs=[.int i,.int j]∧Q (.int (if j>i then j else i)) H):=by
 intro pins s σ H xs us Q I r h;obtain ⟨i,j,rfl,q⟩:=h;obtain ⟨u,w',rfl,⟨t,rfl⟩,⟨t',rfl⟩⟩:=vals2 r;refine max_two_ints (I.ok.hd hc) fun h' tk k=>⟨_,H,I.kept k,?_,q⟩;by_cases hj:j>i;·rw [ae hj,ae hj];exact ⟨_,rfl⟩
 ·rw [aa hj,aa hj];exact ⟨_,rfl⟩
theorem Ck(hc:X.calm=true):fO X (.builtin "min") (fun xs H Q=>∃i j,xs=[.int i,.int j]∧Q (.int (if j<i then j else i)) H):=by
 intro pins s σ H xs us Q I r h;obtain ⟨i,j,rfl,q⟩:=h;obtain ⟨u,w',rfl,⟨t,rfl⟩,⟨t',rfl⟩⟩:=vals2 r;refine min_two_ints (I.ok.hd hc) fun h' tk k=>⟨_,H,I.kept k,?_,q⟩;by_cases hj:j<i;·rw [ae hj,ae hj];exact ⟨_,rfl⟩
 ·rw [aa hj,aa hj];exact ⟨_,rfl⟩
end
structure yM (h:Heap) (x dx C:Addr) (mA:bV):Prop where
 obj:h.get? x=some (PySem.W.instObj C dx)
 ns:h.Ns1 dx mA
 ne:dx≠x
variable {dx:Addr} {mA:bV}
theorem Ib(n:h.Ns1 dx mA):∃od,h.get? dx=some od∧∀name,PySem.W.lookIn name od=some (mA name):=by
 obtain ⟨o,es,ep,ho,hd,hk,_,hm⟩:=n;refine ⟨o,ho,fun name=>?_⟩;have e:=hm name;unfold nsFind findBy at e;rw [←Array.find?_toList] at e;unfold PySem.W.lookIn;rw [hd];dsimp only
 split
 ·rename_i y q
  rw [q] at e;exact cW some e
 ·rename_i q
  rw [q] at e;have a:es.toList.any (·.refKey)=false:=by rw [List.any_eq_false];intro y hy;obtain ⟨z,t,Ic⟩:=hk y (Array.mem_toList_iff.mp hy);simp [DictEntry.refKey,Ic]
  have a':¬es.toList.any (·.refKey)=true:=by rw [a];exact cO
  rw [aa a'];exact cW some e
theorem yM.look{x C:Addr}(I:yM h x dx C mA):∃od,PySem.W.InstAt h x (PySem.W.instObj C dx) C (some od)∧∀name,PySem.W.lookIn name od=some (mA name):=
 let ⟨od,ho,hl⟩:=Ib I.ns
 ⟨od,⟨I.obj,rfl,rfl,ho⟩,hl⟩
section
variable {prog:Program} {w:World} {A:Around} {E:aI} {s:Shared} {K:aD} {x dx C f:Addr} {mA:bV} {name:Str} {v:Value}
end
section
variable {P:Program} {w:World} {H H':Hp} {h h':Heap} {a C dx:Addr} {fs yp:List (Str×V)}
theorem Ie(ax:bQ P w H h)(e:H a=some (.ins C dx fs)):∃mA,yM h a dx C mA∧(∀f,pK (fs.lookup f) (mA f))∧PySem.Within mA (fs.map (·.1))∧fs.length≤1000∧H dx=some (.own a):=by obtain ⟨d,z,ne,ob,mA,n,r,q⟩:=(show bu P w H h a (.ins C dx fs) from ax a _ e);exact ⟨mA,⟨ob,n,ne⟩,r,q,z,d⟩
end
structure yN (K:aD) (C:Addr):Prop where
 pg:PySem.W.plainGet K C Str.empty=true
 hd:PySem.W.hasDictIn K C=true
 po:PySem.W.plainOver K C=true
 sa:PySem.W.findIn K (.ref C) "__setattr__"=some (some (.builtin "object.__setattr__"))
theorem yN.get{K:aD}{C:Addr}(c:yN K C)(f:Str):PySem.W.plainGet K C f=true:=c.pg
section
variable {X:Cx} {pins:aG} {σ:St} {H:Hp} {s:Shared} {a C dx:Addr} {fs:List (Str×V)} {f:Str} {v:V} {A:Around} {E:aI}
end
section
variable {X:Cx} {o e value:Expr} {f:Str} {pos pos' pM:Pos} {ta tv:TE}
end
section
variable {X:Cx} {pins:aG} {σ:St} {H:Hp} {s:Shared} {A:Around} {E:aI} {Q:aI} {c:Value} {b:Bool}
inductive gS (K:aD) (H:Hp):V→Value→Prop where
 | aM:gS K H .aM (.type "NoneType")
 | bl (x:Bool):gS K H (.bl x) (.type "bool")
 | int (i:Int):gS K H (.int i) (.type "int")
 | str (x:Str):gS K H (.str x) (.type "str")
 | pJ (x:UInt64):gS K H (.pJ x) (.type "float")
 | lst {a:Addr} {xs:List V} (e:H a=some (.lst xs)):gS K H (.ref a) (.type "list")
 | bg {a:Addr} {o:Obj} {xs:List V} (e:H a=some (.bg o (.lst xs))):gS K H (.ref a) (.type "list")
 | tup {a:Addr} {xs:List V} (e:H a=some (.tup xs)):gS K H (.ref a) (.type "tuple")
 | dK {a:Addr} {kvs:List (Key×V)} (e:H a=some (.dK kvs)):gS K H (.ref a) (.type "dict")
 | dT {a:Addr} {kvs:List (List Key×V)} (e:H a=some (.dT kvs)):gS K H (.ref a) (.type "dict")
 | ins {a C dx:Addr} {fs:List (Str×V)} (e:H a=some (.ins C dx fs)) (cl:yN K C) (ha:PySem.W.findIn K (.ref C) "__class__"=some (some (.builtin "object.__class__")))
   (hn:PySem.W.specialIn K (.builtin "object.__class__") "__get__"=some (some (.builtin "getset_descriptor.__get__"))) (Cm:PySem.W.takesIn K (.builtin "object.__class__")=some true)
   (hm:PySem.W.mroIn K C (.type "object")=some true):gS K H (.ref a) (.ref C)
theorem Ig{t:Value}(I:Inv X pins σ H s)(rx:RelV x u)(ty:gS X.K H x t)(e:PySem.W.kitOne X.K t c=some b)(h:∀tk,Q (.bool b) {s with toks:=tk}) :
  wpAny (model X.prog X.w) A (call (.builtin "isinstance") [u,c]) Q E s:=by
 cases ty with
 | aM=>cases (show u=Value.none from rx);exact gK PySem.W.kitx_none I.dS True.intro e (fun z=>nomatch z) h
 | bl y=>cases (show u=Value.bool y from rx);exact gK PySem.W.kitx_bool I.dS True.intro e (fun z=>nomatch z) h
 | int i=>obtain ⟨t,q⟩:=(show ∃t,u=Value.int i t from rx);cases q;exact gK PySem.W.kitx_int I.dS True.intro e (fun z=>nomatch z) h
 | str y=>obtain ⟨t,q⟩:=(show ∃t,u=Value.str y t from rx);cases q;exact gK PySem.W.kitx_str I.dS True.intro e (fun z=>nomatch z) h
 | pJ y=>obtain ⟨t,q⟩:=(show ∃t,u=Value.float y t from rx);cases q;exact gK PySem.W.kitx_float I.dS True.intro e (fun z=>nomatch z) h
 | @lst a xs ea=>cases (show u=Value.ref a from rx);obtain ⟨_,_,n,_,h1⟩:=(show bu X.prog X.w H s.heap a (.lst xs) from I.ax a _ ea);exact gK PySem.W.kitx_list I.dS ⟨_,h1,rfl⟩ e (fun z=>nomatch z) h
 | @bg a ob xs ea=>cases (show u=Value.ref a from rx);obtain ⟨_,_,_,n,_,h1⟩:=(show bu X.prog X.w H s.heap a (.bg ob (.lst xs)) from I.ax a _ ea);exact gK PySem.W.kitx_list I.dS ⟨_,h1,rfl⟩ e (fun z=>nomatch z) h
 | @tup a xs ea=>cases (show u=Value.ref a from rx);obtain ⟨_,_,_,p⟩:=(show bu X.prog X.w H s.heap a (.tup xs) from I.ax a _ ea);obtain ⟨o,h1,h2,_⟩:=p;exact gK PySem.W.kitx_tuple I.dS ⟨o,h1,h2⟩ e (fun z=>nomatch z) h
 | @dK a kvs ea=>cases (show u=Value.ref a from rx);obtain ⟨_,_,vs,_,p⟩:=(show bu X.prog X.w H s.heap a (.dK kvs) from I.ax a _ ea);obtain ⟨o,es,ep,h1,h2,_⟩:=p;exact gK PySem.W.kitx_dict I.dS ⟨o,h1,h2.1⟩ e (fun z=>nomatch z) h
 | @dT a kvs ea=>cases (show u=Value.ref a from rx);obtain ⟨_,_,xs,_,o,es,ep,h1,h2,_⟩:=(show bu X.prog X.w H s.heap a (.dT kvs) from I.ax a _ ea);exact gK PySem.W.kitx_dict I.dS ⟨o,h1,h2.1⟩ e (fun z=>nomatch z) h
 | @ins a C dx fs ea cl ha hn Cm hm=>cases (show u=Value.ref a from rx);obtain ⟨mA,O,_⟩:=Ie I.ax ea;obtain ⟨od,J,_⟩:=O.look;exact gK (PySem.W.kitx_own (cl.get _) cl.hd ha hn Cm hm) I.dS J e (fun z=>nomatch z) h
end
structure cT (k:Nat) (A:Around):Prop where
 hd:A.handled=none
 dp:A.depth+3*k+5<recursionLimit
 un:A.units+16*k+200<cLine
variable {k:Nat}
theorem cT.mono{j:Nat}(r:cT k A)(h:j≤k):cT j A:=⟨r.hd,by have:=r.dp;omega,by have:=r.un;omega⟩
theorem cT.deeper(r:cT (k+1) A)(env:Env):cT k (A.deeper env):=
 ⟨r.hd,by have:=r.dp;show A.depth+1+3*k+5<_;omega,by have:=r.un;show A.units+3+16*k+200<_;omega⟩
theorem cT.depth(r:cT k A):A.depth<recursionLimit:=by have:=r.dp;omega
theorem cT.units(r:cT k A):A.units+64<cLine:=by have:=r.un;omega
theorem cT.Ih(r:cT k A):A.units<cLine:=by have:=r.un;omega
def yO:TA:=fun _ H Q=>Q [] H
def vC(ta:TE)(tr:TA):TA:=fun σ H Q=>ta σ H fun x H1=>tr σ H1 fun xs H2=>Q (x::xs) H2
section
variable {X:Cx} {e:Expr} {es:List Expr} {te:TE} {t:TA} {pos:Pos}
theorem au:PA X [] yO:=fun _ _ _ _ H Q I h=>Calls.spliced_nil ⟨[],H,I,.nil,h⟩
theorem Ii(ha:PE X e te)(hr:PA X es t)(hs:starEach (e::es) X.env=(false,eval e X.env)::starEach es X.env:=by rfl):PA X (e::es) (vC te t):=by intro pos pins s σ H Q I h;rw [hs];show wpAny _ _ (spliced ((false,eval e X.env)::backTo pos (starEach es X.env))) _ _ s;refine Calls.spliced_cons (aJ (ha pins s σ H _ I h) fun u s1 ⟨x,H1,I1,r1,q1⟩=>?_);exact aJ (hr pos pins s1 σ H1 _ I1 q1) fun us s2 ⟨xs,H2,I2,r2,q2⟩=>⟨x::xs,H2,I2,.cons r1 r2,q2⟩
def Ij(t:TA):TE:=fun σ H Q=>t σ H fun xs H1=>xs.length≤sizeLine∧∀p,H1 p=none→Q (.ref p) (upd H1 p (.tup xs))
def Ik(t:TA):TE:=fun σ H Q=>t σ H fun xs H1=>xs.length≤sizeLine∧∀p,H1 p=none→Q (.ref p) (upd H1 p (.lst xs))
theorem lI{x1}(h:PA X es t):PE X (.Tuple es x1 pos) (Ij t):=by
 intro pins s σ H Q I hq;refine wpAny_Tuple_spliced (aJ (h pos pins s σ H _ I hq) fun us s1 ⟨xs,H1,I1,r,z,q⟩=>⟨by rw [←r.length];exact z,?_⟩)
 have hf:H1 s1.heap.objs.size=none:=I1.ax.fresh (av _);refine ⟨.ref s1.heap.objs.size,upd H1 s1.heap.objs.size (.tup xs),I1.laid (t':=s1.toks) (fun b u e=>bO _ e) (av _) ?_,rfl,q _ hf⟩;exact ⟨z,us,r,⟨_,dQ _ rfl,rfl,_,rfl⟩⟩
theorem dA(h:PA X es t):PE X (.List es pos) (Ik t):=by
 intro pins s σ H Q I hq;refine wpAny_List_spliced (aJ (h pos pins s σ H _ I hq) fun us s1 ⟨xs,H1,I1,r,z,q⟩=>⟨by rw [←r.length];exact z,?_⟩)
 have hf:H1 s1.heap.objs.size=none:=I1.ax.fresh (av _);refine ⟨.ref s1.heap.objs.size,upd H1 s1.heap.objs.size (.lst xs),I1.laid (t':=s1.toks) (fun b u e=>bO _ e) (av _) ?_,rfl,q _ hf⟩;exact ⟨z,us,0,r,dQ _ rfl⟩
end
abbrev Sp:=List V→Hp→VK→XK→Prop
abbrev gy:=List Env→Hp→Shared→XK→Value→Shared→Prop
structure vD (P:Program) (w:World) (K:aD) (mg:bV) (base:Heap) (A:Around) (outer:List Env) (s:Shared) (H:Hp):Prop where
 frames:A.frames=some outer
 mod:Mod K mg base
 bs:∀b o,base.get? b=some o→s.heap.get? b=some o∧H b=none
 gQ:base.objs.size≤s.heap.objs.size
 iX:s.heap.FunFrames base outer
 lA:∀b∈bY outer,H b=none
 ax:bQ P w H s.heap
 bare:AllBare s.gens
def CE(outer:List Env)(P:Program)(w:World)(H:Hp)(s:Shared)(Q:VK)(u:Value)(s':Shared):Prop:=
 ∃v H',s'.os=s.os∧AllBare s'.gens∧Un (bY outer) [] H H' s.heap s'.heap∧bQ P w H' s'.heap∧RelV v u∧Q v H'
def CR(CX:gy)(outer:List Env)(P:Program)(w:World)(H:Hp)(s:Shared)(Q:VK)(E:XK)(r:Result)(s':Shared):Prop:=
 match r with
 | .ok (.ret u)=>CE outer P w H s Q u s'
 | .ok _=>False
 | .error e=>CX outer H s E e s'
structure bK (P:Program) (w:World) (K:aD) (mg:bV) (base:Heap) (CX:gy) (k:Nat) (f:Addr) (fd:FuncData) (ps:List Str) (sp:Sp):Prop where
 len:∀vs H Q E,sp vs H Q E→vs.length=ps.length
 run:∀(A:Around) (outer:List Env) (s:Shared) (H:Hp) (args:Args) (us:List Value) (vs:List V) (Q:VK) (E:XK),cT k A→vD P w K mg base A outer s H→BindsTo s fd args (ps.zip us)→Vals vs us→sp vs H Q E→
  codeAny (model P w) A (.call (.ref f) args) (CR CX outer P w H s Q E) s
section
variable {X:Cx} {pins:aG} {σ:St} {H:Hp} {s s':Shared}
theorem Inv.Il(I:Inv X pins σ H s):vD X.prog X.w X.K X.mg X.base X.A X.stack s H:=
 ⟨I.ok.frames,I.ok.mod,I.bs,bI I.ok.gQ I.sz,I.stack,I.sj,I.ax,I.bare⟩
theorem Inv.after{Q:VK}(I:Inv X pins σ H s)(h:CE X.stack X.prog X.w H s Q u s'):EP X pins σ Q u s':=by obtain ⟨v,H',os,bare,un,ax,r,q⟩:=h;obtain ⟨hh,g,d,t,Im⟩:=s';obtain rfl:Im=s.os:=os;exact ⟨v,H',I.call (h':=hh) (g':=g) (d':=d) (t':=t) (ch:=[]) un ax bare (fun b z=>absurd z (by simp)),r,q⟩
end
def Cn(sp:Sp)(jM:List V)(E:XK)(t:TA):TE:=fun σ H Q=>t σ H fun vs H1=>sp (vs++jM) H1 Q E
def Binds(K:aD)(fd:FuncData)(ps:List Str)(ds:List Value):Prop:=
 ∀(s:Shared) (us:List Value),K.In s.heap→(us++ds).length=ps.length→BindsTo s fd ⟨us,[]⟩ (ps.zip (us++ds))
variable {ps:List Str}
theorem Binds.all{fd:FuncData}(h:∀us:List Value,us.length=ps.length→bindArgs fd ⟨us,[]⟩=pure (ps.zip us)):Binds K fd ps []:=fun s us _ hl=>by rw [j8] at hl ⊢;exact .of_eq (h us hl)
def Passes(CX:gy)(X:Cx)(E:XK):Prop:=∀(pins:aG) (σ:St) (H:Hp) (s:Shared) (e:Value) (s':Shared),Inv X pins σ H s→CX X.stack H s E e s'→X.xe e s'
section
variable {X:Cx} {CX:gy} {k:Nat} {f C:Addr} {fd:FuncData} {ps:List Str} {sp:Sp} {jM:List V} {ds:List Value} {E:XK} {x m:Str} {p pos apos:Pos} {e o:Expr} {es:List Expr} {ta:TE} {t:TA}
theorem Io{pins:aG}{Q:VK}{vs:List V}(F:bK X.prog X.w X.K X.mg X.base CX k f fd ps sp)(hr:cT k X.A)(hb:Binds X.K fd ps ds)(hd:Vals jM ds)(hx:Passes CX X E)
  (I:Inv X pins σ H s) (r:Vals vs us) (h:sp (vs++jM) H Q E):wpAny (model X.prog X.w) X.A (call (.ref f) us) (EP X pins σ Q) X.xe s:=by
 have r2:Vals (vs++jM) (us++ds):=r.append hd;have hl:(us++ds).length=ps.length:=by rw [←r2.length];exact F.len _ _ _ _ h
 refine wpAny_call (codeAny_mono (F.run X.A X.stack s H ⟨us,[]⟩ (us++ds) (vs++jM) Q E hr I.Il (hb s us I.dS hl) r2 h) fun r s' hq=>?_);cases r with
 | error e=>exact hx pins σ H s e s' I hq
 | ok fl=>
  cases fl with
  | ret u=>exact I.after hq
  | next=>exact False.elim hq
  | brk=>exact False.elim hq
  | cont=>exact False.elim hq
theorem Ip(F:bK X.prog X.w X.K X.mg X.base CX k f fd ps sp)(hr:cT k X.A)(hg:Gl X x)(hm:X.mg x=some (.ref f))(hk:PySem.W.keepIn X.K (.ref f)=true)(hb:Binds X.K fd ps ds)(hd:Vals jM ds)(hx:Passes CX X E)
  (ha:PA X (e::es) t) (nu:(x == ("__debug__":Str))=false:=by decide) (he:starEach (e::es) X.env=(false,eval e X.env)::starEach es X.env:=by rfl) (jN:(backTo pos (starEach es X.env)).any (·.1)=false:=by rfl) :
  PE X (.Call (.Name x p) (e::es) [] pos) (Cn sp jM E t):=by
 intro pins s σ H Q I h;refine uW (B0 I hg hm ?_ nu);refine PySem.W.callWith_K (h₀:=X.base) I.ok.mod.cB hk (aJ (ha pos pins s σ H _ I h) fun us s1 ⟨vs,H1,I1,r,q⟩=>⟨I1.dS,?_⟩) he jN;exact Io F hr hb hd hx I1 r q
theorem bC{j:Nat}(F:bK X.prog X.w X.K X.mg X.base CX k f fd ps sp)(hr:cT j X.A)(hm:X.mg x=some (.ref f))(hk:PySem.W.keepIn X.K (.ref f)=true)(hb:Binds X.K fd ps [])(hx:Passes CX X E)
  (ha:PA X (e::es) t) (hj:k≤j:=by decide) (hg:Gl X x:=by exact rfl) (nu:(x == ("__debug__":Str))=false:=by decide) (he:starEach (e::es) X.env=(false,eval e X.env)::starEach es X.env:=by rfl) (jN:(backTo pos (starEach es X.env)).any (·.1)=false:=by rfl) :
  PE X (.Call (.Name x p) (e::es) [] pos) (Cn sp [] E t):=Ip F (hr.mono hj) hg hm hk hb .nil hx ha nu he jN
end
section
variable {X:Cx} {CX:gy} {k:Nat} {f C:Addr} {fd:FuncData} {ps ks:List Str} {sp:Sp} {E:XK} {x m:Str} {p pos apos Co:Pos} {e o:Expr} {es:List Expr} {Iq:List Keyword} {te ta:TE} {t tk:TA} {nm:Option Str}
variable {g:List Value→List Value→List Value} {gV:List V→List V→List V}
end
structure cf (N P:List Str) (sc:Scope):Prop where
 kind:sc.kind=.function
 co:sc.isCoroutine=false
 gen:sc.isGenerator=false
 nd:N.Nodup
 pre:N.take P.length=P
 par:∀x∈P,sc.names.lookup x=some .local∨sc.names.lookup x=some .cell
 Ir:∀y∈sc.names,y.2≠.free
variable {N:List Str} {sc:Scope}
theorem de{P:List Str}(h1:sc.kind=.function:=by rfl)(h2:sc.isCoroutine=false:=by rfl)(h3:sc.isGenerator=false:=by rfl)(h4:N.Nodup:=by decide +kernel)(h5:N.take P.length=P:=by rfl)(h6:∀x∈P,sc.names.lookup x=some .local∨sc.names.lookup x=some .cell:=by decide +kernel)(h7:∀y∈sc.names,y.2≠.free:=by decide +kernel):cf N P sc:=⟨h1,h2,h3,h4,h5,h6,h7⟩
theorem Cp{kindOf:Str→Option NameKind}{x:Str}:∀{binds:List (Str×Value)} {m:bV},(∀v,(x,v)∉binds)→bindL kindOf binds m x=m x
 | [],_,_=>rfl
 | (n,v)::r,m,h=>by
  unfold bindL;rw [Cp fun w hw=>h w (bJ _ hw)]
  split
  ·have:x≠n:=by rintro rfl;exact h v cM
   simp [this]
  ·rfl
theorem Cq{kindOf:Str→Option NameKind}{x:Str}:∀{binds:List (Str×Value)} {m:bV},(∀v,(x,v)∉binds)→bindC kindOf binds m x=m x
 | [],_,_=>rfl
 | (n,v)::r,m,h=>by
  unfold bindC;rw [Cq fun w hw=>h w (bJ _ hw)]
  split
  ·rfl
  ·have:x≠n:=by rintro rfl;exact h v cM
   simp [this]
theorem Cr{kindOf:Str→Option NameKind}{x:Str}{v:Value}:∀{P:List Str} {vs:List Value} {i:Nat} {m:bV},P.Nodup→P[i]?=some x→vs[i]?=some v→kindOf x=some .local→
  bindL kindOf (P.zip vs) m x=some v
 | [],_,_,_,_,h,_,_=>by simp at h
 | _::_,[],_,_,_,_,h,_=>by simp at h
 | p::P,w::vs,0,m,nd,h1,h2,hk=>by simp at h1 h2;subst h1;subst h2;show bindL kindOf ((p,w)::P.zip vs) m p=_;unfold bindL;rw [Cp fun v hv=>(hJ.mp nd).1 (List.of_mem_zip hv).1,ae hk];simp
 | p::P,w::vs,i+1,m,nd,h1,h2,hk=>by show bindL kindOf ((p,w)::P.zip vs) m x=_;unfold bindL;exact Cr (i:=i) (hJ.mp nd).2 (by simpa using h1) (by simpa using h2) hk
theorem Cs{kindOf:Str→Option NameKind}{x:Str}{v:Value}:∀{P:List Str} {vs:List Value} {i:Nat} {m:bV},P.Nodup→P[i]?=some x→vs[i]?=some v→kindOf x≠some .local→
  bindC kindOf (P.zip vs) m x=some v
 | [],_,_,_,_,h,_,_=>by simp at h
 | _::_,[],_,_,_,_,h,_=>by simp at h
 | p::P,w::vs,0,m,nd,h1,h2,hk=>by simp at h1 h2;subst h1;subst h2;show bindC kindOf ((p,w)::P.zip vs) m p=_;unfold bindC;rw [Cq fun v hv=>(hJ.mp nd).1 (List.of_mem_zip hv).1,aa hk];simp
 | p::P,w::vs,i+1,m,nd,h1,h2,hk=>by show bindC kindOf ((p,w)::P.zip vs) m x=_;unfold bindC;exact Cs (i:=i) (hJ.mp nd).2 (by simpa using h1) (by simpa using h2) hk
def start(N:List Str)(vs:List V):St:=vs.map some++List.replicate (N.length-vs.length) none
def ic(CX:gy)(P:Program)(w:World)(K:aD)(mg:bV)(base:Heap)(N:List Str)(qual:Str)(scope:Scope)(f:Addr)(cd:Value)(A:Around)(outer:List Env)(s:Shared)(H:Hp)(E:XK):Cx where
 prog:=P
 w:=w
 K:=K
 mg:=mg
 base:=base
 A:=A.deeper (envOfC qual scope s.heap.objs.size f cd)
 N:=N
 s₀:=s
 H₀:=H
 env:=envOfC qual scope s.heap.objs.size f cd
 outer:=outer
 stack:=envOfC qual scope s.heap.objs.size f cd::outer
 ex:=[]
 calm:=true
 fn:=fun _=>true
 pn:=[]
 xe:=fun e s'=>wpAny (model P w) (A.deeper (envOfC qual scope s.heap.objs.size f cd)) (leaving (envOfC qual scope s.heap.objs.size f cd) e) (fun _ gT=>CX outer H s E e gT) (fun e' gT=>CX outer H s E e' gT) s'
theorem Ct{x:Str}(h:sc.names.lookup x=some .cell):∃c,(cellsFrom n sc.names []).lookup x=some c:=by have q:=PySem.W.cellsFrom_some sc.names n [] (.inl h);exact yd.mp q
variable {CX:gy} {mg:bV} {base:Heap} {qual:Str} {scope:Scope} {f:Addr}
theorem Iu{cd:Value}{outer:List Env}{s1:Shared}{E:XK}{vs:List V}
  (S:cf N ps scope) (hd:A.handled=none) (e0:vD P w K mg base A outer s H) (hl:vs.length=ps.length) (r:Vals vs us)
  (x:InCallC s s.heap.objs.size (bindL (envOfC qual scope s.heap.objs.size f cd).kindOf (ps.zip us) fun _=>none) (cellsFrom (s.heap.objs.size+1) scope.names []) (bindC (envOfC qual scope s.heap.objs.size f cd).kindOf (ps.zip us) fun _=>none) s1) :
  Inv (ic CX P w K mg base N qual scope f cd A outer s H E) [] (start N vs) H s1:=by
 have jN:ps.length≤N.length:=by have:=cW List.length S.pre;rw [o9] at this;omega
 obtain ⟨h1,tk,rfl,hk⟩:=x.done;have sO:∀b:Addr,b∉(ic CX P w K mg base N qual scope f cd A outer s H E).ex:=fun b z=>absurd (show b∈([]:List Addr) from z) (by simp)
 refine ⟨⟨e0.mod,S.kind,rfl,rfl,av _,fun y z c h1 h2=>?_,fun y hy=>?_,fun y c _ h=>?_,fun _=>hd,Around.frames_deeper e0.frames,.inr ⟨rfl,rfl⟩,fun b z=>absurd z (sO b),e0.bs,e0.gQ,fun b _ _=>sO b,fun b z=>absurd z (sO b),e0.iX,e0.lA⟩,
  rfl,e0.bare,Un.kept hk,⟨_,x.toInCall.ns,fun i y v h1 h2 h3=>?_⟩,fun y c h=>⟨_,x.cell y c h⟩,e0.ax.fresh (av _),fun y c h=>?_,fun p hp=>absurd (show p∈([]:aG) from hp) (by simp),e0.ax.kept hk,?_⟩
 ·exact name_of_addr x.apart (jw h1) (jw h2)
 ·have hy:scope.names.lookup y=some .cell∨scope.names.lookup y=some .free:=hy
  rcases hy with hy | hy;·exact Ct hy
  ·exact absurd rfl (S.Ir _ (jw hy))
 ·exact mF (x.above y c (jw h))
 ·have hi:i<vs.length:=by
   unfold start at h2;by_cases hi:i<vs.length;·exact hi
   ·rw [fF (by simpa using hi)] at h2
    rw [List.getElem?_replicate] at h2
    split at h2 <;> cases h2
  have ha:vs[i]?=some v:=by
   unfold start at h2;rw [fG (by simpa using hi),bq] at h2
   cases e:vs[i]? with
   | none=>rw [e] at h2;cases h2
   | some a=>rw [e] at h2;cases h2;rfl
  obtain ⟨u,hu,rv⟩:=r.get ha;have hp:ps[i]?=some y:=by rw [←S.pre,List.getElem?_take_of_lt (by omega)];exact h1
  have Cu:ps.Nodup:=by rw [←S.pre];exact S.nd.sublist (List.take_sublist _ _)
  refine ⟨u,rv,?_⟩;rcases S.par y (rN hp) with k | k;·exact .inl ⟨k,Cr Cu hp hu k⟩
  ·obtain ⟨c,e⟩:=Ct (n:=s.heap.objs.size+1) k
   refine .inr ⟨.inl k,c,e,?_⟩;have q:=x.cell y c e;rw [Cs Cu hp hu (by show scope.names.lookup y≠_;rw [k];decide)] at q
   exact q
 ·exact e0.ax.fresh (mF (x.above y c (jw h)))
 ·unfold start
  show _=N.length;rw [dF,aK,List.length_replicate];omega
theorem yP{name:Str}{params:Arguments}{body:List Stmt}{dV kV doc pm bx ct oc:Value}{an od:Option Addr}
  {i3:Array (Option Value)} {sp:Sp} (lk:K.lookup f=some ⟨oc,od,.func (PySem.W.fnOf name qual params body scope dV kV doc pm an bx ct),i3⟩) (dz:PySem.W.codeIn K bx qual=true) (S:cf N ps scope)
  (len:∀vs H Q E,sp vs H Q E→vs.length=ps.length)
  (i4:∀(A:Around) (outer:List Env) (s:Shared) (H:Hp) (vs:List V) (Q:VK) (E:XK),cT k (A.deeper (envOfC qual scope s.heap.objs.size f bx))→sp vs H Q E→
   ∃t,ei (ic CX P w K mg base N qual scope f bx A outer s H E) body t∧t {nx:=fun _ H'=>Q .aM H',rt:=Q} (start N vs) H) :
  bK P w K mg base CX (k+1) f (PySem.W.fnOf name qual params body scope dV kV doc pm an bx ct) ps sp:=by
 refine ⟨len,fun A outer s H args us vs Q E hr e0 hb r jO=>?_⟩;have hl:=len _ _ _ _ jO;have KX:K.In s.heap:=e0.mod.cB.keeps fun b o e=>(e0.bs b o e).1;have lim:s.heap.NoLimit:=e0.mod.nolimit.keeps fun b o e=>(e0.bs b o e).1;have Iv:∀y∈ps.zip us,scope.names.lookup y.1=some .local∨(scope.names.lookup y.1=some .cell∧((cellsFrom (s.heap.objs.size+1) scope.names []).lookup y.1).isSome=true):=fun⟨n,v⟩ hy=>by
  rcases S.par n (List.of_mem_zip hy).1 with q | q;·exact .inl q
  ·exact .inr ⟨q,PySem.W.cellsFrom_some _ _ _ (.inl q)⟩
 refine codeAny_call_function hr.depth (KX _ _ lk) rfl S.co S.gen rfl (PySem.W.codeRec_of KX dz) (hb _ _ _ _ ?_);refine wpAny_newFunctionEnv_cells S.kind Iv fun env he s1 x=>?_;subst he;refine ⟨lim.keeps x.toInCall.keep,codeAny_func ?_⟩;obtain ⟨t,ht,hq⟩:=i4 A outer s H vs Q E (hr.deeper _) jO;have I:Inv (ic CX P w K mg base N qual scope f bx A outer s H E) [] (start N vs) H s1:=Iu S hr.hd e0 hl r x;refine cy (ht [] s1 (start N vs) H _ I hq) (fun fl s' hs=>?_) fun e s' hs=>hs;have fin:∀{σ':St} {H':Hp} {v:V} {u:Value},Inv (ic CX P w K mg base N qual scope f bx A outer s H E) [] σ' H' s'→RelV v u→Q v H'→CE outer P w H s Q u s':=
  fun{σ' H' v u} J rv q=>⟨v,H',J.os,J.bare,J.base,J.ax,rv,q⟩
 cases fl with
 | ret u=>obtain ⟨v,σ',H',J,rv,q⟩:=hs;exact fin J rv q
 | next=>obtain ⟨σ',H',J,q⟩:=hs;exact fin (v:=V.aM) (u:=Value.none) J rfl q
 | brk=>obtain ⟨_,_,_,q⟩:=hs;exact False.elim q
 | cont=>obtain ⟨_,_,_,q⟩:=hs;exact False.elim q
section
variable {X:Cx} {x:Str} {p pos:Pos} {e:Expr} {es:List Expr} {t:TA} {id T:String} {r:List V→Hp→VK→Prop}
def yQ(r:List V→Hp→VK→Prop)(t:TA):TE:=fun σ H Q=>t σ H fun vs H1=>r vs H1 Q
theorem df(hc:fO X (.builtin id) r)(hg:Gl X x)(hm:X.mg x=none)(hv:bootBuiltins x=some (.builtin id))(ha:PA X (e::es) t)(hn:x ≠ "__name__":=by decide)(nu:(x == ("__debug__":Str))=false:=by decide)
  (he:starEach (e::es) X.env=(false,eval e X.env)::starEach es X.env:=by rfl) (jN:(backTo pos (starEach es X.env)).any (·.1)=false:=by rfl):PE X (.Call (.Name x p) (e::es) [] pos) (yQ r t):=by
 intro pins s σ H Q I h;refine uW (ko I hg hm hv ?_ hn nu);exact PyProof.Rows.callWith_builtin1 (aJ (ha pos pins s σ H _ I h) fun us s1 ⟨vs,H1,I1,r1,q1⟩=>hc pins s1 σ H1 vs us Q I1 r1 q1) he jN
theorem gU(hc:fO X (.type T) r)(hg:Gl X x)(hm:X.mg x=none)(hv:bootBuiltins x=some (.type T))(ha:PA X (e::es) t)(hn:x ≠ "__name__":=by decide)(nu:(x == ("__debug__":Str))=false:=by decide)
  (he:starEach (e::es) X.env=(false,eval e X.env)::starEach es X.env:=by rfl) (jN:(backTo pos (starEach es X.env)).any (·.1)=false:=by rfl):PE X (.Call (.Name x p) (e::es) [] pos) (yQ r t):=by
 intro pins s σ H Q I h;refine uW (ko I hg hm hv ?_ hn nu);exact rM (aJ (ha pos pins s σ H _ I h) fun us s1 ⟨vs,H1,I1,r1,q1⟩=>hc pins s1 σ H1 vs us Q I1 r1 q1) he jN
end
end L2
namespace HT
open PySem PyProof.Rows
section
open PySem.SeqAt
open PySem.AutoSeq1 (wpAny_loadPart')
open PySem.MeetsSeq PySem.MeetsSeq2 PySem.MeetsSeq3
end
section
variable {prog:Program} {w:World} {A:Around} {E:aI} {s:Shared}
def fP(n d:Nat):Option Int→Nat
 | none=>d
 | some v=>if v<0 then (v+(n:Int)).toNat else min v.toNat n
end
end HT
namespace L2
open PySem PySem.Spec PyProof.Rows
theorem intsAre_of{ns:List Int}:∀{us:List Value},Vals (ns.map V.int) us→IntsAre us ns:=by
 induction ns with
 | nil=>intro us r;rw [List.map_nil] at r;cases r;exact .nil
 | cons n ns ih=>
  intro us r;rw [cQ] at r;cases r with
  | cons r1 r2=>obtain ⟨t,e⟩:=r1;subst e;exact .cons n t (ih r2)
section
variable {X:Cx} {e:Expr} {te:TE} {lo hi:Option Expr} {tl th:TO} {pos p2:Pos}
def Iw(X:Cx)(r:V→Option Int→Option Int→Hp→VK→Prop):Prop:=
 ∀(pins:aG) (s:Shared) (σ:St) (H:Hp) (x:V) (v vl vu:Value) (lo hi:Option Int) (sl:Addr) (Q:VK),Inv X pins σ H s→RelV x v→s.heap.IsSliceOf sl vl vu .none→IsPart vl lo→IsPart vu hi→r x lo hi H Q→
  ∃T id,typeLookup (.type T) "__getitem__"=pure (some (.builtin id))∧s.TypeIs v T∧wpAny (model X.prog X.w) X.A (getItem v (.ref sl)) (EP X pins σ Q) X.xe s
def vE(xs:List V)(lo hi:Option Int):List V:=(xs.drop (HT.fP xs.length 0 lo)).take (HT.fP xs.length xs.length hi-HT.fP xs.length 0 lo)
theorem Iy(xs:List V)(lo hi:Option Int):(vE xs lo hi).length≤xs.length:=by unfold vE;rw [o9,List.length_drop];omega
end
def ie(n:Nat)(i:Int):Option Nat:=if 0≤i then (if i<n then some i.toNat else none) else if -(n:Int)≤i then some (i+n).toNat else none
def fQ{α:Type}(xs:List α)(i:Int):Option α:=(ie xs.length i).bind fun j=>xs[j]?
variable {i:Int} {j:Nat}
theorem Cv{n:Nat}(h:ie n i=some j):seqIndex? i n=some j∧j<n∧-(n:Int)≤i∧i<n:=by
 unfold ie at h;by_cases h0:0≤i
 ·rw [ae h0] at h
  by_cases h1:i<n
  ·rw [ae h1] at h
   have e:i.toNat=j:=Option.some.inj h;exact ⟨by rw [seqIndex_of h0 h1,e],by omega,by omega,h1⟩
  ·rw [aa h1] at h;cases h
 ·rw [aa h0] at h
  by_cases h1:-(n:Int)≤i
  ·rw [ae h1] at h
   have e:(i+n).toNat=j:=Option.some.inj h;exact ⟨by rw [seqIndex_neg (by omega) h1,e],by omega,h1,by omega⟩
  ·rw [aa h1] at h;cases h
theorem yR{α:Type}{xs:List α}{v:α}(h:fQ xs i=some v):∃j,seqIndex? i xs.length=some j∧xs[j]?=some v∧j<xs.length∧-(xs.length:Int)≤i∧i<xs.length:=by
 unfold fQ at h;cases e:ie xs.length i with
 | none=>rw [e] at h;cases h
 | some j=>rw [e] at h;obtain ⟨h1,h2,h3,h4⟩:=Cv e;exact ⟨j,h1,h,h2,h3,h4⟩
theorem lJ{α:Type}{xs:List α}{v:α}(h:xs[j]?=some v):fQ xs (j:Int)=some v:=by
 have hj:j<xs.length:=(bG.mp h).1;have e:ie xs.length (j:Int)=some j:=by unfold ie;rw [ae (by omega),ae (by omega)];simp
 unfold fQ;rw [e];exact h
def Cw(b:Expr):Prop:=∀o i,subscripted b false o i=operate [o,i] (getItem o i)
def sP(X:Cx)(r:R2):Prop:=
 ∀(value slice:Expr) (pins:aG) (s:Shared) (σ:St) (H:Hp) (x y:V) (v u:Value) (Q:VK),Inv X pins σ H s→RelV x v→RelV y u→r x y H Q→
  subscripted slice false v u=operate [v,u] (getItem v u)→wpAny (model X.prog X.w) X.A (subscriptTail value slice v u) (EP X pins σ Q) X.xe s
def Iz(X:Cx)(id:String)(r:V→List V→Hp→VK→Prop):Prop:=
 ∀(pins:aG) (s:Shared) (σ:St) (H:Hp) (x:V) (xs:List V) (v:Value) (us:List Value) (Q:VK),Inv X pins σ H s→RelV x v→Vals xs us→r x xs H Q→
  wpAny (model X.prog X.w) X.A (call (.builtin id) (v::us)) (EP X pins σ Q) X.xe s
section
variable {X:Cx} {a b:Expr} {ta tb:TE} {pos:Pos}
variable {r:R2}
theorem IA(hr:sP X r)(ha:PE X a ta)(hb:PE X b tb)(hs:Cw b):PE X (.Subscript a b pos) (lF r ta tb):=by intro pins s σ H Q I h;exact Subscript_ (yH ha hb I h fun v u s2 x y H2 I2 rx ry q=>hr a b pins s2 σ H2 x y v u Q I2 rx ry q (hs _ _))
theorem bt(hr:sP X r)(ha:PE X a ta)(hb:PE X b tb)(hs:Cw b:=by exact fun _ _=>rfl):PE X (.Subscript a b pos) (lF r ta tb):=IA hr ha hb hs
def Cy(K:aD):R2:=fun x y H Q=>∃p xs i v,x=.ref p∧y=.int i∧aU K H p xs∧fQ xs i=some v∧Q v H
def IC(K:aD):R2:=fun x y H Q=>∃p xs i v,x=.ref p∧y=.int i∧eW K H p xs∧fQ xs i=some v∧Q v H
theorem cq:sP X (Cy X.K):=by
 intro value slice pins s σ H x y v u Q I rx ry h hs;obtain ⟨p,xs,i,z,rfl,rfl,hq,he,q⟩:=h;cases rx;obtain ⟨t,rfl⟩:=ry;obtain ⟨its,r,pl,hz⟩:=I.list hq;obtain ⟨j,h1,h2,h3,h4,h5⟩:=yR he;obtain ⟨w,ew,kA⟩:=r.get h2;have hl:=r.length;have hn:=pQ;have fin:EP X pins σ Q w s:=⟨z,H,I,kA,q⟩;by_cases h0:0≤i
 ·have hj:i.toNat=j:=by rw [seqIndex_of h0 h5] at h1;exact Option.some.inj h1
  exact item_listR pl.isList h0 (by omega) (by rw [hj];simpa using ew) fin hs
 ·have hj:(i+(its.toArray.size:Int)).toNat=j:=by
   rw [seqIndex_neg (by omega) h4] at h1
   rw [bS,←hl];exact Option.some.inj h1
  exact subscriptTail_builtinR (x:=w) pl.isList.typeIs slot_list_getitem.lookup
   (wpAny_getItem_list_neg (Q:=fun r s'=>r=w∧EP X pins σ Q r s') pl.isList (by omega) (by rw [bS] <;> omega) (by omega) (by rw [hj];simpa using ew) ⟨rfl,fin⟩) hs
theorem ig:sP X (IC X.K):=by
 intro value slice pins s σ H x y v u Q I rx ry h hs;obtain ⟨p,xs,i,z,rfl,rfl,hq,he,q⟩:=h;cases rx;obtain ⟨t,rfl⟩:=ry;obtain ⟨its,r,pl,hz⟩:=I.tuple hq;obtain ⟨j,h1,h2,h3,h4,h5⟩:=yR he;obtain ⟨w,ew,kA⟩:=r.get h2;have hl:=r.length;have hn:=pQ;have fin:EP X pins σ Q w s:=⟨z,H,I,kA,q⟩
 exact subscriptTail_builtinR (x:=w) pl.typeIs slot_tuple_getitem.lookup
  (getItem_tuple (j:=j) (Q:=fun r s'=>r=w∧EP X pins σ Q r s') pl (by omega) (by omega) (by rw [bS,←hl];exact h1) (by simpa using ew) ⟨rfl,fin⟩) hs
theorem ID(its:List Value)(n j:Nat)(u:Value):Obj.mapSeq (·.setIfInBounds j u) {cls:=.type "list",data:=.seq its.toArray n}={cls:=.type "list",data:=.seq (its.set j u).toArray n}:=by simp [Obj.mapSeq]
theorem Inv.lst{pins:aG}{σ:St}{H:Hp}{s:Shared}{p:Addr}{xs:List V}(I:Inv X pins σ H s)(h:H p=some (.lst xs)) :
  ∃(its:List Value) (n:Nat),Vals xs its∧s.heap.get? p=some {cls:=.type "list",data:=.seq its.toArray n}∧xs.length≤sizeLine:=by
 obtain ⟨z,its,n,r,e⟩:=I.ax p _ h;exact ⟨its,n,r,e,z⟩
variable {pins:aG} {σ:St} {H:Hp} {s:Shared}
theorem Inv.IE{p:Addr}{xs ys:List V}{its its':List Value}{n n':Nat}{f:Obj→Obj}(I:Inv X pins σ H s)(h:H p=some (.lst xs))
  (ho:s.heap.get? p=some {cls:=.type "list",data:=.seq its.toArray n}) (hf:f {cls:=.type "list",data:=.seq its.toArray n}={cls:=.type "list",data:=.seq its'.toArray n'}) (r:Vals ys its') (hz:ys.length≤sizeLine) (t:Nat) :
  Inv X pins σ (upd H p (.lst ys)) {s with heap:=s.heap.update p f,toks:=t}:=by
 have e:(s.heap.update p f).get? p=some {cls:=.type "list",data:=.seq its'.toArray n'}:=by rw [Heap.get?_update_self f ho (by rw [hf] <;> rfl),hf]
 refine I.write (x:=p) (e:=p) (by rw [h];trivial) (.inl rfl) (fun b u hb q=>(ye _ _ (Ne.symm hb)).trans q) ⟨_,e⟩ ?_
 exact ⟨hz,its',n',r,e⟩
def IF:V→V→V→Hp→(Hp→Prop)→Prop:=fun o i v H Q=>∃p xs k j,o=.ref p∧i=.int k∧H p=some (.lst xs)∧ie xs.length k=some j∧Q (upd H p (.lst (xs.set j v)))
theorem set_list:yC X IF:=by
 intro pins s σ H o i v ov iv u Q I ro ri rv h;obtain ⟨p,xs,k,j,rfl,rfl,hp,hj,q⟩:=h;cases ro;obtain ⟨t,rfl⟩:=ri;obtain ⟨its,n,r,ho,hz⟩:=I.lst hp;obtain ⟨h1,h2,h3,h4⟩:=Cv hj;have hl:=r.length;have hn:=pQ;have I':Inv X pins σ (upd H p (.lst (xs.set j v))) {s with heap:=s.heap.update p (Obj.mapSeq (·.setIfInBounds j u))}:=
  I.IE hp ho (ID its n j u) (r.set rv j) (by rw [List.length_set];exact hz) s.toks
 by_cases h0:0≤k
 ·have hk:k.toNat=j:=by rw [seqIndex_of h0 h4] at h1;exact Option.some.inj h1
  exact PySem.W.ki_setAt ho h0 (by omega) (by rw [bS,←hl];exact h4) (by rw [hk];exact ⟨_,I',q⟩)
 ·have hk:(k+(its.toArray.size:Int)).toNat=j:=by
   rw [seqIndex_neg (by omega) h3] at h1
   rw [bS,←hl];exact Option.some.inj h1
  exact PySem.W.ki_setBack ho (by omega) (by rw [bS,←hl];exact h3) (by omega) (by rw [hk];exact ⟨_,I',q⟩)
theorem IG(lo hi:Option Int)(n:Nat):(sliceBounds lo hi none n).1=((HT.fP n 0 lo:Nat):Int)∧(sliceBounds lo hi none n).2.1=((HT.fP n n hi:Nat):Int)∧(sliceBounds lo hi none n).2.2=1:=by
 refine ⟨?_,?_,rfl⟩
 ·cases lo with
  | none=>simp [sliceBounds,HT.fP]
  | some i=>
   simp only [sliceBounds,HT.fP,Option.getD_none,show (1:Int)>0 by decide,if_true]
   by_cases h:i<0;·simp only [h,if_true] <;> omega
   ·simp only [h,if_false] <;> omega
 ·cases hi with
  | none=>simp [sliceBounds,HT.fP]
  | some i=>
   simp only [sliceBounds,HT.fP,Option.getD_none,show (1:Int)>0 by decide,if_true]
   by_cases h:i<0;·simp only [h,if_true] <;> omega
   ·simp only [h,if_false] <;> omega
theorem IH(its:List Value)(lo hi:Option Int):slicePick its.toArray lo hi none=((its.drop (HT.fP its.length 0 lo)).take (HT.fP its.length its.length hi-HT.fP its.length 0 lo)).toArray:=by obtain ⟨h1,h2,h3⟩:=IG lo hi its.toArray.size;unfold slicePick;rw [h1,h2,h3];simp only [sliceRange_one,pick_run,bS] <;> rfl
def II(K:aD):V→Option Int→Option Int→Hp→VK→Prop:=fun x lo hi H Q=>∃a xs,x=.ref a∧aU K H a xs∧∀p,H p=none→Q (.ref p) (upd H p (.lst (vE xs lo hi)))
theorem SU:Iw X (II X.K):=by
 intro pins s σ H x v vl vu lo hi sl Q I rx hs pl pu h;obtain ⟨a,xs,rfl,hx,q⟩:=h;cases rx;obtain ⟨its,r,ht,hz⟩:=I.list hx;have hlen:=r.length;refine ⟨"list",_,slot_list_getitem.lookup,ht.isList.typeIs,?_⟩;refine wpAny_getItem_list_slice ht.isList hs pl pu .none (by simp) ?_ (by rw [bS] <;> omega)
 rw [IH,←hlen];refine ⟨.ref s.heap.objs.size,_,I.laid (t':=s.toks) (o:=.lst (vE xs lo hi)) (fun b ob q=>bO _ q) (av _) ?_,rfl,q _ (I.ax.fresh (av _))⟩;exact ⟨bI (Iy xs lo hi) hz,_,0,(r.drop (HT.fP xs.length 0 lo)).take (HT.fP xs.length xs.length hi-HT.fP xs.length 0 lo),dQ _ rfl⟩
def iq:V→Bool
 | .aM=>true
 | .bl _=>true
 | .int _=>true
 | .str _=>true
 | _=>false
def dU:V→V→Bool
 | .aM,.aM=>true
 | .bl a,.bl b=>a == b
 | .bl a,.int b=>(if a then 1 else 0) == b
 | .int a,.bl b=>a == (if b then 1 else 0)
 | .int a,.int b=>a == b
 | .str a,.str b=>a == b
 | _,_=>false
variable {y x:V} {u:Value}
theorem nB{A:Around}{v:Value}(ry:RelV y u)(rx:RelV x v)(fy:iq y=true)(fx:iq x=true):SeqAt.EqAt A s u v (dU y x):=by
 cases y with
 | aM=>
  cases ry;cases x with
  | aM=>cases rx;exact SeqAt.EqAt.same _
  | bl b=>cases rx;exact SeqAt.EqAt.none_bool b
  | int b=>obtain ⟨t,rfl⟩:=rx;exact SeqAt.EqAt.none_int b t
  | str b=>obtain ⟨t,rfl⟩:=rx;exact SeqAt.EqAt.none_str b t
  | _=>exact absurd (show false=true from fx) cO
 | bl a=>
  cases ry;cases x with
  | aM=>cases rx;exact SeqAt.EqAt.bool_none a
  | bl b=>cases rx;exact SeqAt.EqAt.bool_bool a b
  | int b=>obtain ⟨t,rfl⟩:=rx;exact SeqAt.EqAt.bool_int a b t
  | str b=>obtain ⟨t,rfl⟩:=rx;exact SeqAt.EqAt.bool_str a b t
  | _=>exact absurd (show false=true from fx) cO
 | int a=>
  obtain ⟨t',rfl⟩:=ry;cases x with
  | aM=>cases rx;exact SeqAt.EqAt.int_none a t'
  | bl b=>cases rx;exact SeqAt.EqAt.int_bool a t' b
  | int b=>obtain ⟨t,rfl⟩:=rx;exact SeqAt.EqAt.int_int a t' b t
  | str b=>obtain ⟨t,rfl⟩:=rx;exact SeqAt.EqAt.int_str a t' b t
  | _=>exact absurd (show false=true from fx) cO
 | str a=>
  obtain ⟨t',rfl⟩:=ry;cases x with
  | aM=>cases rx;exact SeqAt.EqAt.str_none a t'
  | bl b=>cases rx;exact SeqAt.EqAt.str_bool a t' b
  | int b=>obtain ⟨t,rfl⟩:=rx;exact SeqAt.EqAt.str_int a t' b t
  | str b=>obtain ⟨t,rfl⟩:=rx;exact SeqAt.EqAt.str_str a t' b t
  | _=>exact absurd (show false=true from fx) cO
 | _=>exact absurd (show false=true from fy) cO
def fR(x:V)(u:Value):Bool:=match u with
 | .none=>dU .aM x
 | .bool b=>dU (.bl b) x
 | .int i _=>dU (.int i) x
 | .str z _=>dU (.str z) x
 | _=>false
theorem Cz(r:RelV y u)(f:iq y=true):fR x u=dU y x:=by
 cases y with
 | aM=>cases r;rfl
 | bl b=>cases r;rfl
 | int i=>obtain ⟨t,rfl⟩:=r;rfl
 | str z=>obtain ⟨t,rfl⟩:=r;rfl
 | _=>exact absurd (show false=true from f) cO
theorem sQ{x:V}:∀{xs:List V} {us:List Value},Vals xs us→xs.all iq=true→us.any (fR x)=xs.any fun y=>dU y x
 | _,_,.nil,_=>rfl
 | y::xs,u::us,.cons r t,f=>by rw [List.all_cons,o_] at f;rw [rO,rO,Cz r f.1,sQ t f.2]
theorem sS{A:Around}{s:Shared}{x:V}{v:Value}(rx:RelV x v)(fx:iq x=true):∀{xs:List V} {us:List Value},Vals xs us→xs.all iq=true→∀u∈us,SeqAt.EqAt A s u v (fR x u)
 | _,_,.nil,_=>fun u hu=>by cases hu
 | y::xs,u::us,.cons r t,f=>fun u' hu=>by
  rw [List.all_cons,o_] at f;rcases bE.mp hu with rfl | hu;·rw [Cz r f.1];exact nB r rx f.1 fx
  ·exact sS rx fx t f.2 u' hu
def pR(x:V)(xs:List V):Bool:=xs.any fun y=>dU y x
def vF(K:aD)(neg:Bool):R2:=fun x y H Q=>∃p xs,y=.ref p∧(aU K H p xs∨eW K H p xs)∧iq x=true∧xs.all iq=true∧Q (.bl (if neg then !pR x xs else pR x xs)) H
theorem IJ:b7 X (compareOp .In) (vF X.K false):=by
 intro pins s σ H x y v u Q I rx ry h;obtain ⟨p,xs,rfl,hq,fx,fs,q⟩:=h;cases ry;rcases hq with hq | hq
 ·obtain ⟨its,r,pl,hz⟩:=I.list hq
  refine SeqAt.in_listAt (fR x) pl.isList (fun w hw=>sS rx fx r fs w (by simpa using hw)) ⟨.bl _,H,I,rfl,?_⟩
  rw [show its.toArray.any (fR x)=its.any (fR x) by simp,sQ r fs]
  exact q
 ·obtain ⟨its,r,pl,hz⟩:=I.tuple hq
  refine SeqAt.in_tupleAt (fR x) pl (fun w hw=>sS rx fx r fs w (by simpa using hw)) ⟨.bl _,H,I,rfl,?_⟩
  rw [show its.toArray.any (fR x)=its.any (fR x) by simp,sQ r fs]
  exact q
theorem IK:b7 X (compareOp .NotIn) (vF X.K true):=by
 intro pins s σ H x y v u Q I rx ry h;obtain ⟨p,xs,rfl,hq,fx,fs,q⟩:=h;cases ry;rcases hq with hq | hq
 ·obtain ⟨its,r,pl,hz⟩:=I.list hq
  refine SeqAt.notIn_listAt (fR x) pl.isList (fun w hw=>sS rx fx r fs w (by simpa using hw)) ⟨.bl _,H,I,rfl,?_⟩
  rw [show its.toArray.any (fR x)=its.any (fR x) by simp,sQ r fs]
  exact q
 ·obtain ⟨its,r,pl,hz⟩:=I.tuple hq
  refine SeqAt.notIn_tupleAt (fR x) pl (fun w hw=>sS rx fx r fs w (by simpa using hw)) ⟨.bl _,H,I,rfl,?_⟩
  rw [show its.toArray.any (fR x)=its.any (fR x) by simp,sQ r fs]
  exact q
theorem kB:fO X (.builtin "len") (fun xs H Q=>∃p ys,xs=[.ref p]∧(aU X.K H p ys∨eW X.K H p ys)∧Q (.int ys.length) H):=by
 intro pins s σ H xs us Q I r h;obtain ⟨p,ys,rfl,hq,q⟩:=h;obtain ⟨u,rfl,rx⟩:=vals1 r;cases rx;have hn:=pQ;rcases hq with hq | hq
 ·obtain ⟨its,r',pl,hz⟩:=I.list hq
  have hlen:=r'.length;exact Calls.call_len_list pl.isList (by simp only [bS] <;> omega) ⟨.int ys.length,H,I.tok _,⟨s.toks+1,by rw [bS,hlen]⟩,q⟩
 ·obtain ⟨its,r',pl,hz⟩:=I.tuple hq
  have hlen:=r'.length;exact len_tuple pl (by simp only [bS] <;> omega) ⟨.int ys.length,H,I.tok _,⟨s.toks+1,by rw [bS,hlen]⟩,q⟩
theorem IL:fO X (.type "list") (fun xs H Q=>∃p ys,xs=[.ref p]∧(aU X.K H p ys∨eW X.K H p ys)∧∀l,H l=none→Q (.ref l) (upd H l (.lst ys))):=by
 intro pins s σ H xs us Q I r h;obtain ⟨p,ys,rfl,hq,q⟩:=h;obtain ⟨u,rfl,rx⟩:=vals1 r;cases rx
 have fin:∀(its:List Value),Vals ys its→ys.length≤sizeLine→∀(h':Heap) (c':Nat),(∀b o',s.heap.get? b=some o'→h'.get? b=some o')→
   h'.get? s.heap.objs.size=some {cls:=.type "list",dict:=none,data:=.seq its.toArray c',slots:=#[]}→EP X pins σ Q (.ref s.heap.objs.size) {s with heap:=h'}:=fun its r' hz h' c' kp e=>
  ⟨.ref s.heap.objs.size,_,I.laid (t':=s.toks) kp (av _) (show bu X.prog X.w _ h' _ (.lst ys) from ⟨hz,its,c',r',e⟩),rfl,q _ (I.ax.fresh (av _))⟩
 rcases hq with hq | hq
 ·obtain ⟨its,r',pl,hz⟩:=I.list hq
  have hlen:=r'.length;obtain ⟨o,ho,hc,n,hd⟩:=pl.isList;exact call_list_seq p (.inl rfl) ho hc hd (fun h' c' kp e=>fin its r' hz h' c' kp e) (by simp only [bS] <;> omega)
 ·obtain ⟨its,r',pl,hz⟩:=I.tuple hq
  have hlen:=r'.length;obtain ⟨o,ho,hc,n,hd⟩:=pl;exact call_list_seq p (.inr rfl) ho hc hd (fun h' c' kp e=>fin its r' hz h' c' kp e) (by simp only [bS] <;> omega)
theorem CA:fO X (.type "tuple") (fun xs H Q=>∃p ys,xs=[.ref p]∧((aU X.K H p ys∧∀l,H l=none→Q (.ref l) (upd H l (.tup ys)))∨(eW X.K H p ys∧Q (.ref p) H))):=by
 intro pins s σ H xs us Q I r h;obtain ⟨p,ys,rfl,h⟩:=h;obtain ⟨u,rfl,rx⟩:=vals1 r;cases rx;rcases h with ⟨hq,q⟩ | ⟨hq,q⟩
 ·obtain ⟨its,r',pl,hz⟩:=I.list hq
  have hlen:=r'.length;refine call_tuple_list pl.isList (fun h' kp=>?_) (by simp only [bS] <;> omega)
  have I1:Inv X pins σ H {s with heap:=h'}:=I.kept (t':=s.toks) kp;have I2:Inv X pins σ (upd H h'.objs.size (.tup ys)) {s with heap:=h'.push {cls:=.type "tuple",data:=.seq its.toArray}}:=
   I1.laid (t':=s.toks) (fun b o e=>bO _ e) (av _) (show bu X.prog X.w _ _ _ (.tup ys) from ⟨hz,its,r',IsTup.new _ _⟩)
  exact ⟨.ref h'.objs.size,_,I2,rfl,q _ (I1.ax.fresh (av _))⟩
 ·obtain ⟨its,r',pl,hz⟩:=I.tuple hq
  exact call_tuple_same pl ⟨.ref p,H,I,rfl,q⟩
def CB(K:aD)(T:String)(x:V)(H:Hp):Prop:=match x with
 | .str _=>T="str"
 | .int _=>T="int"
 | .ref p=>(T="list"∧∃xs,aU K H p xs)∨(T="tuple"∧∃o,K.lookup p=some o∧o.cls=.type "tuple"∧o.dict=none) ∨
   (T="dict"∧((∃kvs,H p=some (.dK kvs))∨∃kvs,H p=some (.dT kvs)))∨(T="set"∧∃S n,H p=some (.set S n))
 | _=>False
theorem IM{T:String}{v:Value}(I:Inv X pins σ H s)(r:RelV x v)(ty:CB X.K T x H) :
  s.TypeIs v T∧∀a,v=.ref a→∃ob,s.heap.get? a=some ob∧ob.dict=none:=by
 cases x with
 | str z=>obtain ⟨t,rfl⟩:=r;cases (show T="str" from ty);exact ⟨typeIs_str s z t,fun _ e=>nomatch e⟩
 | int i=>obtain ⟨t,rfl⟩:=r;cases (show T="int" from ty);exact ⟨typeIs_int s i t,fun _ e=>nomatch e⟩
 | ref p=>
  cases r;rcases ty with ⟨rfl,xs,hq⟩ | ⟨rfl,o,hk,hc,hd⟩ | ⟨rfl,hk⟩ | ⟨rfl,S,n,hk⟩
  ·obtain ⟨its,_,pl,_⟩:=I.list hq
   refine ⟨pl.isList.typeIs,fun a e=>?_⟩;cases e;obtain ⟨o,n,e,c,hd,_⟩:=pl;exact ⟨o,e,hd⟩
  ·refine ⟨⟨o,I.dS p o hk,hc⟩,fun a e=>?_⟩
   cases e;exact ⟨o,I.dS _ o hk,hd⟩
  ·have z:∃o,s.heap.get? p=some o∧o.ExactDict:=by
    rcases hk with ⟨kvs,hk⟩ | ⟨kvs,hk⟩
    ·obtain ⟨_,_,_,_,o,_,_,e,ex,_⟩:=I.ax p _ hk
     exact ⟨o,e,ex⟩
    ·obtain ⟨_,_,_,_,o,_,_,e,ex,_⟩:=I.ax p _ hk
     exact ⟨o,e,ex⟩
   obtain ⟨o,e,ex⟩:=z;refine ⟨⟨o,e,ex.1⟩,fun a e2=>?_⟩;cases e2;exact ⟨o,e,ex.2.1⟩
  ·obtain ⟨o,_,_,_,e,ex,_⟩:=I.ax p _ hk
   refine ⟨⟨o,e,ex.1⟩,fun a e2=>?_⟩;cases e2;exact ⟨o,e,ex.2.1⟩
 | _=>exact False.elim ty
def IP(K:aD)(T:String)(r:V→List V→Hp→VK→Prop)(to:TE)(t:TA):TE:=fun σ H Q=>to σ H fun x H1=>CB K T x H1∧t σ H1 fun xs H2=>r x xs H2 Q
variable {o e:Expr} {es:List Expr} {to:TE} {t:TA} {name:Str} {apos gW:Pos} {T id:String} {r:V→List V→Hp→VK→Prop}
theorem fS(pa:PlainAttrs T)(slot:Slot T name id)(IQ:typeOf (.builtin id)=pure (.type "method_descriptor"))(hm:Iz X id r)(ho:PE X o to)(ha:PA X (e::es) t)
  (IS:attributeBase o name X.env (eval o X.env)=eval o X.env:=by rfl)
  (IT:((backTo gW (starEach (e::es) X.env)).all (fun x=>!x.1) && (backToKw gW (keywordEach [] X.env)).all (fun x=>x.1.isSome)
   && decide ((e::es).length+([]:List Keyword).length+(if ([]:List Keyword).isEmpty then 0 else 1)<30))=true:=by rfl)
  (IU:(apos.endLine == gW.line)=true:=by rfl) (hs:starEach (e::es) X.env=(false,eval e X.env)::starEach es X.env:=by rfl) (IV:(backTo gW (starEach es X.env)).any (·.1)=false:=by rfl) :
  PE X (.Call (.Attribute o name apos) (e::es) [] gW) (IP X.K T r to t):=by
 intro pins s σ H Q I h;refine wpAny_Call_method_late IS IT IU rfl (aJ (ho pins s σ H _ I h) fun v s1 ⟨x,H1,I1,r1,ty,q1⟩=>?_);obtain ⟨h1,h2⟩:=IM I1 r1 ty;refine ⟨T,id,pa,slot,IQ,h1,h2,?_⟩;have hA:=ha gW pins s1 σ H1 _ I1 q1;rw [hs] at hA ⊢;refine Calls.callWith_builtin (by show (false || (backTo gW (starEach es X.env)).any (·.1))=false;rw [IV] <;> rfl) (Calls.evalArgs_plain ?_)
 exact aJ hA fun us s2 ⟨vs,H2,I2,r2,q2⟩=>hm pins s2 σ H2 x vs v us Q I2 r1 r2 q2
end
def vG(X:Cx)(id:String)(r:V→List V→Hp→VK→Prop):Prop:=
 ∀(pins:aG) (s:Shared) (σ:St) (H:Hp) (x:V) (xs:List V) (v:Value) (us:List Value) (Q:VK),Inv X pins σ H s→RelV x v→Vals xs us→r x xs H Q→
  wpAny (model X.prog X.w) X.A (call (.builtin id) (v::us)) (EP X pins σ Q) X.xe s
theorem Vals.one:∀{x:V} {us:List Value},Vals [x] us→∃u,us=[u]∧RelV x u
 | _,_,.cons r .nil=>⟨_,rfl,r⟩
theorem Vals.eraseIdx:∀{xs:List V} {us:List Value} (i:Nat),Vals xs us→Vals (xs.eraseIdx i) (us.eraseIdx i)
 | _,_,_,.nil=>.nil
 | _,_,0,.cons _ t=>t
 | _,_,i+1,.cons r t=>.cons r (Vals.eraseIdx i t)
theorem Vals.reverse{xs:List V}{us:List Value}(h:Vals xs us):Vals xs.reverse us.reverse:=by
 induction h with
 | nil=>exact .nil
 | cons r t ih=>rw [List.reverse_cons,List.reverse_cons];exact Vals.append ih (.cons r .nil)
theorem Vals.rep{xs:List V}{us:List Value}(h:Vals xs us):∀k:Nat,Vals (List.replicate k xs).flatten (List.replicate k us).flatten
 | 0=>.nil
 | k+1=>by rw [k6,k6,pb,pb];exact Vals.append h (Vals.rep h k)
theorem yS{α:Type}:∀(l:List α) (i:Nat),(l.eraseIdx i).length≤l.length
 | [],_=>av _
 | _::_,0=>hU _
 | _::r,i+1=>Nat.succ_le_succ (yS r i)
theorem foldl_rep(its:List Value):∀(k:Nat) (acc:List Value),
  List.foldl (fun x1 x2=>x1++x2) acc.toArray (List.replicate k its.toArray)=(acc++(List.replicate k its).flatten).toArray
 | 0,acc=>by simp
 | k+1,acc=>by
  have e:acc.toArray++its.toArray=(acc++its).toArray:=by simp
  have e2:(acc++its)++(List.replicate k its).flatten=acc++(List.replicate (k+1) its).flatten:=by rw [k6,pb,fg]
  rw [←e2,←foldl_rep its k (acc++its),←e,k6,List.foldl_cons]
section
variable {X:Cx} {pins:aG} {σ:St} {H:Hp} {s:Shared} {l b:Addr} {xs ys zs:List V}
variable {its:List Value} {n t':Nat}
theorem Inv.vH{its':List Value}{f:Array Value→Array Value}(I:Inv X pins σ H s)(hH:H l=some (.lst xs))
  (e:s.heap.get? l=some {cls:=.type "list",data:=.seq its.toArray n}) (hf:f its.toArray=its'.toArray) (hv:Vals ys its') (hz:ys.length≤sizeLine) :
  Inv X pins σ (upd H l (.lst ys)) {s with heap:=s.heap.update l (Obj.mapSeq f),toks:=t'}:=by
 have q:=PySem.IsL.update e f;rw [hf] at q;refine I.write (x:=l) (e:=l) (by rw [hH];exact trivial) (.inl rfl) (fun b' u hb hu=>(ye s.heap (Obj.mapSeq f) (Ne.symm hb)).trans hu) ⟨_,q⟩ ?_
 exact ⟨hz,its',_,hv,q⟩
theorem Inv.CD(I:Inv X pins σ H s)(hv:Vals ys its)(hz:ys.length≤sizeLine) :
  Inv X pins σ (upd H s.heap.objs.size (.lst ys)) {s with heap:=s.heap.push {cls:=.type "list",data:=.seq its.toArray},toks:=t'}:=
 I.laid (fun _ _ q=>bO _ q) (av _) ⟨hz,its,0,hv,dQ _ rfl⟩
theorem Inv.fresh(I:Inv X pins σ H s):H s.heap.objs.size=none:=I.ax.fresh (av _)
theorem Inv.lK(I:Inv X pins σ H s)(hH:H l=some (.lst xs)):xs.length≤sizeLine∧∃(its:List Value) (n:Nat),Vals xs its∧xs.length=its.length∧s.heap.get? l=some {cls:=.type "list",data:=.seq its.toArray n}:=by obtain ⟨z,its,n,r,e⟩:=I.ax l _ hH;exact ⟨z,its,n,r,r.length,e⟩
theorem CF(h:n≤sizeLine):Builtin.List.listTooLong n=false:=by unfold Builtin.List.listTooLong;exact bX (by omega)
end
section
variable {X:Cx}
def IW:V→List V→Hp→VK→Prop:=fun x vs H Q=>∃l xs y,x=.ref l∧vs=[y]∧H l=some (.lst xs)∧xs.length<sizeLine∧Q .aM (upd H l (.lst (xs++[y])))
theorem gX:vG X "list.append" IW:=by
 intro pins s σ H x vs v us Q I rx rv h;obtain ⟨l,xs,y,rfl,rfl,hH,hz,q⟩:=h;cases rx;obtain ⟨u,rfl,ru⟩:=rv.one;obtain ⟨z,its,n,r,hl,e⟩:=I.lK hH;refine call_meets F.slot_list_append ⟨_,e,rfl⟩ F.entry_list_append (F.args_list_append_2 _ _) (PySem.list_append l its.toArray n u (by rw [bS];omega)) ⟨e,?_⟩
 refine ⟨.aM,_,I.vH (its':=its++[u]) hH e (by simp) (r.append (.cons ru .nil)) ?_,rfl,q⟩
 rw [dF,rQ];omega
def IY:V→List V→Hp→VK→Prop:=fun x vs H Q=>∃l b xs zs,x=.ref l∧vs=[.ref b]∧H l=some (.lst xs)∧H b=some (.lst zs)∧xs.length+zs.length≤sizeLine∧Q .aM (upd H l (.lst (xs++zs)))
theorem CG:vG X "list.extend" IY:=by
 intro pins s σ H x vs v us Q I rx rv h;obtain ⟨l,b,xs,zs,rfl,rfl,hH,hB,hz,q⟩:=h;cases rx;obtain ⟨u,rfl,ru⟩:=rv.one;cases ru;obtain ⟨z,its,n,r,hl,e⟩:=I.lK hH;obtain ⟨z2,lN,n2,r2,IZ,e2⟩:=I.lK hB;have hsz:its.toArray.size+lN.toArray.size≤sizeLine:=by rw [bS,bS];omega
 have yT:¬(!its.toArray.isEmpty && Builtin.List.listTooLong (its.toArray.size+lN.toArray.size))=true:=by rw [CF hsz,Bool.and_false];exact cO
 refine call_meets F.slot_list_extend ⟨_,e,rfl⟩ F.entry_list_extend (F.args_list_extend_2 _ _)
  (AutoSeq1.list_extend_list_list_0 l its.toArray n b lN.toArray n2 yT (by rw [bS];omega) (by omega)) ⟨e,e2,?_⟩
 refine ⟨.aM,_,I.vH (its':=its++lN) hH e (by simp) (r.append r2) ?_,rfl,q⟩
 rw [dF];omega
def I0:V→List V→Hp→VK→Prop:=fun x vs H Q=>∃l xs i k y,x=.ref l∧vs=[.int i]∧H l=some (.lst xs)∧-(2 ^ 63)≤i∧i<2 ^ 63∧seqIndex? i xs.length=some k∧xs[k]?=some y∧Q y (upd H l (.lst (xs.eraseIdx k)))
theorem I_:vG X "list.pop" I0:=by
 intro pins s σ H x vs v us Q I rx rv h;obtain ⟨l,xs,i,k,y,rfl,rfl,hH,h1,h2,hk,hy,q⟩:=h;cases rx;obtain ⟨u,rfl,ru⟩:=rv.one;obtain ⟨t,rfl⟩:=ru;obtain ⟨z,its,n,r,hl,e⟩:=I.lK hH;obtain ⟨w,hw,kA⟩:=r.get hy
 refine call_meets F.slot_list_pop ⟨_,e,rfl⟩ F.entry_list_pop (F.args_list_pop_2 _ _)
  (MeetsSeq.list_pop_at l its.toArray n i t k w (fitsIndex_both h1 h2) (by rw [bS,←hl];exact hk) (by rw [←uX];exact hw) (by rw [bS];omega)) ⟨e,?_⟩
 refine ⟨y,_,I.vH (its':=its.eraseIdx k) hH e ?_ (r.eraseIdx k) ?_,kA,q⟩
 ·show its.toArray.eraseIdxIfInBounds k=(its.eraseIdx k).toArray
  rw [List.eraseIdxIfInBounds_toArray]
 ·have:=yS xs k
  omega
def Ja:R2:=fun x y H Q=>∃l b xs zs,x=.ref l∧y=.ref b∧H l=some (.lst xs)∧H b=some (.lst zs)∧xs.length+zs.length≤sizeLine∧∀p,H p=none→Q (.ref p) (upd H p (.lst (xs++zs)))
theorem Jb:b7 X (binaryOp .Add) Ja:=by
 intro pins s σ H x y v u Q I rx ry h;obtain ⟨l,b,xs,zs,rfl,rfl,hH,hB,hz,q⟩:=h;cases rx;cases ry;obtain ⟨z,its,n,r,hl,e⟩:=I.lK hH;obtain ⟨z2,lN,n2,r2,IZ,e2⟩:=I.lK hB;refine PySem.P.add_list e e2 ?_ (by rw [bS,bS];omega)
 have ea:its.toArray++lN.toArray=(its++lN).toArray:=by simp
 rw [ea];exact ⟨.ref _,_,I.CD (t':=s.toks) (r.append r2) (by rw [dF];omega),rfl,q _ I.fresh⟩
def Jc:R2:=fun x y H Q=>∃l k xs,x=.ref l∧y=.int k∧H l=some (.lst xs)∧-(2 ^ 63)≤k∧k<2 ^ 63∧xs.length*k.toNat≤sizeLine ∧
 ∀p,H p=none→Q (.ref p) (upd H p (.lst (List.replicate k.toNat xs).flatten))
theorem len_rep{α:Type}(xs:List α)(k:Nat):(List.replicate k xs).flatten.length=k*xs.length:=by
 induction k with
 | zero=>simp
 | succ k ih=>rw [k6,pb,dF,ih,Nat.succ_mul,Nat.add_comm]
theorem CH:b7 X (binaryOp .Mult) Jc:=by
 intro pins s σ H x y v u Q I rx ry h;obtain ⟨l,k,xs,rfl,rfl,hH,h1,h2,hz,q⟩:=h;cases rx;obtain ⟨t,rfl⟩:=ry;obtain ⟨z,its,n,r,hl,e⟩:=I.lK hH;have hlen:its.toArray.size*k.toNat≤sizeLine:=by rw [bS,←hl];exact hz
 have Jd:¬its.toArray.size*k.toNat>(2 ^ 63-1) / 8:=by
  have:(sizeLine:Nat)≤(2 ^ 63-1) / 8:=by decide
  omega
 have yU:¬(!Builtin.List.listFitsIndex k)=true:=by rw [fitsIndex_both h1 h2];exact cO
 have yT:¬Builtin.List.listTooLong (its.toArray.size*k.toNat)=true:=by rw [CF hlen];exact cO
 have Je:List.foldl (fun x1 x2=>x1++x2) #[] (List.replicate (if its.toArray.isEmpty=true then 0 else k.toNat) its.toArray)=(List.replicate k.toNat its).flatten.toArray:=by
  have f0:∀m:Nat,List.foldl (fun x1 x2=>x1++x2) #[] (List.replicate m its.toArray)=(List.replicate m its).flatten.toArray:=fun m=>by have:=foldl_rep its m [];rw [uY] at this;exact this
  rw [f0];cases its with
  | nil=>simp
  | cons a r'=>rw [aa (by simp)]
 refine wpAny_binaryOp_repeat_ref (T:="list") (U:="int") (by decide) ⟨_,e,rfl⟩ (fun s'=>typeIs_int s' k t) noFill_list_mul F.fills_int_mul F.slot_int_rmul repeat_list F.slot_int_index.lookup
  (call_meets F.slot_int_rmul (typeIs_int s k t) F.entry_int_rmul (F.args_int_rmul_2 _ _) (int___rmul___int_list k t l its.toArray n)
   ⟨e,rfl,⟨_,e,rfl⟩,call_meets F.slot_list_mul ⟨_,e,rfl⟩ F.entry_list_mul (F.args_list_mul_2 _ _) (AutoListH.list___mul___list_int_3 l its.toArray n k t yU Jd yT) ⟨e,?_⟩⟩)
 rw [Je];exact ⟨.ref _,_,I.CD (t':=s.toks) (r.rep k.toNat) (by rw [len_rep,Nat.mul_comm];exact hz),rfl,q _ I.fresh⟩
end
section
variable {prog:Program} {w:World} {A:Around} {E:aI} {s:Shared}
end
section
variable {X:Cx}
end
end L2
namespace Att
open PySem PySem.W PySem.Calls PyProof.Rows
variable {P:Params} {h:Heap}
theorem Jf:∀(ns:List Int) (vs:List Value),WellAll P h vs (ns.map WData.int)→IntsAre vs ns:=by
 intro ns
 induction ns with
 | nil=>intro vs w;rw [List.map_nil] at w;cases w;exact .nil
 | cons n ns ih=>
  intro vs w;rw [cQ] at w;cases w with
  | cons a b=>cases a;exact .cons _ _ (ih _ b)
variable {l:OpenLaw} {n:Nat}
theorem Jg(hn:l.most=some n){args:List WData}{vals:List Value}
  (vI:l.row.toRowW.claim.pre args=true) (yV:WellAll P h vals args) :
  ∃a vs ns,vals=[Value.ref a]∧args=[WData.list (ns.map WData.int)]∧h.get? a=some {cls:=.type "list",data:=.seq vs.toArray}∧IntsAre vs ns∧ns.length≤n:=by
 have Jh:WShape.hasAll [] args [.list .int]=true:=(pre_splitW vI).1;have hc:l.pre.holds [] {args:=args}=true:=(pre_splitW vI).2;obtain ⟨d,r,rfl,h1,h2⟩:=hasAllW_cons Jh;obtain rfl:=hasAllW_nil h2;obtain ⟨xs,rfl,h3⟩:=hasW_list h1;obtain ⟨ns,rfl⟩:=items_int h3;have hlen:ns.length≤n:=by
  unfold OpenLaw.pre at hc;have h4:(WTm.not (.lt (.lit (.int (n:Int))) (.len (.arg 0)))).holds [] {args:=[.list (ns.map .int)]}=true:=by have h4:=(holds_andW hc).1;rw [hn] at h4;exact h4
  have h5:=condW_of h4 (w_not (w_lt w_lit (w_len_list (w_arg rfl))));rw [aK] at h5;refine Nat.le_of_not_lt fun q=>?_;have q':(n:Int)<((ns.length:Nat):Int):=by omega
  first
   | (rw [bF q'] at h5;exact absurd h5 (by decide))
   | (simp at h5;omega)
 cases yV with
 | cons w1 w2=>
  cases w2;cases w1 with
  | list ho Ji=>exact ⟨_,_,ns,rfl,rfl,ho,Jf ns _ Ji,hlen⟩
theorem Jj(l:OpenLaw)(args:List WData):l.row.toRowW.claim.post args (.bool true) args=true:=
 postW_of (r:=l.row.toRowW) (X:=(true == true))
  (show WShape.has [] (.bool true) .bool=true by first | rfl | decide | simp [WShape.has,WShape.arms,WShape.armsAll])
  (show (WTm.eq .res (.lit (.bool true))).value [] {args:=args,res:=some (.bool true),after:=args}=some (.bool (true == true)) from w_eq_bool (w_res rfl) w_lit) rfl
theorem Jk{q:Program}{loose:List Str}{XP:(Str→Option Value)→Heap→Prop}{YP:World→Heap→Prop}{d:DefRec}
  (hn:l.most=some n) (sU:d.params.defaults=[])
  (call:∀(w:World) (s₀ s₁:Shared) (mg mb:bV) (fa:Addr) (o:Obj) (pm cd doc:Value) (a:Addr) (vs:List Value) (ns:List Int),
   Ground q loose [] XP w s₀ mg mb s₁.heap→YP w s₁.heap→
   s₁.heap.get? fa=some o→o.data=.func (docDef d.name d.params d.body d.scope pm cd doc)→s₁.heap.CodeRec cd d.name→mg d.name=some (.ref fa)→
   s₁.heap.get? a=some {cls:=.type "list",data:=.seq vs.toArray}→IntsAre vs ns→ns.length≤n→s₁.gens = #[]→
   codeAny (model l.prog w) callerA (.call (.ref fa) ⟨[.ref a],[]⟩) (fun r s'=>r=.ok (.ret (.bool true))∧OldK s₁.heap s'.heap∧s'.os=s₁.os∧AllBare s'.gens) s₁) :
  WalkO q loose XP YP l.row.toRowW d [] (fun f vs=>PySem.call f vs):=by
 intro w s₀ s₁ mg mb G Y fa o pm cd doc dV kV ho hd dz hD sV hg args vals as vI Ta Tb yV Te;obtain rfl:dV=.none:=Dflts.none hD sU;obtain rfl:kV=.none:=Dflts.noKw hD;obtain ⟨a,vs,ns,rfl,rfl,yW,hints,hlen⟩:=Jg hn vI yV;refine enter_call (codeAny_mono (call w s₀ s₁ mg mb fa o pm cd doc a vs ns G Y ho (fd_plain hd) dz sV yW hints hlen hg) fun r s' hq=>?_);obtain ⟨rfl,h2,h3,h4⟩:=hq;exact ⟨.inl ⟨.bool true,.bool true,[],rfl,fun _=>rfl,.bool true,Jj l _,fun _=>⟨List.Pairwise.nil,fun _ hm=>(nomatch hm)⟩⟩,h2,h3,h4⟩
section
variable {prog:Program} {w:World} {A:Around} {E:aI} {s:Shared} {K:Frag}
def nC(h:Heap):Heap:={h with objs:=#[]}
theorem yX(h:Heap)(b:Addr):(nC h).get? b=none:=by
 cases e:(nC h).get? b with
 | none=>rfl
 | some o=>exact absurd (aS e) (mL _)
def ledger(h:Heap)(L d:Addr):List (Addr×Obj):=(List.range h.objs.size).filterMap fun a=>if a=L∨a=d then none else (h.get? a).map fun o=>(a,o)
variable {L d:Addr}
theorem CI{a:Addr}{o:Obj}:(a,o)∈ledger h L d↔a≠L∧a≠d∧h.get? a=some o:=by
 unfold ledger;rw [uV];constructor
 ·rintro ⟨b,_,e⟩
  split at e
  ·cases e
  ·rename_i hb
   obtain ⟨o',ho,e'⟩:=Option.map_eq_some_iff.mp e;cases e';exact ⟨fun q=>hb (.inl q),fun q=>hb (.inr q),ho⟩
 ·rintro ⟨n1,n2,ho⟩
  refine ⟨a,cL.mpr (aS ho),?_⟩;rw [aa (show ¬(a=L∨a=d) from fun q=>q.elim n1 n2),ho] <;> rfl
theorem Jl{od:Obj}(eX:d≠L)(ho:h.get? d=some od):News (nC h) L h ([]++(d,od)::ledger h L d):=by
 rintro ⟨a,o⟩ hp;rcases bE.mp hp with e | hp
 ·cases e
  exact ⟨ho,eX,yX _ _⟩
 ·obtain ⟨n1,n2,e⟩:=CI.mp hp
  exact ⟨e,n1,yX _ _⟩
theorem Jm{m:bV}(n:h.Ns L m):Fr (nC h) L h m:=
 ⟨n,fun b o e=>(by rw [yX] at e;cases e),bD _⟩
end
end Att
namespace L2
open PySem PySem.Spec PyProof.Rows
theorem CJ:∀{vs:List Value} {ns:List Int},IntsAre vs ns→Vals (ns.map V.int) vs
 | _,_,.nil=>.nil
 | _,_,.cons n t h=>.cons ⟨t,rfl⟩ (CJ h)
abbrev CK {K:aD} {h:Heap} (_:K.In h):PySem.W.Frag:=K
def sW(s:Stmt):Arguments:=match s with
 | .FunctionDef _ a _ _ _ _ _ _ _ _=>a
 | _=>{posonlyargs:=[],args:=[],vararg:=none,kwonlyargs:=[],kw_defaults:=[],kwarg:=none,defaults:=[]}
def jP(s:Stmt):List Stmt:=match s with
 | .FunctionDef _ _ b _ _ _ _ _ _ _=>b
 | _=>[]
def bo(s:Stmt):Scope:=match s with
 | .FunctionDef _ _ _ _ _ _ sc _ _ _=>sc
 | _=>{kind:=.function,names:=[],isGenerator:=false,isCoroutine:=false}
abbrev cC:gy:=fun _ _ _ _ _ _=>False
abbrev E0:XK:=fun _ _ _=>False
theorem cu{X:Cx}:Passes cC X E0:=fun _ _ _ _ _ _ _ h=>h.elim
structure fv (K:aD) (x qual:Str) (st:Stmt) (f:Addr) (fd:FuncData):Prop where
 ex:∃(oc:Value) (od:Option Addr) (kV doc pm:Value) (an:Option Addr) (bx ct:Value) (i3:Array (Option Value)),
  fd=PySem.W.fnOf x qual (sW st) (jP st) (bo st) .none kV doc pm an bx ct∧K.lookup f=some ⟨oc,od,.func fd,i3⟩∧PySem.W.codeIn K bx qual=true
 kp:PySem.W.keepIn K (.ref f)=true
abbrev aW (K:aD) (x:Str) (st:Stmt) (f:Addr) (fd:FuncData):Prop:=fv K x x st f fd
section
variable {P:Program} {w:World} {K:aD} {mg:bV} {base:Heap}
variable {x qual:Str} {f:Addr} {fd:FuncData} {N ps:List Str} {k:Nat} {sp:Sp}
theorem fv.ok{st:Stmt}(F:fv K x qual st f fd)(S:cf N ps (bo st))(len:∀vs H Q E,sp vs H Q E→vs.length=ps.length)
  (i4:∀(bx:Value) (A:Around) (outer:List Env) (s:Shared) (H:Hp) (vs:List V) (Q:VK) (E:XK),cT k (A.deeper (envOfC qual (bo st) s.heap.objs.size f bx))→sp vs H Q E→
   ∃t,ei (ic cC P w K mg base N qual (bo st) f bx A outer s H E).kq (jP st) t∧t {nx:=fun _ H'=>Q .aM H',rt:=Q} (start N vs) H):bK P w K mg base cC (k+1) f fd ps sp:=by
 obtain ⟨oc,od,kV,doc,pm,an,bx,ct,i3,rfl,lk,dz⟩:=F.ex;refine yP lk dz S len fun A outer s H vs Q E hr jO=>?_;obtain ⟨t,h,q⟩:=i4 bx A outer s H vs Q E hr jO;exact ⟨t,h.kq,q⟩
theorem fv.eJ{st:Stmt}(F:fv K x qual st f fd)(S:cf N ps (bo st))
  (i4:∀(bx:Value) (A:Around) (outer:List Env) (s:Shared) (H:Hp) (vs:List V) (Q:VK) (E:XK),cT k (A.deeper (envOfC qual (bo st) s.heap.objs.size f bx))→sp vs H Q E→
   ∃t,ei (ic cC P w K mg base N qual (bo st) f bx A outer s H E).kq (jP st) t∧t {nx:=fun _ H'=>Q .aM H',rt:=Q} (start N vs) H)
  (len:∀vs H Q E,sp vs H Q E→vs.length=ps.length:=by intro vs H Q E h;repeat first | (obtain ⟨rfl,_⟩:=h;rfl) | (subst h;rfl) | obtain ⟨_,h⟩:=h):bK P w K mg base cC (k+1) f fd ps sp:=F.ok S len i4
theorem fv.binds{st:Stmt}(F:fv K x qual st f fd)
  (h:∀(kV doc pm:Value) (an:Option Addr) (bx ct:Value) (us:List Value),us.length=ps.length→bindArgs (PySem.W.fnOf x qual (sW st) (jP st) (bo st) .none kV doc pm an bx ct) ⟨us,[]⟩=pure (ps.zip us)):Binds K fd ps []:=by
 obtain ⟨oc,od,kV,doc,pm,an,bx,ct,i3,rfl,lk,dz⟩:=F.ex;exact .all (h kV doc pm an bx ct)
theorem fv.cI{st:Stmt}(F:fv K x qual st f fd)
  (h:∀(kV doc pm:Value) (an:Option Addr) (bx ct:Value) (us:List Value),us.length=ps.length→bindArgs (PySem.W.fnOf x qual (sW st) (jP st) (bo st) .none kV doc pm an bx ct) ⟨us,[]⟩=pure (ps.zip us):=by intro _ _ _ _ _ _ us hl;rcases us with _ | ⟨_,_ | ⟨_,_ | ⟨_,_ | ⟨_,_ | ⟨_,_ | ⟨_,_ | ⟨_,_⟩⟩⟩⟩⟩⟩⟩ <;> first | rfl | (simp at hl;done)):Binds K fd ps []:=F.binds h
theorem cJ{st:Stmt}{oc:Value}{od an:Option Addr}{i3:Array (Option Value)}{kV doc pm bx ct:Value}(l:K.lookup f=some ⟨oc,od,.func (PySem.W.fnOf x qual (sW st) (jP st) (bo st) .none kV doc pm an bx ct),i3⟩)
  (c:PySem.W.codeIn K bx qual=true) (k:PySem.W.keepIn K (.ref f)=true):fv K x qual st f (PySem.W.fnOf x qual (sW st) (jP st) (bo st) .none kV doc pm an bx ct):=⟨⟨oc,od,kV,doc,pm,an,bx,ct,i3,rfl,l,c⟩,k⟩
end
theorem dg{n:Nat}(h:n≤1000):n<sizeLine:=ph h (by decide)
section
variable {X:Cx}
theorem pv(i:Nat){x:Str}{pos:Pos}(hN:X.N[i]?=some x:=by rfl)(hv:mX X.env.scope x:=by first | exact Or.inl rfl | exact Or.inr (Or.inl rfl) | exact Or.inr (Or.inr rfl))(hd:(x == ("__debug__":Str))=false:=by decide)
  (dz:(x == ("__classdict__":Str))=false:=by decide):PE X (.Name x pos) (BY i):=G5 hN hv hd dz
end
variable {A B:Prop}
theorem lO(h:B):if false=true then A else B:=by rw [aa cO];exact h
theorem CL(h:A):if true=true then A else B:=by rw [ae rfl];exact h
theorem dM{c:Prop}[Decidable c](h1:c→A)(h2:¬c→B):if c then A else B:=by
 by_cases h:c
 ·rw [ae h]
  exact h1 h
 ·rw [aa h]
  exact h2 h
def ak(H H':Hp):Prop:=∀b o,H b=some o→H' b=some o
theorem ak.refl(H:Hp):ak H H:=fun _ _ h=>h
variable {H:Hp}
theorem ak.trans{H1 H2:Hp}(a:ak H H1)(b:ak H1 H2):ak H H2:=fun c o h=>b c o (a c o h)
theorem ak.seq{K:aD}{H':Hp}{a:Addr}{xs:List V}(e:ak H H')(h:aU K H a xs):aU K H' a xs:=by
 rcases h with (h | ⟨o,h⟩) | h;·exact .inl (.inl (e _ _ h))
 ·exact .inl (.inr ⟨o,e _ _ h⟩)
 ·exact .inr h
end L2
set_option maxHeartbeats 4000000
namespace L2
open PySem PySem.Spec PyProof.Rows
structure vJ (P:Program) (w:World) (outer:List Env) (H:Hp) (s:Shared) (H':Hp) (ea C:Addr) (B:Heap) (t:Addr) (s':Shared):Prop where
 os:s'.os=s.os
 bare:AllBare s'.gens
 fl:Heap.FlyingW B outer ea (.ref C) (.ref t) s'.heap
 ax:bQ P w H' B
 kb:∀b o,s.heap.get? b=some o→H b=none→b∉bY outer→B.get? b=some o
 tb:∀b o,s.heap.get? b=some o→b∉bY outer→∃o',B.get? b=some o'
 sl:∀b o,s.heap.get? b=some o→H b=none→b∈bY outer→∃l,s'.heap.get? b=some {o with slots:=l}
 Tf:∀b∈bY outer,H b=none
 Jn:∀b o,s.heap.get? b=some o→H b=none→H' b=none
 fI:∀b xs,H b=some (.tup xs)→H' b=some (.tup xs)
 fk:∀b o u,H b=some (.bg o u)→H' b=some (.bg o u)
 fm:∀b ps,H b=some (.cm ps)→∃more,H' b=some (.cm (ps++more))
def fT(P:Program)(w:World):gy:=fun outer H s E e s'=>∃ea C H' B t,e=.ref ea∧vJ P w outer H s H' ea C B t s'∧E (.ref C) none H'
section
variable {P:Program} {w:World} {outer:List Env} {H H':Hp} {s s':Shared} {ea C t:Addr} {B:Heap}
def ExcAt(ea C:Addr)(h:Heap):Prop:=∃oe,h.get? ea=some oe∧oe.cls=.ref C∧PySem.W.notCls oe=true
def Jo(ea C:Addr):HO:=.ext (ExcAt ea C)
end
section
variable {X:Cx} {pins:aG} {σ:St} {H H':Hp} {s s':Shared} {ea C t:Addr} {B:Heap}
structure pS (X:Cx) (E:XK):Prop where
 gP:X.stack=X.env::X.outer
 fr:X.env.frame=some X.env.locals
 ex:X.ex=[]
 xe:X.xe=fun e s'=>wpAny (model X.prog X.w) X.A (leaving X.env e) (fun _ gT=>fT X.prog X.w X.outer X.H₀ X.s₀ E e gT) (fun e' gT=>fT X.prog X.w X.outer X.H₀ X.s₀ E e' gT) s'
theorem vK{env:Env}{outer:List Env}{L:Addr}(h:env.frame=some L):bY (env::outer)=L::bY outer:=by unfold bY;rw [uS,h]
variable {E:XK}
theorem vJ.leave(L:pS X E)(I:Inv X pins σ H s)(f:vJ X.prog X.w X.stack H s H' ea C B t s'){h:Heap}(x:Heap.FlyingW B X.outer ea (.ref C) (.ref t) h)(up:s'.heap.UpToSlots h):vJ X.prog X.w X.outer X.H₀ X.s₀ H' ea C B t {s' with heap:=h}:=by
 have nL:∀b o,X.s₀.heap.get? b=some o→b≠X.env.locals:=fun b o e=>bR (c_ (aS e) I.ok.above);have ns:∀b o,X.s₀.heap.get? b=some o→b∉bY X.outer→b∉bY X.stack:=fun b o e nb z=>by
  rw [L.gP,vK L.fr] at z;rcases bE.mp z with z | z;·exact nL b o e z
  ·exact nb z
 have nx:∀b:Addr,b∉X.ex:=fun b z=>by rw [L.ex] at z;cases z
 refine ⟨f.os.trans I.os,f.bare,x,f.ax,fun b o e n nb=>?_,fun b o e nb=>?_,fun b o e n hb=>?_,I.ok.lA,fun b o e n=>?_,fun b xs e=>f.fI b xs (I.base.fI b xs e),fun b o u e=>f.fk b o u (I.base.fk b o u e),fun b ps e=>?_⟩;·exact f.kb b o (I.base.keep b o e n nb (nx b)) (I.base.free b o e n (nx b)) (ns b o e nb)
 ·obtain ⟨o',e'⟩:=I.base.there b o e (nx b)
  exact f.tb b o' e' (ns b o e nb)
 ·obtain ⟨l,q⟩:=I.base.slot b o e n hb (nx b)
  have hs:b∈bY X.stack:=by rw [L.gP,vK L.fr];exact bJ _ hb
  obtain ⟨l2,q2⟩:=f.sl b _ q (I.base.free b o e n (nx b)) hs;obtain ⟨_,o2,q3,nf⟩:=f.fl.2.2.1.mem hs;rw [q2] at q3;cases q3;obtain ⟨l3,q4⟩:=up b _ q2 nf;exact ⟨l3,q4⟩
 ·obtain ⟨o',e'⟩:=I.base.there b o e (nx b)
  exact f.Jn b o' e' (I.base.free b o e n (nx b))
 ·obtain ⟨m1,e1⟩:=I.base.fm b ps e
  obtain ⟨m2,e2⟩:=f.fm b _ e1;exact ⟨m1++m2,by rw [e2,Array.append_assoc]⟩
theorem nE:Passes (fT X.prog X.w) X (fun _ _ _=>False):=fun pins σ H s e s' I h=>by obtain ⟨_,_,_,_,_,_,_,q⟩:=h;exact q.elim
theorem vL(L:pS X E):Passes (fT X.prog X.w) X E:=fun pins σ H s e s' I h=>by
 obtain ⟨ea,C,H',B,t,rfl,f,q⟩:=h;rw [L.xe];refine wpAny_leaves_onW (by rw [I.ok.frames,L.gP]) L.fr (by have z:=f.fl;rw [L.gP] at z;exact z) fun h' x up=>?_
 exact ⟨ea,C,H',B,t,rfl,f.leave L I x up,q⟩
end
variable {K:aD} {h:Heap}
theorem Jp{C:Addr}{pU:List Value}{newId:String}(cB:K.In h)(hq:PySem.W.excIn K C pU newId=true) :
  ∃bm N nm qn bs hdct sn sub ab col dd k0 k1 k2 k3 k5 mN,h.get? C=some (excClassObj nm qn C N bs bm hdct sn sub ab col dd k0 k1 k2 k3 k5 newId)∧h.Ns N mN∧mN "__init__"=none∧OwnTail h pU bm∧PySem.W.mroIn K C=fun b=>some ((Value.ref C::bm).contains b):=by
 unfold PySem.W.excIn at hq
 split at hq
 ·rename_i pV cls slt look
  split at hq
  ·rename_i CC rest a0 a1 a2 a3 nn a5 em es
   simp only [o_,beq_iff_eq,Bool.not_eq_true'] at hq;obtain ⟨⟨⟨⟨⟨e1,e2⟩,e3⟩,e4⟩,e5⟩,e6⟩:=hq;subst e1 e2;have Jq:PySem.W.mroIn K CC=fun b=>some ((Value.ref CC::rest).contains b):=by
    funext b
    unfold PySem.W.mroIn PySem.W.clsIn;rw [look];simp [em]
   obtain ⟨c1,c2,c3,c4,c5,c6,c7,c8,c9,Jr,Tg⟩:=cls;dsimp only at em e3 e5 e6;subst em e3;have Js:slt = #[a0,a1,a2,a3,some (.builtin nn),a5]:=by obtain ⟨ll⟩:=slt;simp only at es;rw [es]
   subst Js;exact ⟨rest,c4,c1,c5,c2,c6,c7,c8,c9,Jr,pV,a0,a1,a2,a3,a5,_,cB _ _ look,.of_isNs (PySem.W.isNs_of_in cB e5),PySem.W.nsMap_none_of_in cB e5 e6,PySem.W.tail_of_in cB e4,Jq⟩
  ·cases hq
 ·cases hq
section
variable {X:Cx} {E:XK} {x:Str} {C:Addr} {np gW pos:Pos} {e:Expr} {es:List Expr} {ta:TA} {B newId Jt:String} {pU:List Value}
def Ju(C:Addr)(E:XK)(ta:TA):TS:=fun _ σ H=>ta σ H fun vs H1=>vs.length≤sizeLine∧E (.ref C) none H1
theorem Jv(L:pS X E)(hc:X.calm=true)(FB:ExcBaseFacts B newId Jt pU)(hq:PySem.W.excIn X.K C pU newId=true)(hg:Gl X x)(hm:X.mg x=some (.ref C))(ha:PA X (e::es) ta)
  (hs:starEach (e::es) X.env=(false,eval e X.env)::starEach es X.env:=by rfl) (hp:(backTo gW (starEach es X.env)).any (·.1)=false:=by rfl) (hd:(x == ("__debug__":Str))=false:=by decide) :
  PS X (.Raise (some (.Call (.Name x np) (e::es) [] gW)) none pos) (Ju C E ta):=by
 intro pins s σ H D I h;obtain ⟨bm,N,nm,qn,bs,hdct,sn,sub,ab,col,dd,k0,k1,k2,k3,k5,mN,hC,hN,Jw,T,_⟩:=Jp I.ok.mod.cB hq
 refine wpAny_Raise_call_subT (C:=C) (nm:=nm) (q:=qn) (N:=N) (bs:=bs) (bm:=bm) (hdct:=hdct) (sn:=sn) (sub:=sub) (ab:=ab) (col:=col) (dd:=dd) (k0:=k0) (k1:=k1) (k2:=k2) (k3:=k3) (k5:=k5) FB (mN:=mN) (T.hasType FB.hasBase) (I.ok.hd hc)
  (by rw [hs];show (false || (backTo gW (starEach es X.env)).any (·.1))=false;rw [hp];rfl) Jw (B0 I hg hm ⟨rfl,?_⟩ hd)
 have h1:=ha gW pins s σ H _ I h;rw [hs] at h1 ⊢;refine Calls.evalArgs_plain (aJ h1 fun us s2 ⟨vs,H1,I1,r,hl,q⟩=>⟨rfl,by rw [←r.length];exact hl,I1.bk _ _ hC,hN.keeps I1.bk,T.keeps I1.bk,fun h' ea mk=>?_⟩)
 rw [L.xe];have nL:∀b o,X.s₀.heap.get? b=some o→b≠X.env.locals:=fun b o q=>bR (c_ (aS q) I1.ok.above);have ns:∀b o,X.s₀.heap.get? b=some o→b∉bY X.outer→b∉bY X.stack:=fun b o q nb z=>by
  rw [L.gP,vK L.fr] at z;rcases bE.mp z with z | z;·exact nL b o q z
  ·exact nb z
 have nx:∀b:Addr,b∉X.ex:=fun b z=>by rw [L.ex] at z;cases z
 have ff:s2.heap.FunFrames (PySem.W.hideAll s2.heap (bY X.stack)) (X.env::X.outer):=by have z:=I1.stack;rw [←L.gP];exact PySem.W.funFrames_hide z fun env he a hf=>uV.mpr ⟨env,he,hf⟩
 refine wpAny_leaves_madeW (base:=PySem.W.hideAll s2.heap (bY X.stack)) (h:=s2.heap) (by rw [I1.ok.frames,L.gP]) L.fr (fun b o q=>PySem.W.of_hideAll _ q) ff mk fun h2 t fl _ _ up=>?_
 refine ⟨ea,C,H1,_,t,rfl,⟨I1.os,I1.bare,fl,fun a o e1=>?_,fun b o e1 n nb=>?_,fun b o e1 nb=>?_,fun b o e1 n hb=>?_,I1.ok.lA,fun b o e1 n=>?_,I1.base.fI,I1.base.fk,I1.base.fm⟩,q⟩
 ·refine (I1.ax a o e1).gO (fun b u hb e2=>uR _ e2 fun z=>?_) (fun _ z=>z) fun _ _ z=>z
  have n0:=I1.sj b z;rcases hb with hb | hb
  ·subst hb
   rw [e1] at n0;cases n0
  ·rw [hb] at n0
   cases n0
 ·exact uR _ (I1.base.keep b o e1 n nb (nx b)) (ns b o e1 nb)
 ·obtain ⟨o',e2⟩:=I1.base.there b o e1 (nx b)
  exact ⟨o',uR _ e2 (ns b o e1 nb)⟩
 ·obtain ⟨l,e2⟩:=I1.base.slot b o e1 n hb (nx b)
  have ng:b∈bY X.stack:=by rw [L.gP,vK L.fr];exact bJ _ hb
  obtain ⟨_,o2,e3,nf⟩:=I1.stack.mem ng;rw [e2] at e3;cases e3;obtain ⟨l2,e4⟩:=up b _ (mk.keeps _ _ e2) nf;exact ⟨l2,e4⟩
 ·obtain ⟨o',e2⟩:=I1.base.there b o e1 (nx b)
  exact I1.base.free b o e1 n (nx b)
end
section
variable {X:Cx} {k:Nat} {f C:Addr} {fd:FuncData} {ps:List Str} {sp:Sp} {jM:List V} {ds:List Value} {x m:Str} {p pos apos:Pos} {e o:Expr} {es:List Expr} {ta:TE} {t:TA}
variable {te:TX} {i:Nat} {pos':Pos}
end
section
variable {X:Cx} {pins:aG} {σ:St} {H:Hp} {s:Shared} {ea:Addr}
end
section
variable {M:Model} {A:Around} {E:aI} {h:Heap} {g:Array GenState} {d:Drawn} {t:Nat} {os:OsState} {e:Addr} {oe:Obj} {Q:Bool→Shared→Prop}
variable {nm q Th q':Str} {C N D N':Addr} {bs bm Ti Tj:List Value} {hdct Tn:Bool} {sn To:List Str} {sub CM:List Value} {ab Tp:Bool} {col Tq:Option Bool} {dd sX:Option Addr} {k0 k1 k2 k3 k5 j0 j1 j2 j3 j5:Option Value} {newId Ts:String}
end
section
variable {X:Cx} {body:List Stmt} {b₀:Stmt} {Tu:List Stmt} {np Tv pos:Pos} {x n:Str} {D:Addr} {tb:Tw} {ts:TS} {pU:List Value} {newId:String} {i:Nat}
end
section
variable {P:Program} {w:World} {K:aD} {mg:bV} {base:Heap}
variable {x qual:Str} {f:Addr} {fd:FuncData} {N ps:List Str} {k:Nat} {sp:Sp}
theorem fv.Jx{st:Stmt}(F:fv K x qual st f fd)(S:cf N ps (bo st))(len:∀vs H Q E,sp vs H Q E→vs.length=ps.length)
  (i4:∀(bx:Value) (A:Around) (outer:List Env) (s:Shared) (H:Hp) (vs:List V) (Q:VK) (E:XK),cT k (A.deeper (envOfC qual (bo st) s.heap.objs.size f bx))→sp vs H Q E→
   pS (ic (fT P w) P w K mg base N qual (bo st) f bx A outer s H E) E→
   ∃t,ei (ic (fT P w) P w K mg base N qual (bo st) f bx A outer s H E) (jP st) t∧t {nx:=fun _ H'=>Q .aM H',rt:=Q} (start N vs) H):bK P w K mg base (fT P w) (k+1) f fd ps sp:=by
 obtain ⟨oc,od,kV,doc,pm,an,bx,ct,i3,rfl,lk,dz⟩:=F.ex;exact yP lk dz S len fun A outer s H vs Q E hr jO=>i4 bx A outer s H vs Q E hr jO ⟨rfl,rfl,rfl,rfl⟩
theorem fv.gz{st:Stmt}(F:fv K x qual st f fd)(S:cf N ps (bo st))
  (i4:∀(bx:Value) (A:Around) (outer:List Env) (s:Shared) (H:Hp) (vs:List V) (Q:VK) (E:XK),cT k (A.deeper (envOfC qual (bo st) s.heap.objs.size f bx))→sp vs H Q E→
   pS (ic (fT P w) P w K mg base N qual (bo st) f bx A outer s H E) E→
   ∃t,ei (ic (fT P w) P w K mg base N qual (bo st) f bx A outer s H E) (jP st) t∧t {nx:=fun _ H'=>Q .aM H',rt:=Q} (start N vs) H)
  (len:∀vs H Q E,sp vs H Q E→vs.length=ps.length:=by intro vs H Q E h;repeat first | (obtain ⟨rfl,_⟩:=h;rfl) | (subst h;rfl) | obtain ⟨_,h⟩:=h):bK P w K mg base (fT P w) (k+1) f fd ps sp:=F.Jx S len i4
end
structure nF (K:aD) (C:Addr):Prop where
 ci:PySem.W.hasDictIn K C=true
 ga:PySem.W.findIn K (.ref C) "__getattribute__"=some (some (.builtin "BaseException.__getattribute__"))
 gn:PySem.W.findIn K (.ref C) "__getattr__"=some none
 ca:PySem.W.findIn K (.ref C) "__class__"=some (some (.builtin "object.__class__"))
 mo:PySem.W.mroIn K C (.type "object")=some true
 mb:PySem.W.mroIn K C (.type "BaseException")=some true
section
variable {prog:Program} {w:World} {A:Around} {E:aI} {h:Heap} {g:Array GenState} {d:Drawn} {t:Nat} {os:OsState} {K:aD} {a C:Addr} {o:Obj}
theorem Jy{R:Result→Shared→Prop}(cB:K.In h)(c:nF K C)(hx:h.get? a=some o)(hc:o.cls=.ref C)(hq:R (.ok (.ret (.ref C))) ⟨h,g,d,t,os⟩) :
  codeAny (model prog w) A (.call (.builtin "getset_descriptor.__get__") ⟨[.builtin "object.__class__",.ref a,.ref C],[]⟩) R ⟨h,g,d,t,os⟩:=by
 have CN:(⟨h,g,d,t,os⟩:Shared).TypeIs (.builtin "object.__class__") "getset_descriptor":=yf;have L1:=PySem.W.looks_mroIn (M:=model prog w) cB c.mo;have ow:=F.owner_object_class;refine codeAny_call_builtin F.slot_gs_get.plain F.entry_gs_get (F.slot_gs_get.check _ _ _ _ _ _ _ _ CN (F.args_gs_get _ _ _) ?_)
 repeat (any_goals (first | assumption | (with_reducible refine rR hx ?_;rw [hc]) | (rw [ow];with_reducible refine L1.at ?_) | wp_step))
 refine ⟨Code.quiet_builtin _ (by decide +kernel),codeAny_builtin F.entry_object_class ?_⟩
 repeat (any_goals (first | assumption | (with_reducible refine rR hx ?_;rw [hc]) | wp_step))
variable {tk:Tok}
theorem Jz{Q:Fin→Shared→Prop}(cB:K.In h)(c:nF K C)(hx:h.get? a=some o)(hc:o.cls=.ref C)(hq:Q (.done (.ret (.ref C))) ⟨h,g,d,t,os⟩) :
  wpAny (model prog w) A (Builtin.«object.__getattribute__» ⟨[.ref a,.str "__class__" tk],[]⟩) Q E ⟨h,g,d,t,os⟩:=by
 have CN:(⟨h,g,d,t,os⟩:Shared).TypeIs (.builtin "object.__class__") "getset_descriptor":=yf;have L1:=PySem.W.looks_findIn (M:=model prog w) cB c.ca;have f5:=yf;have f6:=F.slot_gs_get.lookup;have f7:=F.slot_gs_set.lookup
 repeat (any_goals (first | assumption | (with_reducible refine rR hx ?_;rw [hc]) | with_reducible refine L1.at ?_ | wp_step))
 refine Jy cB c hx hc ?_
 repeat (any_goals (first | assumption | wp_step))
theorem JA{M:Model}{nv:Value}{Q:Unit→Shared→Prop}(cB:K.In h)(c:nF K C)(hx:h.get? a=some o)(hc:o.cls=.ref C)(hq:Q () ⟨h,g,d,t,os⟩) :
  wpAny M A (checkBuiltinCall "BaseException.__getattribute__" ⟨[.ref a,nv],[]⟩) Q E ⟨h,g,d,t,os⟩:=by
 have hk:builtinKind "BaseException.__getattribute__"=some .slot:=by decide +kernel
 have hs:splitId "BaseException.__getattribute__"=some ("BaseException","__getattribute__"):=by decide +kernel
 have L1:=PySem.W.looks_mroIn (M:=M) cB c.mb;have ha:=F.args_bexc_ga (.ref a) nv;simp only [checkBuiltinCall,hk,hs];refine bf ?_;unfold isInstance
 repeat (first | (with_reducible refine rR hx ?_;rw [hc]) | with_reducible refine L1.at ?_ | wp_step)
 exact hq
theorem JB{fill expr:Bool}{Q:aI}(cB:K.In h)(c:nF K C)(hx:h.get? a=some o)(hc:o.cls=.ref C)(hq:Q (.ref C) ⟨h,g,d,t,os⟩) :
  wpAny (model prog w) A (getAttrBy (.ref a) (.str "__class__" tk) fill expr) Q E ⟨h,g,d,t,os⟩:=by
 have f3:=F.attrBase_ValueError.ga.bind (.ref a);have z0:(expr && onTheHeap (Value.builtin "BaseException.__getattribute__"))=false:=by cases expr <;> rfl
 have z2:(Value.builtin "BaseException.__getattribute__" == Value.builtin "object.__getattribute__")=false:=by decide +kernel
 have z1:(onTheHeap (Value.ref C) && Value.builtin "BaseException.__getattribute__" == Value.builtin "object.__getattribute__")=false:=by rw [z2];rfl
 have L1:=PySem.W.looks_findIn (M:=model prog w) cB c.ga;have L2:=PySem.W.looks_findIn (M:=model prog w) cB c.gn
 repeat (any_goals (first | assumption | (with_reducible refine rR hx ?_;rw [hc]) | with_reducible refine L1.at ?_ | with_reducible refine L2.at ?_ | wp_step))
 refine codeAny_call_builtin F.attrBase_ValueError.ga.plain F.entry_bexc_ga (JA cB c hx hc (Jz cB c hx hc ?_))
 repeat (any_goals (first | assumption | wp_step))
theorem JD{Q:Option Value→Shared→Prop}(cB:K.In h)(c:nF K C)(hx:h.get? a=some o)(hc:o.cls=.ref C)(hq:Q (some (.ref C)) ⟨h,g,d,t+1,os⟩) :
  wpAny (model prog w) A (getAttr? (.ref a) "__class__") Q E ⟨h,g,d,t,os⟩:=by
 unfold getAttr? getAttrBy?
 repeat (any_goals (first | assumption | with_reducible apply JB cB c hx hc | wp_step))
theorem JE(c:nF K C):PySem.W.KitX K (.ref a) (.ref C) (ExcAt a C) where
 ty:=fun M h _ k=>by obtain ⟨oe,e1,e2,_⟩:=k;exact e2▸(PySem.W.Looks.ld e1).andThen .now
 it:=fun M h cB _=>by
  obtain ⟨cd,hc,_⟩:=PySem.W.any_some c.ci;unfold PySem.W.clsIn at hc
  split at hc
  ·rename_i look
   intro A' Q' E' s' k q;unfold isType loadHead;exact bf (wpAny_loadPart (k _ _ (cB _ _ look)) (dm q))
  ·cases hc
 ne:=fun h tp dd its n sl cB JF=>by
  obtain ⟨cd,hc,_⟩:=PySem.W.any_some c.ci;refine Bool.eq_false_iff.mpr fun q=>?_;have e:C=tp:=Value.ref.inj (beq_iff_eq.mp q);subst e;unfold PySem.W.clsIn at hc
  split at hc
  ·rename_i look
   have z:=(cB _ _ look).symm.trans JF;cases z
  ·cases hc
 ca:=fun{prog w A E Q s} cB k z=>by obtain ⟨oe,e1,e2,_⟩:=k;obtain ⟨h,g,d,t,os⟩:=s;exact JD cB c e1 e2 z
end
def gA(a:Addr)(h:Heap):Prop:=∃o ep,h.get? a=some o∧o.ExactDict∧o.data=.dict #[] ep∧(a == sysModules)=false
theorem gA.yY{a:Addr}(e:gA a h):PySem.W.KitAt a "dict" h:=by obtain ⟨o,_,e,c,_⟩:=e;exact ⟨o,e,c.1⟩
def yZ(a:Addr):HO:=.ext (gA a)
inductive sY (K:aD) (H:Hp):V→Value→Prop where
 | of {x:V} {t:Value} (h:gS K H x t):sY K H x t
 | exc {a C:Addr} (e:H a=some (Jo a C)) (c:nF K C):sY K H (.ref a) (.ref C)
 | pV {a:Addr} (e:H a=some (yZ a)):sY K H (.ref a) (.type "dict")
def CO:V→Value
 | .ty n=>.type n
 | .ref a=>.ref a
 | _=>.none
def JG:V→Bool
 | .ty _=>true
 | .ref _=>true
 | _=>false
def JH(K:aD):List V→Hp→VK→Prop:=fun xs H Q=>∃x c t b,xs=[x,c]∧JG c=true∧sY K H x t∧PySem.W.kitOne K t (CO c)=some b∧Q (.bl b) H
theorem y4{X:Cx}(hK:X.K=K:=by rfl):fO X (.builtin "isinstance") (JH K):=by
 intro pins s σ H xs us Q I r h;subst hK;obtain ⟨x,c,t,b,rfl,hc,ty,e,q⟩:=h;obtain ⟨u,cv,rfl,rx,rc⟩:=vals2 r;have ec:cv=CO c:=by
  cases c with
  | ty n=>exact rc
  | ref a=>exact rc
  | _=>cases hc
 subst ec;cases ty with
 | of ty=>exact Ig I rx ty e fun tk=>⟨.bl b,H,I.tok tk,rfl,q⟩
 | @pV a ea=>cases rx;obtain ⟨k,_,_⟩:=(show bu X.prog X.w H s.heap a (.ext (gA a)) from I.ax a _ ea);exact gK PySem.W.kitx_dict I.dS k.yY e (fun z=>nomatch z) fun tk=>⟨.bl b,H,I.tok tk,rfl,q⟩
 | @exc a C ea cc=>cases rx;obtain ⟨k,_,_⟩:=(show bu X.prog X.w H s.heap a (.ext (ExcAt a C)) from I.ax a _ ea);exact gK (JE cc) I.dS k e (fun z=>nomatch z) fun tk=>⟨.bl b,H,I.tok tk,rfl,q⟩
theorem boot_isinstance:bootBuiltins "isinstance"=some (.builtin "isinstance"):=by decide +kernel
theorem boot_min:bootBuiltins "min"=some (.builtin "min"):=by decide +kernel
theorem boot_max:bootBuiltins "max"=some (.builtin "max"):=by decide +kernel
theorem boot_int:bootBuiltins "int"=some (.type "int"):=by decide +kernel
theorem boot_bool:bootBuiltins "bool"=some (.type "bool"):=by decide +kernel
theorem boot_tuple:bootBuiltins "tuple"=some (.type "tuple"):=by decide +kernel
theorem boot_list:bootBuiltins "list"=some (.type "list"):=by decide +kernel
end L2
namespace My
open PySem L2
end My
namespace L2
open PySem PySem.Spec PyProof.Rows
abbrev Cx.cw (X:Cx) (N:List Str) (scope:Scope) (cl:List (Str×Addr)) (s₃:Shared) (H₃:Hp) (fp:List Addr):Cx:=
 {X with N:=N,s₀:=s₃,H₀:=H₃,env:=compEnvC scope cl s₃.heap.objs.size X.env,outer:=X.stack,stack:=X.stack,ex:=fp,fn:=fun _=>false,pn:=[],xe:=fun _ _=>False}
inductive lQ (X:Cx):List Expr→TT→Prop where
 | nil:lQ X [] (fun _ H Q=>Q true H)
 | one {c:Expr} {t:TT} (h:PT X c t):lQ X [c] t
def fw(wi:TI)(ρ:St→St)(tt:TT)(te:TE):TE:=fun σ H Q=>wi σ H fun J H1=>∀D,H1 D=none→∃W:Nat→Nat→List V→Hp→Prop,(∃m,W 0 m [] (upd H1 D (.lst []))) ∧
 ∀i m ys Hc,W i m ys Hc→Hc D=some (.lst ys)∧((J.stop i Hc∧Q (.ref D) Hc)∨(J.go i Hc∧∀x H',J.en i Hc x H'→tt (some x::ρ σ) H' fun b H2=>
  if b=true then te (some x::ρ σ) H2 fun y H3=>H3 D=some (.lst ys)∧ys.length<sizeLine∧∃m',m'<m∧W (i+1) m' (ys++[y]) (upd H3 D (.lst (ys++[y]))) else ∃m',m'<m∧W (i+1) m' ys H2))
section
variable {X:Cx} {N:List Str} {scope:Scope} {cl:List (Str×Addr)} {x:Str} {px pos:Pos} {iter elt:Expr} {ifs:List Expr} {wi:TI} {ρ:St→St} {tt:TT} {te:TE}
structure y6 (X:Cx) (N:List Str) (scope:Scope) (cl:List (Str×Addr)) (x:Str) (ρ:St→St):Prop where
 vM:closureFor scope X.env=pure cl
 kind:scope.kind=.function
 CP:∀y∈scope.names,y.2≠.cell
 names:∀y∈scope.names,y.2=.local→scope.names.lookup y.1=some .local
 sub:∀p∈cl,X.env.cells.lookup p.1=some p.2
 has:∀y,((relabel scope X.env).names.lookup y=some .cell∨(relabel scope X.env).names.lookup y=some .free)→∃c,cl.lookup y=some c
 n0:N[0]?=some x
 nd:N.Nodup
 hx:scope.names.lookup x=some .local
 vO:∀(σ:St) (j:Nat) (v:V),(ρ σ)[j]?=some (some v)→∃(i:Nat) (y:Str),N[j+1]?=some y∧X.N[i]?=some y∧σ[i]?=some (some v)∧mX X.env.scope y∧(X.env.kindOf y=some .cell∨X.env.kindOf y=some .free)∧((relabel scope X.env).names.lookup y=some .cell∨(relabel scope X.env).names.lookup y=some .free)
 len:∀σ:St,σ.length=X.N.length→(ρ σ).length+1=N.length
theorem JI{names:List (Str×NameKind)}(h:(names.all fun q=>(q.2 != .cell && q.2 != .free) || (cl.lookup q.1).isSome)=true) :
  ∀y,(names.lookup y=some .cell∨names.lookup y=some .free)→∃c,cl.lookup y=some c:=fun y hy=>by
 have key:∀k:NameKind,(k != .cell && k != .free)=false→names.lookup y=some k→∃c,cl.lookup y=some c:=fun k hk e=>by have z:=pj.mp h (y,k) (jw e);rw [hk,Bool.false_or] at z;exact yd.mp z
 rcases hy with e | e;·exact key .cell rfl e
 ·exact key .free rfl e
theorem join_some{o:Option (Option V)}{v:V}(h:some o.join=some (some v)):o=some (some v):=by
 cases o with
 | none=>cases h
 | some o=>cases h;rfl
def y7(X:Cx)(sc:Scope):List Str→List Nat→Prop
 | n::ns,i::is=>(X.N[i]?=some n∧mX X.env.scope n∧(X.env.kindOf n=some .cell∨X.env.kindOf n=some .free)∧((relabel sc X.env).names.lookup n=some .cell∨(relabel sc X.env).names.lookup n=some .free))∧y7 X sc ns is
 | _,[]=>True
 | [],_::_=>False
theorem CQ{X:Cx}{sc:Scope}:∀{ns:List Str} {is:List Nat},y7 X sc ns is→∀(σ:St) (j:Nat) (v:V),(is.map fun i=>σ[i]?.join)[j]?=some (some v)→∃(i:Nat) (n:Str),ns[j]?=some n∧X.N[i]?=some n∧σ[i]?=some (some v)∧mX X.env.scope n∧(X.env.kindOf n=some .cell∨X.env.kindOf n=some .free)∧((relabel sc X.env).names.lookup n=some .cell∨(relabel sc X.env).names.lookup n=some .free)
 | _,[],_,_,_,_,e=>by cases e
 | [],_::_,h,_,_,_,_=>h.elim
 | n::_,i::_,h,_,0,_,e=>⟨i,n,rfl,h.1.1,join_some e,h.1.2⟩
 | _::_,_::_,h,σ,j+1,v,e=>CQ h.2 σ j v e
theorem gY(is:List Nat)(h1:closureFor scope X.env=pure cl)(h:y7 X scope N.tail is:=by repeat' first | exact True.intro | refine And.intro ⟨rfl,Or.inr (Or.inl rfl),.inl rfl,.inl rfl⟩ ?_)(h2:scope.kind=.function:=by rfl)(h3:∀y∈scope.names,y.2≠.cell:=by decide +kernel)(h4:∀y∈scope.names,y.2=.local→scope.names.lookup y.1=some .local:=by decide +kernel)(h5:∀p∈cl,X.env.cells.lookup p.1=some p.2:=by repeat' first | exact List.forall_mem_nil _ | refine List.forall_mem_cons.mpr ⟨rfl,?_⟩)(h6:((relabel scope X.env).names.all fun q=>(q.2 != .cell && q.2 != .free) || (cl.lookup q.1).isSome)=true:=by rfl)(h7:N[0]?=some x:=by rfl)(h8:N.Nodup:=by decide +kernel)(h9:scope.names.lookup x=some .local:=by rfl)(hr:∀σ:St,ρ σ=is.map fun i=>σ[i]?.join:=by exact fun _=>rfl)(hl:is.length+1=N.length:=by rfl):y6 X N scope cl x ρ:=
 ⟨h1,h2,h3,h4,h5,JI h6,h7,h8,h9,fun σ j v e=>by rw [hr] at e;rw [←List.getElem?_tail];exact CQ h σ j v e,fun σ _=>by rw [hr,aK];exact hl⟩
theorem kC(B:y6 X N scope cl x ρ)(hc:X.calm=true)(hi:PI X (.Name x px) iter wi)(ht:∀s₃ H₃ fp,lQ (X.cw N scope cl s₃ H₃ fp) ifs tt)(he:∀s₃ H₃ fp,PE (X.cw N scope cl s₃ H₃ fp) elt te)
  (hs:∀x,foldedSetIterable iter X.env x=pure x:=by intro _;rfl):PE X (.ListComp elt [⟨.Name x px,iter,ifs,0⟩] scope pos) (fw wi ρ tt te):=by
 intro pins s σ H Q I h
 rw [eval_ListComp]
 refine yg (use:=none) rfl hs B.vM B.kind B.names (aJ (hi pins s σ H _ I h) fun v s1 h1=>aJ h1 fun sJ s2 h2=>?_)
 obtain ⟨it,fp,tn,J,H2,rfl,I2,T,gR,f2,q2⟩:=h2
 have nD:H2 s2.heap.objs.size=none:=I2.ax.fresh (av _)
 obtain ⟨W,⟨m0,w0⟩,turn⟩:=q2 _ nD
 refine wpAny_newObj_type (wpAny_newFunctionEnv B.CP (by intro y hy;simp at hy) (fun h₁ i5 kD=>?_) B.kind)
 dsimp only at i5 kD ⊢
 generalize hD:s2.heap.objs.size=D at nD w0 turn i5 kD ⊢
 generalize gB:({s2 with heap:=s2.heap.push {cls:=.type "list",dict:=none,data:=.seq ([]:List Value).toArray}}:Shared)=s3
 have I3:Inv X pins σ (upd H2 D (.lst [])) s3:=by
  subst hD gB
  exact I2.laid (t':=s2.toks) (fun b u e=>bO _ e) (av _) ⟨bD _,[],_,.nil,dQ _ rfl⟩
 have e3:s3.heap=s2.heap.push {cls:=.type "list",dict:=none,data:=.seq ([]:List Value).toArray}:=by rw [←gB]
 have fU:∀b o,s2.heap.get? b=some o→s3.heap.get? b=some o:=fun b o e=>by rw [e3];exact bO _ e
 rw [←e3] at i5 kD ⊢
 have below:∀b o,s3.heap.get? b=some o→b≠s3.heap.objs.size:=fun b o e=>bR (aS e)
 have dW:∀b o,s3.heap.get? b=some o→h₁.get? b=some o:=fun b o e=>kD.extBut b o (below b o e) (bO _ e)
 have iu:∀b∈fp,∃o,s2.heap.get? b=some o∧∀v,o.data≠.cell v:=T.obj _ _ gR
 have sZ:∀b∈fp,b≠D:=fun b hb z=>by
  obtain ⟨o,e,_⟩:=iu b hb
  rw [z,←hD] at e
  exact absurd (aS e) (d7 _)
 have dh:∀y c,cl.lookup y=some c→X.env.cells.lookup y=some c:=fun y c e=>B.sub (y,c) (jw e)
 have s_:=I3.sj
 have gz:(X.cw N scope cl s3 (upd H2 D (.lst [])) fp).Ok:=by
  refine ⟨I.ok.mod,B.kind,I.ok.glob,I.ok.blt,av _,fun a b c e1 e2=>I.ok.inj a b c (dh a c e1) (dh b c e2),fun y hy=>B.has y hy,(fun _ _ z _=>absurd z cO),(fun _=>I.ok.hd hc),I.ok.frames,.inl rfl,fun b hb=>⟨?_,fun y c e z=>?_⟩,fun b o e=>?_,bI I.ok.gQ I3.sz,fun b o e hb=>?_,fun b hb z=>?_,I3.stack,s_⟩
  ·obtain ⟨o,e,_⟩:=iu b hb
   exact below b o (fU b o e)
  ·exact (f2 b hb).2.2.2.2.1 y c (dh y c e) z
  ·exact I3.bs b o e
  ·rcases (f2 b hb).2.2.2.1 with z | z
   ·exact I.ok.mZ b o e z
   ·exact absurd (c_ (aS e) (bI I.ok.gQ z)) (d7 _)
  ·rcases bE.mp (I3.si b z) with z | z
   ·exact (f2 b hb).2.1 z
   ·exact (f2 b hb).2.2.1 z
 have IB:∀tk:Nat,Inv (X.cw N scope cl s3 (upd H2 D (.lst [])) fp) [] (none::ρ σ) (upd H2 D (.lst [])) {s3 with heap:=h₁,toks:=tk}:=fun tk=>by
  refine ⟨gz,rfl,I3.bare,Un.kept dW,⟨_,i5,fun j y v e1 e2 e3=>?_⟩,fun y c e=>?_,?_,fun y c e=>I3.hW y c (dh y c e),(fun p hp=>nomatch hp),I3.ax.kept dW,?_⟩
  ·cases j with
   | zero=>cases e2
   | succ j=>
    obtain ⟨i,y',a1,a2,a3,a4,a5,a6⟩:=B.vO σ j v e2
    have lR:N[j+1]?=some y:=e1
    rw [lR] at a1
    cases a1
    obtain ⟨m,hn,hl⟩:=I3.loc
    obtain ⟨u,r,l⟩:=hl i y v a2 a3 a4
    refine ⟨u,r,.inr ⟨a6,?_⟩⟩
    obtain ⟨c,ec⟩:=B.has y a6
    rcases l with ⟨k,_⟩ | ⟨_,c',lS,z⟩
    ·rcases a5 with q | q <;> (rw [k] at q;cases q)
    ·have:=dh y c ec
     rw [this] at lS
     cases lS
     obtain ⟨o,ho,hd⟩:=z
     exact ⟨c,ec,o,dW _ _ ho,hd⟩
  ·obtain ⟨v,o,ho,hd⟩:=I3.cell y c (dh y c e)
   exact ⟨v,o,dW _ _ ho,hd⟩
  ·exact I3.ax.fresh (av _)
  ·show (none::ρ σ).length=N.length
   rw [d9]
   exact B.len σ I.len
 have fin:∀{σ':St} {H':Hp} {s':Shared},Inv (X.cw N scope cl s3 (upd H2 D (.lst [])) fp) [] σ' H' s'→Q (.ref D) H'→compPost (model X.prog X.w) X.A X.xe none (EP X pins σ Q) (.ref D) s3.heap.objs.size (.ok .next) s':=fun{σ' H' s'} J q=>by
  obtain ⟨m,hn,_⟩:=J.loc
  refine ⟨m,hn,fun h' gC=>⟨.ref D,H',?_,rfl,q⟩⟩
  have old:∀b o,s3.heap.get? b=some o→b≠s3.heap.objs.size:=below
  have u1:Un (bY X.stack) fp (upd H2 D (.lst [])) H' s3.heap h':=by
   refine ⟨fun b o e n hb hx=>?_,fun b o e n hb hx=>?_,J.base.free,fun b o e hx=>?_,J.base.fI,J.base.fk,J.base.fm⟩
   ·exact (gC.2 b (old b o e)).trans (J.base.keep b o e n hb hx)
   ·obtain ⟨sl,z⟩:=J.base.slot b o e n hb hx
    exact ⟨sl,(gC.2 b (old b o e)).trans z⟩
   ·obtain ⟨o',z⟩:=J.base.there b o e hx
    exact ⟨o',(gC.2 b (old b o e)).trans z⟩
  have tj:bQ X.prog X.w H' h':=fun b u e=>by
   refine (J.ax b u e).gO (fun c v hc z=>(gC.2 c fun y=>?_).trans z) (fun _ z=>z) fun _ _ z=>z
   have fr:=J.free
   have y':c=s3.heap.objs.size:=y
   rcases hc with hc | hc
   ·rw [←hc,y'] at e
    exact absurd (fr.symm.trans e) (by simp)
   ·rw [y'] at hc
    exact absurd (fr.symm.trans hc) (by simp)
  refine I3.m7 (s':={s' with heap:=h'}) (ch:=fp) (J.os) u1 tj J.bare fun b hb=>?_
  obtain ⟨g0,g1,g2,g3,g4,g5⟩:=f2 b hb
  exact ⟨g3,g1,g4,g5⟩
 have fJ:∀{H':Hp},(∀b∈fp,H' b=none)→∀b∈fp,ku (X.cw N scope cl s3 (upd H2 D (.lst [])) fp) [] H' b:=fun hn b hb=>by
  refine ⟨hn b hb,?_,?_,.inl hb,fun y c e z=>(f2 b hb).2.2.2.2.1 y c (dh y c e) z,fun p hp=>nomatch hp⟩
  ·obtain ⟨o,e,_⟩:=iu b hb
   exact below b o (fU b o e)
  ·exact gz.m5 b hb
 have loop:∀tk:Nat,codeAny (model X.prog X.w) X.A (.compLoop (.ListComp elt [⟨.Name x px,iter,ifs,0⟩] scope pos) 0 (.ref it) (.ref D) (compEnvC scope cl s3.heap.objs.size X.env))
   (compPost (model X.prog X.w) X.A X.xe none (EP X pins σ Q) (.ref D) s3.heap.objs.size) {s3 with heap:=h₁,toks:=tk}:=fun tk=>by
  refine yh (fun n s'=>∃i ys o H',Inv (X.cw N scope cl s3 (upd H2 D (.lst [])) fp) [] (o::ρ σ) H' s'∧tn i s'.heap∧(∀b∈fp,H' b=none)∧W i n ys H') ?_ m0
   ⟨0,[],none,_,IB tk,T.keep _ _ _ gR fun b hb o e=>dW _ _ (fU _ _ e),fun b hb=>by rw [aE (sZ b hb)];exact (f2 b hb).1,w0⟩
  rintro n s4 ⟨i,ys,o,H4,I4,lT,lU,w4⟩
  obtain ⟨CS,tm⟩:=turn i n ys H4 w4
  rcases tm with ⟨stop,qn⟩ | ⟨go,step⟩
  ·refine cy (T.done (X.cw N scope cl s3 (upd H2 D (.lst [])) fp) rfl rfl rfl hc i [] s4 _ H4 (fun _ _=>False) I4 (fJ lU) lT stop) (fun r s5 ⟨hr,I5⟩=>?_) fun _ _ z=>z.elim
   subst hr
   exact fin I5 qn
  ·refine cy (T.item (X.cw N scope cl s3 (upd H2 D (.lst [])) fp) rfl rfl rfl hc i [] s4 _ H4 (fun _ _=>False) I4 (fJ lU) lT go) (fun r s5 ⟨u,hr,h5⟩=>?_) fun _ _ z=>z.elim
   subst hr
   have z:letOwnedTupleGo (.Name x px) (.ref it) u=pure ():=rfl
   rw [z] at h5
   show wpAny _ _ ((pure ():Sem Unit) >>= fun _=>assign (.Name x px) (compEnvC scope cl s3.heap.objs.size X.env) u) _ _ s5
   refine bf (cy h5 (fun _ s5 ⟨y,H5,I5,r5,y5,fK,nh⟩=>?_) fun _ _ z=>z.elim)
   have ni:=I5.pinned (fJ nh) (T.obj _ _ fK)
   have pg:PG (X.cw N scope cl s3 (upd H2 D (.lst [])) fp) (.Name x px) (aY 0):=da (i:=0) B.nd B.n0 (.inl (uZ B.hx)) (.inr (uZ B.hx))
   have again:∀{σ7:St} {H7:Hp} {s7:Shared},Inv (X.cw N scope cl s3 (upd H2 D (.lst [])) fp) ([]++jK fp s5.heap) σ7 H7 s7→Inv (X.cw N scope cl s3 (upd H2 D (.lst [])) fp) [] σ7 H7 s7∧tn (i+1) s7.heap∧∀b∈fp,H7 b=none:=fun{σ7 H7 s7} I7=>by
    refine ⟨I7.pO,T.keep _ _ _ fK fun b hb o e=>(I7.pin (b,o) (d8 _ (d8 _ (lE hb e)))).1,fun b hb=>?_⟩
    obtain ⟨o,e,d⟩:=T.obj _ _ fK b hb
    exact (I7.pin (b,o) (d8 _ (d8 _ (lE hb e)))).2.1
   refine cy (pg _ s5 _ H5 y u (fun σ2 H6=>σ2=some y::ρ σ∧H6=H5) ni r5 ⟨rfl,rfl⟩) (fun _ s6 ⟨σ6,H6,I6,q6⟩=>?_) fun _ _ z=>z.elim
   obtain ⟨rfl,rfl⟩:=q6
   have tu:=step y _ y5
   have tests:∀{i6:TT},lQ (X.cw N scope cl s3 (upd H2 D (.lst [])) fp) ifs i6→∀{R:Bool→Hp→Prop},i6 (some y::ρ σ) H6 R→wpAny (model X.prog X.w) X.A
     (forIn ifs true fun c r=>if r=true then do let ok ←isTrue c (compEnvC scope cl s3.heap.objs.size X.env) (eval c (compEnvC scope cl s3.heap.objs.size X.env));pure (ForInStep.yield ok) else pure (ForInStep.yield r))
     (fun ok s7=>∃H7,Inv (X.cw N scope cl s3 (upd H2 D (.lst [])) fp) ([]++jK fp s5.heap) (some y::ρ σ) H7 s7∧R ok H7) (fun _ _=>False) s6:=fun{i6} p {R} hR=>by
    cases p with
    | nil=>exact wpAny_tests_nil ⟨_,I6,hR⟩
    | one p=>exact wpAny_tests_one (p _ s6 _ _ _ I6 hR)
   refine cy (tests (ht s3 _ fp) tu) (fun ok s7 ⟨H7,I7,q7⟩=>?_) fun _ _ z=>z.elim
   cases ok with
   | false=>
    obtain ⟨m',dt,w7⟩:=q7
    obtain ⟨a1,a2,a3⟩:=again I7
    exact ⟨m',dt,i+1,ys,_,H7,a1,a2,a3,w7⟩
   | true=>
    refine cy (he s3 _ fp _ s7 _ H7 _ I7 q7) (fun ev s8 ⟨z,H8,I8,r8,tw,hz,m',dt,w8⟩=>?_) fun _ _ z=>z.elim
    refine cy (gX (X:=X.cw N scope cl s3 (upd H2 D (.lst [])) fp) _ s8 _ H8 (.ref D) [z] (.ref D) [ev] (fun _ H9=>H9=upd H8 D (.lst (ys++[z]))) I8 rfl (.cons r8 .nil) ⟨D,ys,z,rfl,rfl,tw,hz,rfl⟩) (fun _ s9 ⟨_,H9,I9,_,q9⟩=>?_) fun _ _ z=>z.elim
    subst q9
    obtain ⟨a1,a2,a3⟩:=again I9
    exact ⟨m',dt,i+1,ys++[z],_,_,a1,a2,a3,w8⟩
 have start:=loop (s3.toks+([]:List (Str×Value)).length)
 have es:({s3 with heap:=h₁,toks:=s3.toks+([]:List (Str×Value)).length}:Shared)={s2 with heap:=h₁,toks:=s2.toks+([]:List (Str×Value)).length}:=by rw [←gB]
 rw [es] at start
 exact yi start (T.self _ 0 _ _ _ (T.keep _ _ _ gR fun b hb o e=>dW _ _ (fU _ _ e)) start)
end
def eY(i:Int):Prop:=i.natAbs<2 ^ 2048
theorem eY.log{i:Int}(h:eY i):i.natAbs.log2<2048:=by
 by_cases z:i.natAbs=0;·rw [z];decide
 ·exact (Nat.log2_lt z).mpr h
theorem CT:∀{xs:List V} {us:List Value},xs.length=us.length→(∀(i:Nat) (x:V) (u:Value),xs[i]?=some x→us[i]?=some u→RelV x u)→Vals xs us
 | [],[],_,_=>.nil
 | [],_::_,h,_=>by simp at h
 | _::_,[],h,_=>by simp at h
 | x::xs,u::us,h,k=>.cons (k 0 x u rfl rfl) (CT (by simpa using h) fun i a b h1 h2=>k (i+1) a b (by simpa using h1) (by simpa using h2))
section
variable {X:Cx}
def JJ(i j:Int):Prop:=0<j∧eY j
theorem JK:b7 X (binaryOp .FloorDiv) (rI JJ fun i j=>.int (i / j)):=vw fun i j _ _ _ _ _ hc q=>floordiv_int (Int.ne_of_gt hc.1) (by rw [Int.fdiv_eq_ediv_of_nonneg i (cp hc.1)];exact q) (.inl (PyProof.noPylong_of_log2 (c_ hc.2.log (by decide))))
def allR(K:aD):List V→Hp→VK→Prop:=fun xs H Q=>∃(p:Addr) (bs:List Bool),xs=[.ref p]∧aU K H p (bs.map V.bl)∧Q (.bl (bs.all id)) H
theorem JL{K:aD}(hc:X.calm=true)(hK:X.K=K:=by rfl):fO X (.builtin "all") (allR K):=by
 intro pins s σ H xs us Q I r h;subst hK;obtain ⟨p,bs,rfl,hq,q⟩:=h;obtain ⟨u,rfl,ru⟩:=vals1 r;cases ru;obtain ⟨its,rv,pl,hz⟩:=I.list hq;have eX:p≠s.heap.objs.size:=by obtain ⟨o,e,_⟩:=pl.isList;exact bR (aS e)
 have hl:its.length=bs.length:=by rw [←rv.length,aK]
 refine call_all_walk (wpAny_pyIter_list pl.isList ?_);refine ⟨s.heap.objs.size,_,_,_,_,_,fun i=>bs.getD i true,rfl,Walks.list (A:=X.A.in1) (show X.A.in1.handled=none from I.ok.hd hc) s.heap.objs.size p eX its.toArray,⟨⟨_,dQ _ rfl,rfl,rfl⟩,pl.isList.push _⟩,fun i v s' Q' E' hv vP=>?_,fun h' tk hk=>?_⟩
 ·have kF:its[i]?=some v:=by simpa using hv
  cases eb:bs[i]? with
  | none=>
   have:=rv.none_of (i:=i) (by rw [bq,eb];rfl)
   rw [this] at kF;cases kF
  | some b=>
   obtain ⟨u,hu,ru⟩:=rv.get (i:=i) (x:=V.bl b) (by rw [bq,eb];rfl)
   rw [hu] at kF;cases kF;cases ru;have e:bs.getD i true=b:=by rw [dG,eb];rfl
   have CU:Q' (bs.getD i true) s':=vP;rw [e] at CU;exact mH CU
 ·refine ⟨.bl (bs.all id),H,I.kept fun b o e=>hk b o (fun z=>?_) (bO _ e),?_,q⟩
  ·exact absurd (aS e) (by rw [dq.mp z];exact d7 _)
  ·show Value.bool _=Value.bool _
   congr 1
   rw [bS,hl];clear hk q rv pl hz hl hq
   induction bs with
   | nil=>rfl
   | cons b bs ih=>rw [d9,List.range_succ_eq_map,List.all_cons,List.all_map,List.all_cons];show (b && (List.range bs.length).all fun i=>bs.getD i true)=(b && bs.all id);rw [ih]
def JM:List V→Hp→VK→Prop:=fun xs H Q=>∃j:Int,xs=[.int j]∧∀p,H p=none→Q (.ref p) (upd H p (.eg 0 j))
theorem tD:fO X (.type "range") JM:=by intro pins s σ H xs us Q I r h;obtain ⟨j,rfl,q⟩:=h;obtain ⟨u,rfl,ru⟩:=vals1 r;obtain ⟨t,rfl⟩:=ru;refine call_range_1 ⟨.ref s.heap.objs.size,_,I.laid (o:=.eg 0 j) (fun b o e=>bO _ e) (av _) ⟨_,_,_,dQ _ rfl⟩,rfl,q _ (I.ax.fresh (av _))⟩
def cg(n:Nat):List V:=(List.range n).map fun i:Nat=>V.int (i:Int)
def JN:List V→Hp→VK→Prop:=fun xs H Q=>∃p n,xs=[.ref p]∧H p=some (.eg 0 (n:Nat))∧n≤10000∧∀l,H l=none→Q (.ref l) (upd H l (.lst (cg n)))
theorem tE(hc:X.calm=true):fO X (.type "list") JN:=by
 intro pins s σ H xs us Q I r h;obtain ⟨p,n,rfl,hp,hn,q⟩:=h;obtain ⟨u,rfl,ru⟩:=vals1 r;cases ru;obtain ⟨t,u,v,e⟩:=(show bu X.prog X.w H s.heap p (.eg 0 n) from I.ax p _ hp);refine call_list_range (n:=n) (I.ok.hd hc) e (small_one (by omega) (by omega) (by omega) (by omega)) (by rw [rangeSize_one];split <;> omega) (by omega) fun h' tk acc c hk hD hit=>?_
 refine ⟨.ref s.heap.objs.size,_,I.laid (o:=.lst (cg n)) (fun b o e=>hk b o e) (av _) ⟨?_,acc.toList,c,?_,?_⟩,rfl,q _ (I.ax.fresh (av _))⟩
 ·unfold cg
  rw [aK,dR];exact bI hn (by decide)
 ·refine CT ?_ fun i x u h1 h2=>?_
  ·unfold cg
   rw [aK,dR,fb,hit.1]
  ·have CV:acc[i]?=some u:=by simpa using h2
   obtain ⟨CW,e'⟩:=hit.2 i u CV;unfold cg at h1;rw [bq] at h1;have hi:i<n:=by have z:=(Array.getElem?_eq_some_iff.mp CV).1;rw [hit.1] at z;exact z
   rw [j9 hi] at h1;cases h1;exact ⟨CW,by rw [e'];simp⟩
 ·rw [hD]
end
theorem boot_all:bootBuiltins "all"=some (.builtin "all"):=by decide +kernel
theorem tF:bootBuiltins "range"=some (.type "range"):=by decide +kernel
def y8:Expr→Bool
 | .Starred _ _=>false
 | _=>true
variable {e:Expr} {es:List Expr}
theorem JO{env:Env}(h:y8 e=true):starEach (e::es) env=(false,eval e env)::starEach es env:=by cases e <;> first | rfl | cases h
variable {X:Cx} {te:TE} {t:TA}
theorem JP(hs:y8 e=true)(ha:PE X e te)(hr:PA X es t):PA X (e::es) (vC te t):=
 Ii ha hr (JO hs)
theorem aj(ha:PE X e te)(hr:PA X es t)(hs:y8 e=true:=by rfl):PA X (e::es) (vC te t):=JP hs ha hr
variable {pos pos':Pos} {x:Str}
theorem CY{i:Nat}(hs:swapsWith e (some (.Name x pos')) pos.line X.env=pure false)(hf:X.fn x=true∨X.env.scope.names.lookup x=some .local)(hN:X.N.Nodup)(hi:X.N[i]?=some x)(hx:Loc X.env.scope x)(he:PE X e te) :
  PS X (.Assign [.Name x pos'] e pos) (lC te (aY i)):=Hu hN hi hx he hs hf
theorem putL(i:Nat)(hN:X.N.Nodup)(he:PE X e te)(hs:swapsWith e (some (.Name x pos')) pos.line X.env=pure false:=by rfl)(hi:X.N[i]?=some x:=by rfl)(hx:X.env.scope.names.lookup x=some .local:=by rfl) :
  PS X (.Assign [.Name x pos'] e pos) (lC te (aY i)):=CY hs (.inr hx) hN hi (.inl hx) he
theorem tG(i:Nat)(hN:X.N.Nodup)(he:PE X e te)(hs:swapsWith e (some (.Name x pos')) pos.line X.env=pure false:=by rfl)(hf:X.fn x=true∨X.env.scope.names.lookup x=some .local:=by first | exact .inl rfl | exact .inr rfl | assumption)(hi:X.N[i]?=some x:=by rfl)(hx:X.env.scope.names.lookup x=some .cell:=by rfl) :
  PS X (.Assign [.Name x pos'] e pos) (lC te (aY i)):=CY hs hf hN hi (.inr hx) he
end L2
namespace My
open PySem L2
theorem tH(a b:Int):decide (V.int a=V.int b)=decide (a=b):=by
 by_cases h:a=b;·subst h;simp
 ·rw [bX h];exact bX fun e=>h (V.int.inj e)
variable {K:aD}
theorem JQ{T:String}:PySem.W.kitOne K (.type T) (.type T)=some true:=by unfold PySem.W.kitOne;rw [ae (u0 _)]
variable {H:Hp}
theorem aX{p:Addr}{o:HO}(h:H p=none):ak H (upd H p o):=fun b u e=>by rw [aE (fj e h)];exact e
variable {i:Int}
theorem CZ{α:Type}{xs:List α}(h0:0≤i)(h1:i<xs.length):∃v,fQ xs i=some v∧v∈xs:=by
 obtain ⟨k,rfl⟩:∃k:Nat,i=(k:Int):=⟨i.toNat,by omega⟩
 have hk:k<xs.length:=by omega
 exact ⟨xs[k],lJ (by simp [hk]),cR _⟩
inductive Any (H:Hp):V→Prop where
 | aM:Any H .aM
 | bl (b:Bool):Any H (.bl b)
 | int (i:Int):Any H (.int i)
 | str (x:Str):Any H (.str x)
 | lst {a:Addr} {xs:List V} (e:H a=some (.lst xs)):Any H (.ref a)
 | tup {a:Addr} {xs:List V} (e:H a=some (.tup xs)):Any H (.ref a)
 | pV {a:Addr} (e:H a=some (yZ a)):Any H (.ref a)
def pW:V→Bool
 | .int _=>true
 | _=>false
def pX:V→Bool
 | .bl _=>true
 | _=>false
def vQ(H:Hp):V→Bool
 | .ref a=>(match H a with | some (.tup _)=>true | _=>false)
 | _=>false
theorem Any.yY{v:V}(h:Any H v):∃T:String,sY K H v (.type T)∧PySem.W.kitOne K (.type T) (.type "int")=some (pW v || pX v)∧PySem.W.kitOne K (.type T) (.type "bool")=some (pX v) ∧
  PySem.W.kitOne K (.type T) (.type "tuple")=some (vQ H v):=by
 cases h with
 | aM=>exact ⟨"NoneType",.of .aM,rfl,rfl,rfl⟩
 | bl b=>exact ⟨"bool",.of (.bl b),rfl,rfl,rfl⟩
 | int i=>exact ⟨"int",.of (.int i),rfl,rfl,rfl⟩
 | str x=>exact ⟨"str",.of (.str x),rfl,rfl,rfl⟩
 | lst e=>exact ⟨"list",.of (.lst e),rfl,rfl,by unfold vQ;dsimp only;rw [e];rfl⟩
 | tup e=>exact ⟨"tuple",.of (.tup e),rfl,rfl,by unfold vQ;dsimp only;rw [e];rfl⟩
 | pV e=>exact ⟨"dict",.pV e,rfl,rfl,by unfold vQ;dsimp only;rw [e];rfl⟩
theorem JR{v:V}(h:pX v=true):pW v=false:=by cases v <;> first | rfl | cases h
theorem eY.of_lt(h1:-(10 ^ 70)<i)(h2:i<10 ^ 70):eY i:=by
 have h3:i.natAbs<2 ^ 240:=by omega
 exact c_ h3 (Nat.pow_le_pow_right (by decide) (by decide))
def JS:Sp:=fun vs H Q _=>∃v:V,vs=[v]∧Any H v∧Q (.bl (pW v)) H
def JT(K:aD):Sp:=fun vs H Q _=>∃(a:Addr) (ns:List Int),vs=[.ref a]∧aU K H a (ns.map V.int)∧ns.length≤63∧∀H',Q (.bl true) H'
end My
namespace L2
open PySem PySem.Spec PyProof.Rows
end L2
namespace My
open PySem L2
end My
namespace L2
open PySem PySem.Spec PyProof.Rows
section
variable {P:Program} {w:World} {K:aD} {mg:bV} {base:Heap}
end
section
variable {X:Cx} {CX:gy} {k:Nat} {f C:Addr} {fd:FuncData} {ps:List Str} {y:Str} {sp:Sp} {E:XK} {m:Str} {pos apos Co:Pos} {e e' o:Expr} {ta:TE} {t tk:TA}
end
end L2
namespace My
open PySem L2
end My
namespace L2
open PySem PySem.Spec PyProof.Rows
section
variable {X:Cx}
theorem JU:b7 X (compareOp .IsNot) (fun x y H Q=>∃a b,x=.bl a∧y=.bl b∧Q (.bl (!(a == b))) H):=by intro pins s σ H x y v u Q I rx ry h;obtain ⟨a,b,rfl,rfl,q⟩:=h;cases rx;cases ry;exact dm (b_ I q (by cases a <;> cases b <;> rfl))
end
end L2
namespace My
open PySem L2
section
variable {C N z:Addr} {q:Int} {v u:V} {t b t' b':Int} {H:Hp} {Q:VK} {E:XK}
end
end My
namespace L2
open PySem PySem.Spec PyProof.Rows
structure jQ (J:It) (xs:List V) (H1:Hp):Prop where
 go:∀i Hc,ak H1 Hc→i<xs.length→J.go i Hc
 en:∀i Hc x H',ak H1 Hc→J.en i Hc x H'→H'=Hc∧(i<xs.length→xs[i]?=some x)
 stop:∀i Hc,ak H1 Hc→xs.length≤i→J.stop i Hc
variable {xs:List V} {H1:Hp}
theorem kG{K:aD}{a:Addr}(h:aU K H1 a xs):jQ (m9 K a) xs H1 where
 go:=fun i Hc s hi=>⟨xs,xs[i],s.seq h,by simp [hi]⟩
 en:=fun i Hc x H' s y=>⟨y.1,fun _=>y.2 xs (s.seq h)⟩
 stop:=fun i Hc s hi=>⟨xs,s.seq h,hi⟩
theorem C0{lo:Int}{n:Nat}:jQ (ky lo n) ((List.range n).map fun i:Nat=>V.int (lo+(i:Int))) H1 where
 go:=fun i Hc s hi=>by
  have hi:i<n:=by simpa using hi
  exact hi
 en:=fun i Hc x H' s y=>⟨y.1,fun hi=>by
  have hi:i<n:=by simpa using hi
  rw [y.2];simp [hi]⟩
 stop:=fun i Hc s hi=>by
  have hi:n≤i:=by simpa using hi
  exact hi
variable {H:Hp} {D:Addr}
theorem eZ{H':Hp}{o:HO}(s:ak H H')(n:H D=none):ak H (upd H' D o):=fun b u e=>by rw [aE (fj e n)];exact s b u e
variable {te:TE} {Q:VK}
theorem C1{J:It}{ρσ:St}(js:jQ J xs H1)(nD:H1 D=none)(hn:xs.length<sizeLine)
  (P:Nat→V→Hp→Prop) (mono:∀i y H H' ys,P i y H→H D=some (.lst ys)→(∀b o,b≠D→H b=some o→H' b=some o)→P i y H')
  (step:∀i x,xs[i]?=some x→∀(Hc:Hp) (R:VK),ak H1 Hc→(∃ys,Hc D=some (.lst ys))→(∀y H3,ak Hc H3→P i y H3→R y H3)→te (some x::ρσ) Hc R)
  (fin:∀ys Hc,ak H1 Hc→ys.length=xs.length→(∀i y,ys[i]?=some y→P i y Hc)→Hc D=some (.lst ys)→Q (.ref D) Hc) :
  ∃W:Nat→Nat→List V→Hp→Prop,(∃m,W 0 m [] (upd H1 D (.lst []))) ∧
   ∀i m ys Hc,W i m ys Hc→Hc D=some (.lst ys)∧((J.stop i Hc∧Q (.ref D) Hc)∨(J.go i Hc∧∀x H',J.en i Hc x H'→
    if true=true then te (some x::ρσ) H' fun y H3=>H3 D=some (.lst ys)∧ys.length<sizeLine∧∃m',m'<m∧W (i+1) m' (ys++[y]) (upd H3 D (.lst (ys++[y]))) else ∃m',m'<m∧W (i+1) m' ys H')):=by
 refine ⟨fun i m ys Hc=>m=xs.length-i∧i≤xs.length∧Hc D=some (.lst ys)∧ak H1 Hc∧ys.length=i∧∀j y,ys[j]?=some y→P j y Hc,⟨_,rfl,bD _,aw,eZ (ak.refl H1) nD,rfl,fun j y e=>by simp at e⟩,?_⟩
 rintro i m ys Hc ⟨rfl,hi,eD,sH,el,hP⟩;refine ⟨eD,?_⟩;by_cases aZ:i<xs.length
 ·refine .inr ⟨js.go i Hc sH aZ,fun x H' hy=>?_⟩
  obtain ⟨rfl,hx⟩:=js.en i Hc x H' sH hy;rw [ae rfl];refine step i x (hx aZ) _ _ sH ⟨ys,eD⟩ fun y H3 s3 hp=>?_;have e3:=s3 _ _ eD;refine ⟨e3,by omega,xs.length-(i+1),by omega,rfl,aZ,aw,eZ (sH.trans s3) nD,by simp [el],fun j y' e=>?_⟩
  have bA:∀b o,b≠D→H3 b=some o→upd H3 D (.lst (ys++[y])) b=some o:=fun b o nb e=>by rw [aE nb];exact e
  by_cases hj:j<i
  ·have e':ys[j]?=some y':=by rw [fG (by omega)] at e;exact e
   refine mono j y' H' _ ys (hP j y' e') eD fun b o nb e=>?_;exact bA b o nb (s3 _ _ e)
  ·have hj:j=i:=by have:=(bG.mp e).1;simp at this;omega
   subst hj;have e':y'=y:=by rw [fF (by omega),el,pA] at e;simpa using e.symm
   subst e';exact mono _ _ H3 _ ys hp e3 bA
 ·have e:i=xs.length:=by omega
  subst e;exact .inl ⟨js.stop _ Hc sH (av _),fin ys Hc sH el hP eD⟩
variable {wi:TI} {ρ:St→St} {σ:St}
theorem JV(fV:∀R:It→Hp→Prop,(∀J H1,ak H H1→jQ J xs H1→R J H1)→wi σ H R)(hn:xs.length<sizeLine)
  (P:Addr→Nat→V→Hp→Prop) (mono:∀D i y H H' ys,P D i y H→H D=some (.lst ys)→(∀b o,b≠D→H b=some o→H' b=some o)→P D i y H')
  (step:∀D i x,xs[i]?=some x→∀(Hc:Hp) (R:VK),ak H Hc→(∃ys,Hc D=some (.lst ys))→(∀y H3,ak Hc H3→P D i y H3→R y H3)→te (some x::ρ σ) Hc R)
  (fin:∀D ys Hc,ak H Hc→ys.length=xs.length→(∀i y,ys[i]?=some y→P D i y Hc)→Hc D=some (.lst ys)→Q (.ref D) Hc):fw wi ρ (fun _ H Q=>Q true H) te σ H Q:=by
 refine fV _ fun J H1 s1 js=>?_;intro D nD;exact C1 (ρσ:=ρ σ) (te:=te) (Q:=Q) js nD hn (P D) (mono D) (fun i x hx Hc R sc=>step D i x hx Hc R (s1.trans sc)) (fun ys Hc sc=>fin D ys Hc (s1.trans sc))
theorem lW{g:TG}{D:Ends}(h:te σ H fun x H1=>g x σ H1 D.nx):lC te g D σ H:=h
theorem cx{a b:TS}{D:Ends}(h:a {D with nx:=fun σ H=>b D σ H} σ H):yA a b D σ H:=h
section
variable {X:Cx} {N:List Str} {scope:Scope} {cl:List (Str×Addr)} {x:Str} {px pos:Pos} {iter elt:Expr} {ifs:List Expr} {wi:TI} {ρ:St→St} {tt:TT} {te:TE}
theorem vR{y:Str}{py tI:Pos}{i0:Nat}(B:y6 X N scope cl x ρ)(hc:X.calm=true)(hN:X.N.Nodup)(y9:X.N[i0]?=some y)(hy:Loc X.env.scope y)(hi:PI X (.Name x px) iter wi)(ht:∀s₃ H₃ fp,lQ (X.cw N scope cl s₃ H₃ fp) ifs tt)(he:∀s₃ H₃ fp,PE (X.cw N scope cl s₃ H₃ fp) elt te)
  (y_:swapsWith (.ListComp elt [⟨.Name x px,iter,ifs,0⟩] scope pos) (some (.Name y py)) tI.line X.env=pure true:=by rfl) (hf:X.fn y=true∨X.env.scope.names.lookup y=some .local:=by first | exact .inl rfl | exact .inr rfl | assumption)
  (hs:∀x,foldedSetIterable iter X.env x=pure x:=by intro _;rfl):PS X (.Assign [.Name y py] (.ListComp elt [⟨.Name x px,iter,ifs,0⟩] scope pos) tI) (lC (fw wi ρ tt te) (aY i0)):=by
 intro pins s σ H D0 I h
 have h:fw wi ρ tt te σ H (fun v H1=>D0.nx (σ.set i0 (some v)) H1):=h
 rw [exec_Assign_Name_used _ _ _ _ y_]
 refine bf (rK (bf ?_))
 show wpAny _ X.A (do let _ ←comprehension (.ListComp elt [⟨.Name x px,iter,ifs,0⟩] scope pos) scope X.env _ (newList []) false (eval iter X.env) (some (assign (.Name y py) X.env))) _ _ s
 refine bf (cy (Q:=fun _ s'=>SP X pins D0 .next s') ?_ (fun _ s' hq=>dm (dm hq)) fun _ _ e=>e)
 refine yg (use:=some (assign (.Name y py) X.env)) rfl hs B.vM B.kind B.names (aJ (hi pins s σ H _ I h) fun v s1 h1=>aJ h1 fun sJ s2 h2=>?_)
 obtain ⟨it,fp,tn,J,H2,rfl,I2,T,gR,f2,q2⟩:=h2
 have nD:H2 s2.heap.objs.size=none:=I2.ax.fresh (av _)
 obtain ⟨W,⟨m0,w0⟩,turn⟩:=q2 _ nD
 refine wpAny_newObj_type (wpAny_newFunctionEnv B.CP (by intro y hy;simp at hy) (fun h₁ i5 kD=>?_) B.kind)
 dsimp only at i5 kD ⊢
 generalize hD:s2.heap.objs.size=D at nD w0 turn i5 kD ⊢
 generalize gB:({s2 with heap:=s2.heap.push {cls:=.type "list",dict:=none,data:=.seq ([]:List Value).toArray}}:Shared)=s3
 have I3:Inv X pins σ (upd H2 D (.lst [])) s3:=by
  subst hD gB
  exact I2.laid (t':=s2.toks) (fun b u e=>bO _ e) (av _) ⟨bD _,[],_,.nil,dQ _ rfl⟩
 have e3:s3.heap=s2.heap.push {cls:=.type "list",dict:=none,data:=.seq ([]:List Value).toArray}:=by rw [←gB]
 have fU:∀b o,s2.heap.get? b=some o→s3.heap.get? b=some o:=fun b o e=>by rw [e3];exact bO _ e
 rw [←e3] at i5 kD ⊢
 have below:∀b o,s3.heap.get? b=some o→b≠s3.heap.objs.size:=fun b o e=>bR (aS e)
 have dW:∀b o,s3.heap.get? b=some o→h₁.get? b=some o:=fun b o e=>kD.extBut b o (below b o e) (bO _ e)
 have iu:∀b∈fp,∃o,s2.heap.get? b=some o∧∀v,o.data≠.cell v:=T.obj _ _ gR
 have sZ:∀b∈fp,b≠D:=fun b hb z=>by
  obtain ⟨o,e,_⟩:=iu b hb
  rw [z,←hD] at e
  exact absurd (aS e) (d7 _)
 have dh:∀y c,cl.lookup y=some c→X.env.cells.lookup y=some c:=fun y c e=>B.sub (y,c) (jw e)
 have s_:=I3.sj
 have gz:(X.cw N scope cl s3 (upd H2 D (.lst [])) fp).Ok:=by
  refine ⟨I.ok.mod,B.kind,I.ok.glob,I.ok.blt,av _,fun a b c e1 e2=>I.ok.inj a b c (dh a c e1) (dh b c e2),fun y hy=>B.has y hy,(fun _ _ z _=>absurd z cO),(fun _=>I.ok.hd hc),I.ok.frames,.inl rfl,fun b hb=>⟨?_,fun y c e z=>?_⟩,fun b o e=>?_,bI I.ok.gQ I3.sz,fun b o e hb=>?_,fun b hb z=>?_,I3.stack,s_⟩
  ·obtain ⟨o,e,_⟩:=iu b hb
   exact below b o (fU b o e)
  ·exact (f2 b hb).2.2.2.2.1 y c (dh y c e) z
  ·exact I3.bs b o e
  ·rcases (f2 b hb).2.2.2.1 with z | z
   ·exact I.ok.mZ b o e z
   ·exact absurd (c_ (aS e) (bI I.ok.gQ z)) (d7 _)
  ·rcases bE.mp (I3.si b z) with z | z
   ·exact (f2 b hb).2.1 z
   ·exact (f2 b hb).2.2.1 z
 have IB:∀tk:Nat,Inv (X.cw N scope cl s3 (upd H2 D (.lst [])) fp) [] (none::ρ σ) (upd H2 D (.lst [])) {s3 with heap:=h₁,toks:=tk}:=fun tk=>by
  refine ⟨gz,rfl,I3.bare,Un.kept dW,⟨_,i5,fun j y v e1 e2 e3=>?_⟩,fun y c e=>?_,?_,fun y c e=>I3.hW y c (dh y c e),(fun p hp=>nomatch hp),I3.ax.kept dW,?_⟩
  ·cases j with
   | zero=>cases e2
   | succ j=>
    obtain ⟨i,y',a1,a2,a3,a4,a5,a6⟩:=B.vO σ j v e2
    have lR:N[j+1]?=some y:=e1
    rw [lR] at a1
    cases a1
    obtain ⟨m,hn,hl⟩:=I3.loc
    obtain ⟨u,r,l⟩:=hl i y v a2 a3 a4
    refine ⟨u,r,.inr ⟨a6,?_⟩⟩
    obtain ⟨c,ec⟩:=B.has y a6
    rcases l with ⟨k,_⟩ | ⟨_,c',lS,z⟩
    ·rcases a5 with q | q <;> (rw [k] at q;cases q)
    ·have:=dh y c ec
     rw [this] at lS
     cases lS
     obtain ⟨o,ho,hd⟩:=z
     exact ⟨c,ec,o,dW _ _ ho,hd⟩
  ·obtain ⟨v,o,ho,hd⟩:=I3.cell y c (dh y c e)
   exact ⟨v,o,dW _ _ ho,hd⟩
  ·exact I3.ax.fresh (av _)
  ·show (none::ρ σ).length=N.length
   rw [d9]
   exact B.len σ I.len
 have nG:∀b o,s3.heap.get? b=some o→b≠s3.heap.objs.size:=below
 have fin:∀{σ':St} {H':Hp} {s':Shared},Inv (X.cw N scope cl s3 (upd H2 D (.lst [])) fp) [] σ' H' s'→D0.nx (σ.set i0 (some (.ref D))) H'→compPost (model X.prog X.w) X.A X.xe (some (assign (.Name y py) X.env)) (fun _ s'=>SP X pins D0 .next s') (.ref D) s3.heap.objs.size (.ok .next) s':=fun{σ' H' s'} J q=>by
  obtain ⟨m,hn,_⟩:=J.loc
  have hn:s'.heap.Ns s3.heap.objs.size m:=hn
  have JC:H' s3.heap.objs.size=none:=J.free
  have u1:Un (bY X.stack) fp (upd H2 D (.lst [])) H' s3.heap s'.heap:=by
   refine ⟨fun b o e n hb hx=>J.base.keep b o e n hb hx,fun b o e n hb hx=>J.base.slot b o e n hb hx,J.base.free,fun b o e hx=>J.base.there b o e hx,J.base.fI,J.base.fk,J.base.fm⟩
  have IX:Inv X pins σ H' s':=I3.m7 (ch:=fp) (J.os) u1 J.ax J.bare fun b hb=>by
   obtain ⟨g0,g1,g2,g3,g4,g5⟩:=f2 b hb
   exact ⟨g3,g1,g4,g5⟩
  have nl:X.env.locals≠s3.heap.objs.size:=by
   obtain ⟨m3,⟨o3,_,_,e3,_⟩,_⟩:=I3.loc
   exact nG _ _ e3
  have nc:∀z c,X.env.cells.lookup z=some c→c≠s3.heap.objs.size:=fun z c e=>by
   obtain ⟨v3,o3,e3,_⟩:=I3.cell z c e
   exact nG _ _ e3
  refine wpAny_assign_Name (yt (v:=.ref D) IX hN y9 hy rfl (fun gT nH jR=>?_) hf)
  obtain ⟨a,jR,ha⟩:=jR
  have na:s3.heap.objs.size≠a:=by
   rcases ha with rfl | e
   ·exact fun z=>nl z.symm
   ·exact fun z=>nc _ _ e z.symm
  refine ⟨m,hn.sameBut jR na,fun h' gC=>⟨σ.set i0 (some (.ref D)),H',?_,q⟩⟩
  have u2:Un (bY X.stack) [s3.heap.objs.size] H' H' gT.heap h':=by
   refine ⟨fun b o e n hb hx=>(gC.2 b (by simpa using hx)).trans e,fun b o e n hb hx=>⟨o.slots,(gC.2 b (by simpa using hx)).trans e⟩,fun b o e n hx=>n,fun b o e hx=>⟨o,(gC.2 b (by simpa using hx)).trans e⟩,fun b xs z=>z,fun b o u z=>z,fun b ps z=>⟨#[],by simpa using z⟩⟩
  have tj:bQ X.prog X.w H' h':=fun b u e=>by
   refine (nH.ax b u e).gO (fun c v hc z=>(gC.2 c fun y=>?_).trans z) (fun _ z=>z) fun _ _ z=>z
   have y':c=s3.heap.objs.size:=y
   rcases hc with hc | hc
   ·rw [←hc,y',JC] at e
    cases e
   ·rw [y',JC] at hc
    cases hc
  refine nH.m7 (s':={gT with heap:=h'}) (ch:=[s3.heap.objs.size]) rfl u2 tj nH.bare fun b hb=>?_
  have eb:b=s3.heap.objs.size:=by simpa using hb
  subst eb
  refine ⟨.inr I3.sz,fun z=>nl z.symm,fun z c e=>nc z c e,fun p hp=>?_⟩
  exact nG _ _ (I3.pin p hp).1
 have fJ:∀{H':Hp},(∀b∈fp,H' b=none)→∀b∈fp,ku (X.cw N scope cl s3 (upd H2 D (.lst [])) fp) [] H' b:=fun hn b hb=>by
  refine ⟨hn b hb,?_,?_,.inl hb,fun y c e z=>(f2 b hb).2.2.2.2.1 y c (dh y c e) z,fun p hp=>nomatch hp⟩
  ·obtain ⟨o,e,_⟩:=iu b hb
   exact below b o (fU b o e)
  ·exact gz.m5 b hb
 have loop:∀tk:Nat,codeAny (model X.prog X.w) X.A (.compLoop (.ListComp elt [⟨.Name x px,iter,ifs,0⟩] scope pos) 0 (.ref it) (.ref D) (compEnvC scope cl s3.heap.objs.size X.env))
   (compPost (model X.prog X.w) X.A X.xe (some (assign (.Name y py) X.env)) (fun _ s'=>SP X pins D0 .next s') (.ref D) s3.heap.objs.size) {s3 with heap:=h₁,toks:=tk}:=fun tk=>by
  refine yh (fun n s'=>∃i ys o H',Inv (X.cw N scope cl s3 (upd H2 D (.lst [])) fp) [] (o::ρ σ) H' s'∧tn i s'.heap∧(∀b∈fp,H' b=none)∧W i n ys H') ?_ m0
   ⟨0,[],none,_,IB tk,T.keep _ _ _ gR fun b hb o e=>dW _ _ (fU _ _ e),fun b hb=>by rw [aE (sZ b hb)];exact (f2 b hb).1,w0⟩
  rintro n s4 ⟨i,ys,o,H4,I4,lT,lU,w4⟩
  obtain ⟨CS,tm⟩:=turn i n ys H4 w4
  rcases tm with ⟨stop,qn⟩ | ⟨go,step⟩
  ·refine cy (T.done (X.cw N scope cl s3 (upd H2 D (.lst [])) fp) rfl rfl rfl hc i [] s4 _ H4 (fun _ _=>False) I4 (fJ lU) lT stop) (fun r s5 ⟨hr,I5⟩=>?_) fun _ _ z=>z.elim
   subst hr
   exact fin I5 qn
  ·refine cy (T.item (X.cw N scope cl s3 (upd H2 D (.lst [])) fp) rfl rfl rfl hc i [] s4 _ H4 (fun _ _=>False) I4 (fJ lU) lT go) (fun r s5 ⟨u,hr,h5⟩=>?_) fun _ _ z=>z.elim
   subst hr
   have z:letOwnedTupleGo (.Name x px) (.ref it) u=pure ():=rfl
   rw [z] at h5
   show wpAny _ _ ((pure ():Sem Unit) >>= fun _=>assign (.Name x px) (compEnvC scope cl s3.heap.objs.size X.env) u) _ _ s5
   refine bf (cy h5 (fun _ s5 ⟨y,H5,I5,r5,y5,fK,nh⟩=>?_) fun _ _ z=>z.elim)
   have ni:=I5.pinned (fJ nh) (T.obj _ _ fK)
   have pg:PG (X.cw N scope cl s3 (upd H2 D (.lst [])) fp) (.Name x px) (aY 0):=da (i:=0) B.nd B.n0 (.inl (uZ B.hx)) (.inr (uZ B.hx))
   have again:∀{σ7:St} {H7:Hp} {s7:Shared},Inv (X.cw N scope cl s3 (upd H2 D (.lst [])) fp) ([]++jK fp s5.heap) σ7 H7 s7→Inv (X.cw N scope cl s3 (upd H2 D (.lst [])) fp) [] σ7 H7 s7∧tn (i+1) s7.heap∧∀b∈fp,H7 b=none:=fun{σ7 H7 s7} I7=>by
    refine ⟨I7.pO,T.keep _ _ _ fK fun b hb o e=>(I7.pin (b,o) (d8 _ (d8 _ (lE hb e)))).1,fun b hb=>?_⟩
    obtain ⟨o,e,d⟩:=T.obj _ _ fK b hb
    exact (I7.pin (b,o) (d8 _ (d8 _ (lE hb e)))).2.1
   refine cy (pg _ s5 _ H5 y u (fun σ2 H6=>σ2=some y::ρ σ∧H6=H5) ni r5 ⟨rfl,rfl⟩) (fun _ s6 ⟨σ6,H6,I6,q6⟩=>?_) fun _ _ z=>z.elim
   obtain ⟨rfl,rfl⟩:=q6
   have tu:=step y _ y5
   have tests:∀{i6:TT},lQ (X.cw N scope cl s3 (upd H2 D (.lst [])) fp) ifs i6→∀{R:Bool→Hp→Prop},i6 (some y::ρ σ) H6 R→wpAny (model X.prog X.w) X.A
     (forIn ifs true fun c r=>if r=true then do let ok ←isTrue c (compEnvC scope cl s3.heap.objs.size X.env) (eval c (compEnvC scope cl s3.heap.objs.size X.env));pure (ForInStep.yield ok) else pure (ForInStep.yield r))
     (fun ok s7=>∃H7,Inv (X.cw N scope cl s3 (upd H2 D (.lst [])) fp) ([]++jK fp s5.heap) (some y::ρ σ) H7 s7∧R ok H7) (fun _ _=>False) s6:=fun{i6} p {R} hR=>by
    cases p with
    | nil=>exact wpAny_tests_nil ⟨_,I6,hR⟩
    | one p=>exact wpAny_tests_one (p _ s6 _ _ _ I6 hR)
   refine cy (tests (ht s3 _ fp) tu) (fun ok s7 ⟨H7,I7,q7⟩=>?_) fun _ _ z=>z.elim
   cases ok with
   | false=>
    obtain ⟨m',dt,w7⟩:=q7
    obtain ⟨a1,a2,a3⟩:=again I7
    exact ⟨m',dt,i+1,ys,_,H7,a1,a2,a3,w7⟩
   | true=>
    refine cy (he s3 _ fp _ s7 _ H7 _ I7 q7) (fun ev s8 ⟨z,H8,I8,r8,tw,hz,m',dt,w8⟩=>?_) fun _ _ z=>z.elim
    refine cy (gX (X:=X.cw N scope cl s3 (upd H2 D (.lst [])) fp) _ s8 _ H8 (.ref D) [z] (.ref D) [ev] (fun _ H9=>H9=upd H8 D (.lst (ys++[z]))) I8 rfl (.cons r8 .nil) ⟨D,ys,z,rfl,rfl,tw,hz,rfl⟩) (fun _ s9 ⟨_,H9,I9,_,q9⟩=>?_) fun _ _ z=>z.elim
    subst q9
    obtain ⟨a1,a2,a3⟩:=again I9
    exact ⟨m',dt,i+1,ys++[z],_,_,a1,a2,a3,w8⟩
 have start:=loop (s3.toks+([]:List (Str×Value)).length)
 have es:({s3 with heap:=h₁,toks:=s3.toks+([]:List (Str×Value)).length}:Shared)={s2 with heap:=h₁,toks:=s2.toks+([]:List (Str×Value)).length}:=by rw [←gB]
 rw [es] at start
 exact yi start (T.self _ 0 _ _ _ (T.keep _ _ _ gR fun b hb o e=>dW _ _ (fU _ _ e)) start)
end
section
variable {X:Cx}
end
section
variable {prog:Program} {w:World} {A:Around} {R:Result→Shared→Prop} {s:Shared}
end
section
variable {X:Cx} {N:List Str} {scope:Scope} {cl:List (Str×Addr)} {x y:Str} {px py pos tp:Pos} {JW:Nat} {iter elt:Expr} {ifs:List Expr} {wi:TI} {ρ:St→St} {tt:TT} {te:TE}
end
section
variable {X:Cx}
def JX(K:aD):List V→Hp→VK→Prop:=fun xs H Q=>∃(p:Addr) (ns:List Int),xs=[.ref p]∧aU K H p (ns.map V.int)∧Q (.int ns.sum) H
theorem JY:∀(ns:List Int),preSum (fun i=>ns.getD i 0) ns.length=ns.sum:=by
 intro ns;have key:∀k,k≤ns.length→preSum (fun i=>ns.getD i 0) k=(ns.take k).sum:=by
  intro k
  induction k with
  | zero=>intro _;rfl
  | succ k ih=>
   intro hk;show preSum (fun i=>ns.getD i 0) k+ns.getD k 0=_;rw [ih (by omega),List.take_add_one,List.sum_append]
   have e:ns[k]?=some ns[k]:=by simp [show k<ns.length by omega]
   rw [dG,e];simp
 rw [key ns.length (av _),iS]
theorem C2{K:aD}(hc:X.calm=true)(hK:X.K=K:=by rfl):fO X (.builtin "sum") (JX K):=by
 intro pins s σ H xs us Q I r h;subst hK;obtain ⟨p,ns,rfl,hq,q⟩:=h;obtain ⟨u,rfl,ru⟩:=vals1 r;cases ru;obtain ⟨its,rv,pl,hz⟩:=I.list hq;have eX:p≠s.heap.objs.size:=by obtain ⟨o,e,_⟩:=pl.isList;exact bR (aS e)
 have hl:its.length=ns.length:=by rw [←rv.length,aK]
 refine call_sum_walkG (wpAny_pyIter_list pl.isList ?_);refine ⟨s.heap.objs.size,_,_,_,_,_,fun i=>ns.getD i 0,rfl,Walks.list (A:=X.A.in1) (show X.A.in1.handled=none from I.ok.hd hc) s.heap.objs.size p eX its.toArray,⟨⟨_,dQ _ rfl,rfl,rfl⟩,pl.isList.push _⟩,?_,fun i v hv=>?_,fun h' tk t' hk=>?_⟩
 ·intro b hb
  rw [Heap.size_push];simp only [bE,mM,or_false] at hb;rcases hb with rfl | rfl;·exact Nat.lt_succ_self _
  ·obtain ⟨o,e,_⟩:=pl.isList
   exact rS (aS e)
 ·have kF:its[i]?=some v:=by simpa using hv
  cases eb:ns[i]? with
  | none=>
   have:=rv.none_of (i:=i) (by rw [bq,eb];rfl)
   rw [this] at kF;cases kF
  | some b=>
   obtain ⟨u,hu,ru⟩:=rv.get (i:=i) (x:=V.int b) (by rw [bq,eb];rfl)
   rw [hu] at kF;cases kF;obtain ⟨t,rfl⟩:=ru;exact ⟨t,by show Value.int b t=Value.int (ns.getD i 0) t;rw [dG,eb];rfl⟩
 ·refine ⟨.int ns.sum,H,I.kept fun b o e=>hk b o (fun z=>?_) (bO _ e),⟨t',?_⟩,q⟩
  ·exact absurd (aS e) (by rw [dq.mp z];exact d7 _)
  ·congr 1
   rw [bS,hl];exact JY ns
end
theorem boot_sum:bootBuiltins "sum"=some (.builtin "sum"):=by decide +kernel
abbrev Cx.fW (X:Cx) (N:List Str) (scope:Scope) (cl:List (Str×Addr)) (x:Str) (s₃:Shared) (H₃:Hp) (fp:List Addr):Cx:=
 {X with N:=N,s₀:=s₃,H₀:=H₃,env:=compEnvC scope ((x,s₃.heap.objs.size+1)::cl) s₃.heap.objs.size X.env,outer:=X.stack,stack:=X.stack,ex:=fp,fn:=fun y=>y == x,pn:=[],xe:=fun _ _=>False}
section
variable {M:Model} {A:Around} {E:aI} {s:Shared}
theorem JZ{scope:Scope}{globals:Addr}{cl:List (Str×Addr)}{qual x:Str}{env:Env}{Q:Env→Shared→Prop}
  (c1:∀n,cellsFrom n scope.names cl=(x,n)::cl) (p1:∀h:Heap,pushCells h scope.names=h.push {cls:=.type "cell",data:=.cell none})
  (hQ:Q (newEnv scope s.heap.objs.size globals ((x,s.heap.objs.size+1)::cl) qual none .none (some env) builtinsNs) {s with heap:=(s.heap.push {cls:=.type "dict",data:=.dict #[]}).push {cls:=.type "cell",data:=.cell none}}) :
  wpAny M A (newFunctionEnv scope globals cl [] qual none .none (some env)) Q E s:=by
 simp only [newFunctionEnv,Option.isSome_some,if_true];refine bf (wpAny_alloc ?_);refine bf (wpAny_layCells _ (fun name kind cells=>by cases J0:kind == NameKind.cell <;> simp [J0]) _ _ _ _ ?_)
 rw [show ({s with heap:=s.heap.push {cls:=.type "dict",data:=.dict #[]}}:Shared).heap.objs.size=s.heap.objs.size+1 from Heap.size_push ..,c1,p1];exact bf (dm (dm hQ))
end
section
variable {X:Cx} {N:List Str} {scope:Scope} {cl:List (Str×Addr)} {x:Str} {px pos:Pos} {iter elt:Expr} {ifs:List Expr} {wi:TI} {ρ:St→St} {tt:TT} {te:TE}
theorem J1{names:List (Str×NameKind)}(h:(names.all fun q=>(q.2 != .cell && q.2 != .free) || ((cl.lookup q.1).isSome || q.1 == x))=true) :
  ∀y,y≠x→(names.lookup y=some .cell∨names.lookup y=some .free)→∃c,cl.lookup y=some c:=fun y hx hy=>by
 have key:∀k:NameKind,(k != .cell && k != .free)=false→names.lookup y=some k→∃c,cl.lookup y=some c:=fun k hk e=>by have z:=pj.mp h (y,k) (jw e);rw [hk,Bool.false_or,show ((y,k).1 == x)=false from rJ.mpr hx,Bool.or_false] at z;exact yd.mp z
 rcases hy with e | e;·exact key .cell rfl e
 ·exact key .free rfl e
structure J2 (X:Cx) (N:List Str) (scope:Scope) (cl:List (Str×Addr)) (x:Str) (ρ:St→St):Prop where
 vM:closureFor scope X.env=pure cl
 kind:scope.kind=.function
 J3:∀n,cellsFrom n scope.names cl=(x,n)::cl
 J4:∀h:Heap,pushCells h scope.names=h.push {cls:=.type "cell",data:=.cell none}
 names:∀y∈scope.names,y.2=.local→scope.names.lookup y.1=some .local
 sub:∀p∈cl,X.env.cells.lookup p.1=some p.2
 has:∀y,y≠x→((relabel scope X.env).names.lookup y=some .cell∨(relabel scope X.env).names.lookup y=some .free)→∃c,cl.lookup y=some c
 n0:N[0]?=some x
 nd:N.Nodup
 J5:(relabel scope X.env).names.lookup x=some .cell
 vO:∀(σ:St) (j:Nat) (v:V),(ρ σ)[j]?=some (some v)→∃(i:Nat) (y:Str),N[j+1]?=some y∧X.N[i]?=some y∧σ[i]?=some (some v)∧mX X.env.scope y∧(X.env.kindOf y=some .cell∨X.env.kindOf y=some .free)∧((relabel scope X.env).names.lookup y=some .cell∨(relabel scope X.env).names.lookup y=some .free)
 len:∀σ:St,σ.length=X.N.length→(ρ σ).length+1=N.length
end
theorem vS{v:V}(h:iq v=true):dU v v=true:=by
 cases v with
 | aM=>rfl
 | bl b=>show (b == b)=true;simp
 | int i=>show (i == i)=true;simp
 | str x=>show (x == x)=true;simp
 | _=>cases h
theorem all_range(n:Nat):(List.range n).all (fun _=>true)=true:=by simp
section
variable {X:Cx} {pins:aG} {σ:St} {H:Hp} {s:Shared}
end
section
variable {X:Cx}
end
section
variable {X:Cx} {N:List Str} {scope:Scope} {cl:List (Str×Addr)} {x:Str} {px pos:Pos} {iter elt:Expr} {ifs:List Expr} {wi:TI} {ρ:St→St} {tt:TT} {te:TE}
theorem J6{y:Str}{py tI:Pos}{i0:Nat}(B:J2 X N scope cl x ρ)(hc:X.calm=true)(hN:X.N.Nodup)(y9:X.N[i0]?=some y)(hy:Loc X.env.scope y)(hi:PI X (.Name x px) iter wi)(ht:∀s₃ H₃ fp,lQ (X.fW N scope cl x s₃ H₃ fp) ifs tt)(he:∀s₃ H₃ fp,PE (X.fW N scope cl x s₃ H₃ fp) elt te)
  (y_:swapsWith (.ListComp elt [⟨.Name x px,iter,ifs,0⟩] scope pos) (some (.Name y py)) tI.line X.env=pure true:=by rfl) (hf:X.fn y=true∨X.env.scope.names.lookup y=some .local:=by first | exact .inl rfl | exact .inr rfl | assumption)
  (hs:∀x,foldedSetIterable iter X.env x=pure x:=by intro _;rfl):PS X (.Assign [.Name y py] (.ListComp elt [⟨.Name x px,iter,ifs,0⟩] scope pos) tI) (lC (fw wi ρ tt te) (aY i0)):=by
 intro pins s σ H D0 I h
 have h:fw wi ρ tt te σ H (fun v H1=>D0.nx (σ.set i0 (some v)) H1):=h
 rw [exec_Assign_Name_used _ _ _ _ y_]
 refine bf (rK (bf ?_))
 show wpAny _ X.A (do let _ ←comprehension (.ListComp elt [⟨.Name x px,iter,ifs,0⟩] scope pos) scope X.env _ (newList []) false (eval iter X.env) (some (assign (.Name y py) X.env))) _ _ s
 refine bf (cy (Q:=fun _ s'=>SP X pins D0 .next s') ?_ (fun _ s' hq=>dm (dm hq)) fun _ _ e=>e)
 refine yg (use:=some (assign (.Name y py) X.env)) rfl hs B.vM B.kind B.names (aJ (hi pins s σ H _ I h) fun v s1 h1=>aJ h1 fun sJ s2 h2=>?_)
 obtain ⟨it,fp,tn,J,H2,rfl,I2,T,gR,f2,q2⟩:=h2
 have nD:H2 s2.heap.objs.size=none:=I2.ax.fresh (av _)
 obtain ⟨W,⟨m0,w0⟩,turn⟩:=q2 _ nD
 refine wpAny_newObj_type (JZ B.J3 B.J4 ?_)
 dsimp only
 generalize hD:s2.heap.objs.size=D at nD w0 turn ⊢
 generalize gB:({s2 with heap:=s2.heap.push {cls:=.type "list",dict:=none,data:=.seq ([]:List Value).toArray}}:Shared)=s3
 have I3:Inv X pins σ (upd H2 D (.lst [])) s3:=by
  subst hD gB
  exact I2.laid (t':=s2.toks) (fun b u e=>bO _ e) (av _) ⟨bD _,[],_,.nil,dQ _ rfl⟩
 have e3:s3.heap=s2.heap.push {cls:=.type "list",dict:=none,data:=.seq ([]:List Value).toArray}:=by rw [←gB]
 have fU:∀b o,s2.heap.get? b=some o→s3.heap.get? b=some o:=fun b o e=>by rw [e3];exact bO _ e
 rw [←e3]
 obtain ⟨h₁,eh⟩:∃h₁,h₁=(s3.heap.push {cls:=.type "dict",data:=.dict #[]}).push {cls:=.type "cell",data:=.cell none}:=⟨_,rfl⟩
 rw [←eh]
 have i5:h₁.Ns s3.heap.objs.size (fun _=>none):=by
  rw [eh]
  exact (Heap.Ns.new s3.heap (.type "dict")).keeps fun b o e=>bO _ e
 have J7:(s3.heap.push {cls:=.type "dict",data:=.dict #[]}).objs.size=s3.heap.objs.size+1:=Heap.size_push ..
 have J8:h₁.IsCell (s3.heap.objs.size+1) none:=by
  rw [eh,←J7]
  exact ⟨_,dQ _ rfl,rfl⟩
 have below:∀b o,s3.heap.get? b=some o→b≠s3.heap.objs.size:=fun b o e=>bR (aS e)
 have dW:∀b o,s3.heap.get? b=some o→h₁.get? b=some o:=fun b o e=>by rw [eh];exact bO _ (bO _ e)
 have iu:∀b∈fp,∃o,s2.heap.get? b=some o∧∀v,o.data≠.cell v:=T.obj _ _ gR
 have sZ:∀b∈fp,b≠D:=fun b hb z=>by
  obtain ⟨o,e,_⟩:=iu b hb
  rw [z,←hD] at e
  exact absurd (aS e) (d7 _)
 have dh:∀y c,cl.lookup y=some c→X.env.cells.lookup y=some c:=fun y c e=>B.sub (y,c) (jw e)
 have C3:∀y c,cl.lookup y=some c→c<s3.heap.objs.size:=fun y c e=>by
  obtain ⟨v,o,eo,_⟩:=I3.cell y c (dh y c e)
  exact aS eo
 have lk:∀y c,((x,s3.heap.objs.size+1)::cl).lookup y=some c→(y=x∧c=s3.heap.objs.size+1)∨(y≠x∧cl.lookup y=some c):=fun y c e=>by
  by_cases z:y=x
  ·subst z
   rw [u4,u0] at e
   exact .inl ⟨rfl,(Option.some.inj e).symm⟩
  ·rw [u4,rJ.mpr z] at e
   exact .inr ⟨z,e⟩
 have vT:∀y c,y≠x→cl.lookup y=some c→((x,s3.heap.objs.size+1)::cl).lookup y=some c:=fun y c z e=>by
  rw [u4,rJ.mpr z]
  exact e
 have C4:∀b∈fp,b<s3.heap.objs.size:=fun b hb=>by
  obtain ⟨o,e,_⟩:=iu b hb
  exact aS (fU b o e)
 have s_:=I3.sj
 have gz:(X.fW N scope cl x s3 (upd H2 D (.lst [])) fp).Ok:=by
  refine ⟨I.ok.mod,B.kind,I.ok.glob,I.ok.blt,av _,fun a b c e1 e2=>?inj,fun y hy=>?has,(fun y c z e=>?mY),(fun _=>I.ok.hd hc),I.ok.frames,.inl rfl,fun b hb=>⟨?_,fun y c e z=>?_⟩,fun b o e=>?_,bI I.ok.gQ I3.sz,fun b o e hb=>?_,fun b hb z=>?_,I3.stack,s_⟩
  case inj=>
   rcases lk a c e1 with ⟨z1,J9⟩ | ⟨_,f1⟩ <;> rcases lk b _ e2 with ⟨z2,ec⟩ | ⟨_,C5⟩
   ·rw [z1,z2]
   ·have:=C3 _ _ C5
    rw [J9] at this
    exact absurd this (Nat.not_lt.mpr (hU _))
   ·have:=C3 _ _ f1
    rw [ec] at this
    exact absurd this (Nat.not_lt.mpr (hU _))
   ·exact I.ok.inj a b c (dh a c f1) (dh b c C5)
  case has=>
   by_cases z:y=x
   ·subst z
    exact ⟨_,by rw [show (compEnvC scope ((y,s3.heap.objs.size+1)::cl) s3.heap.objs.size X.env).cells=(y,s3.heap.objs.size+1)::cl from rfl,u4,u0]⟩
   ·obtain ⟨c,ec⟩:=B.has y z hy
    exact ⟨c,vT y c z ec⟩
  case mY=>
   have z:y=x:=by simpa using z
   rcases lk y c e with ⟨_,rfl⟩ | ⟨z',_⟩
   ·exact hU _
   ·exact absurd z z'
  ·obtain ⟨o,e,_⟩:=iu b hb
   exact below b o (fU b o e)
  ·rcases lk y c e with ⟨rfl,rfl⟩ | ⟨_,e⟩
   ·rw [←z] at hb
    exact absurd (C4 _ hb) (Nat.not_lt.mpr (hU _))
   ·exact (f2 b hb).2.2.2.2.1 y c (dh y c e) z
  ·exact I3.bs b o e
  ·rcases (f2 b hb).2.2.2.1 with z | z
   ·exact I.ok.mZ b o e z
   ·exact absurd (c_ (aS e) (bI I.ok.gQ z)) (d7 _)
  ·rcases bE.mp (I3.si b z) with z | z
   ·exact (f2 b hb).2.1 z
   ·exact (f2 b hb).2.2.1 z
 have IB:∀tk:Nat,Inv (X.fW N scope cl x s3 (upd H2 D (.lst [])) fp) [] (none::ρ σ) (upd H2 D (.lst [])) {s3 with heap:=h₁,toks:=tk}:=fun tk=>by
  refine ⟨gz,rfl,I3.bare,Un.kept dW,⟨_,i5,fun j y v e1 e2 e3=>?_⟩,fun y c e=>?_,?_,fun y c e=>?fC,(fun p hp=>nomatch hp),I3.ax.kept dW,?_⟩
  ·cases j with
   | zero=>cases e2
   | succ j=>
    obtain ⟨i,y',a1,a2,a3,a4,a5,a6⟩:=B.vO σ j v e2
    have lR:N[j+1]?=some y:=e1
    rw [lR] at a1
    cases a1
    obtain ⟨m,hn,hl⟩:=I3.loc
    obtain ⟨u,r,l⟩:=hl i y v a2 a3 a4
    refine ⟨u,r,.inr ⟨a6,?_⟩⟩
    have yx:y≠x:=fun z=>by
     have n0:=B.n0
     rw [←z] at n0
     have:=(List.getElem?_inj (bG.mp n0).1 B.nd).mp (n0.trans lR.symm)
     omega
    obtain ⟨c,ec⟩:=B.has y yx a6
    rcases l with ⟨k,_⟩ | ⟨_,c',lS,z⟩
    ·rcases a5 with q | q <;> (rw [k] at q;cases q)
    ·have:=dh y c ec
     rw [this] at lS
     cases lS
     obtain ⟨o,ho,hd⟩:=z
     exact ⟨c,vT y c yx ec,o,dW _ _ ho,hd⟩
  case fC=>
   rcases lk y c e with ⟨rfl,rfl⟩ | ⟨_,e⟩
   ·exact I3.ax.fresh (hU _)
   ·exact I3.hW y c (dh y c e)
  ·rcases lk y c e with ⟨rfl,rfl⟩ | ⟨_,e⟩
   ·exact ⟨none,J8⟩
   ·obtain ⟨v,o,ho,hd⟩:=I3.cell y c (dh y c e)
    exact ⟨v,o,dW _ _ ho,hd⟩
  ·exact I3.ax.fresh (av _)
  ·show (none::ρ σ).length=N.length
   rw [d9]
   exact B.len σ I.len
 have nG:∀b o,s3.heap.get? b=some o→b≠s3.heap.objs.size:=below
 have fin:∀{σ':St} {H':Hp} {s':Shared},Inv (X.fW N scope cl x s3 (upd H2 D (.lst [])) fp) [] σ' H' s'→D0.nx (σ.set i0 (some (.ref D))) H'→compPost (model X.prog X.w) X.A X.xe (some (assign (.Name y py) X.env)) (fun _ s'=>SP X pins D0 .next s') (.ref D) s3.heap.objs.size (.ok .next) s':=fun{σ' H' s'} J q=>by
  obtain ⟨m,hn,_⟩:=J.loc
  have hn:s'.heap.Ns s3.heap.objs.size m:=hn
  have JC:H' s3.heap.objs.size=none:=J.free
  have u1:Un (bY X.stack) fp (upd H2 D (.lst [])) H' s3.heap s'.heap:=by
   refine ⟨fun b o e n hb hx=>J.base.keep b o e n hb hx,fun b o e n hb hx=>J.base.slot b o e n hb hx,J.base.free,fun b o e hx=>J.base.there b o e hx,J.base.fI,J.base.fk,J.base.fm⟩
  have IX:Inv X pins σ H' s':=I3.m7 (ch:=fp) (J.os) u1 J.ax J.bare fun b hb=>by
   obtain ⟨g0,g1,g2,g3,g4,g5⟩:=f2 b hb
   exact ⟨g3,g1,g4,g5⟩
  have nl:X.env.locals≠s3.heap.objs.size:=by
   obtain ⟨m3,⟨o3,_,_,e3,_⟩,_⟩:=I3.loc
   exact nG _ _ e3
  have nc:∀z c,X.env.cells.lookup z=some c→c≠s3.heap.objs.size:=fun z c e=>by
   obtain ⟨v3,o3,e3,_⟩:=I3.cell z c e
   exact nG _ _ e3
  refine wpAny_assign_Name (yt (v:=.ref D) IX hN y9 hy rfl (fun gT nH jR=>?_) hf)
  obtain ⟨a,jR,ha⟩:=jR
  have na:s3.heap.objs.size≠a:=by
   rcases ha with rfl | e
   ·exact fun z=>nl z.symm
   ·exact fun z=>nc _ _ e z.symm
  refine ⟨m,hn.sameBut jR na,fun h' gC=>⟨σ.set i0 (some (.ref D)),H',?_,q⟩⟩
  have u2:Un (bY X.stack) [s3.heap.objs.size] H' H' gT.heap h':=by
   refine ⟨fun b o e n hb hx=>(gC.2 b (by simpa using hx)).trans e,fun b o e n hb hx=>⟨o.slots,(gC.2 b (by simpa using hx)).trans e⟩,fun b o e n hx=>n,fun b o e hx=>⟨o,(gC.2 b (by simpa using hx)).trans e⟩,fun b xs z=>z,fun b o u z=>z,fun b ps z=>⟨#[],by simpa using z⟩⟩
  have tj:bQ X.prog X.w H' h':=fun b u e=>by
   refine (nH.ax b u e).gO (fun c v hc z=>(gC.2 c fun y=>?_).trans z) (fun _ z=>z) fun _ _ z=>z
   have y':c=s3.heap.objs.size:=y
   rcases hc with hc | hc
   ·rw [←hc,y',JC] at e
    cases e
   ·rw [y',JC] at hc
    cases hc
  refine nH.m7 (s':={gT with heap:=h'}) (ch:=[s3.heap.objs.size]) rfl u2 tj nH.bare fun b hb=>?_
  have eb:b=s3.heap.objs.size:=by simpa using hb
  subst eb
  refine ⟨.inr I3.sz,fun z=>nl z.symm,fun z c e=>nc z c e,fun p hp=>?_⟩
  exact nG _ _ (I3.pin p hp).1
 have fJ:∀{H':Hp},(∀b∈fp,H' b=none)→∀b∈fp,ku (X.fW N scope cl x s3 (upd H2 D (.lst [])) fp) [] H' b:=fun hn b hb=>by
  refine ⟨hn b hb,?_,?_,.inl hb,fun y c e z=>?sc,fun p hp=>nomatch hp⟩
  case sc=>
   rcases lk y c e with ⟨rfl,rfl⟩ | ⟨_,e⟩
   ·rw [←z] at hb
    exact absurd (C4 _ hb) (Nat.not_lt.mpr (hU _))
   ·exact (f2 b hb).2.2.2.2.1 y c (dh y c e) z
  ·obtain ⟨o,e,_⟩:=iu b hb
   exact below b o (fU b o e)
  ·exact gz.m5 b hb
 have loop:∀tk:Nat,codeAny (model X.prog X.w) X.A (.compLoop (.ListComp elt [⟨.Name x px,iter,ifs,0⟩] scope pos) 0 (.ref it) (.ref D) (compEnvC scope ((x,s3.heap.objs.size+1)::cl) s3.heap.objs.size X.env))
   (compPost (model X.prog X.w) X.A X.xe (some (assign (.Name y py) X.env)) (fun _ s'=>SP X pins D0 .next s') (.ref D) s3.heap.objs.size) {s3 with heap:=h₁,toks:=tk}:=fun tk=>by
  refine yh (fun n s'=>∃i ys o H',Inv (X.fW N scope cl x s3 (upd H2 D (.lst [])) fp) [] (o::ρ σ) H' s'∧tn i s'.heap∧(∀b∈fp,H' b=none)∧W i n ys H') ?_ m0
   ⟨0,[],none,_,IB tk,T.keep _ _ _ gR fun b hb o e=>dW _ _ (fU _ _ e),fun b hb=>by rw [aE (sZ b hb)];exact (f2 b hb).1,w0⟩
  rintro n s4 ⟨i,ys,o,H4,I4,lT,lU,w4⟩
  obtain ⟨CS,tm⟩:=turn i n ys H4 w4
  rcases tm with ⟨stop,qn⟩ | ⟨go,step⟩
  ·refine cy (T.done (X.fW N scope cl x s3 (upd H2 D (.lst [])) fp) rfl rfl rfl hc i [] s4 _ H4 (fun _ _=>False) I4 (fJ lU) lT stop) (fun r s5 ⟨hr,I5⟩=>?_) fun _ _ z=>z.elim
   subst hr
   exact fin I5 qn
  ·refine cy (T.item (X.fW N scope cl x s3 (upd H2 D (.lst [])) fp) rfl rfl rfl hc i [] s4 _ H4 (fun _ _=>False) I4 (fJ lU) lT go) (fun r s5 ⟨u,hr,h5⟩=>?_) fun _ _ z=>z.elim
   subst hr
   have z:letOwnedTupleGo (.Name x px) (.ref it) u=pure ():=rfl
   rw [z] at h5
   show wpAny _ _ ((pure ():Sem Unit) >>= fun _=>assign (.Name x px) (compEnvC scope ((x,s3.heap.objs.size+1)::cl) s3.heap.objs.size X.env) u) _ _ s5
   refine bf (cy h5 (fun _ s5 ⟨y,H5,I5,r5,y5,fK,nh⟩=>?_) fun _ _ z=>z.elim)
   have ni:=I5.pinned (fJ nh) (T.obj _ _ fK)
   have pg:PG (X.fW N scope cl x s3 (upd H2 D (.lst [])) fp) (.Name x px) (aY 0):=da (i:=0) B.nd B.n0 (.inr B.J5) (.inl (by show (x == x)=true;simp))
   have again:∀{σ7:St} {H7:Hp} {s7:Shared},Inv (X.fW N scope cl x s3 (upd H2 D (.lst [])) fp) ([]++jK fp s5.heap) σ7 H7 s7→Inv (X.fW N scope cl x s3 (upd H2 D (.lst [])) fp) [] σ7 H7 s7∧tn (i+1) s7.heap∧∀b∈fp,H7 b=none:=fun{σ7 H7 s7} I7=>by
    refine ⟨I7.pO,T.keep _ _ _ fK fun b hb o e=>(I7.pin (b,o) (d8 _ (d8 _ (lE hb e)))).1,fun b hb=>?_⟩
    obtain ⟨o,e,d⟩:=T.obj _ _ fK b hb
    exact (I7.pin (b,o) (d8 _ (d8 _ (lE hb e)))).2.1
   refine cy (pg _ s5 _ H5 y u (fun σ2 H6=>σ2=some y::ρ σ∧H6=H5) ni r5 ⟨rfl,rfl⟩) (fun _ s6 ⟨σ6,H6,I6,q6⟩=>?_) fun _ _ z=>z.elim
   obtain ⟨rfl,rfl⟩:=q6
   have tu:=step y _ y5
   have tests:∀{i6:TT},lQ (X.fW N scope cl x s3 (upd H2 D (.lst [])) fp) ifs i6→∀{R:Bool→Hp→Prop},i6 (some y::ρ σ) H6 R→wpAny (model X.prog X.w) X.A
     (forIn ifs true fun c r=>if r=true then do let ok ←isTrue c (compEnvC scope ((x,s3.heap.objs.size+1)::cl) s3.heap.objs.size X.env) (eval c (compEnvC scope ((x,s3.heap.objs.size+1)::cl) s3.heap.objs.size X.env));pure (ForInStep.yield ok) else pure (ForInStep.yield r))
     (fun ok s7=>∃H7,Inv (X.fW N scope cl x s3 (upd H2 D (.lst [])) fp) ([]++jK fp s5.heap) (some y::ρ σ) H7 s7∧R ok H7) (fun _ _=>False) s6:=fun{i6} p {R} hR=>by
    cases p with
    | nil=>exact wpAny_tests_nil ⟨_,I6,hR⟩
    | one p=>exact wpAny_tests_one (p _ s6 _ _ _ I6 hR)
   refine cy (tests (ht s3 _ fp) tu) (fun ok s7 ⟨H7,I7,q7⟩=>?_) fun _ _ z=>z.elim
   cases ok with
   | false=>
    obtain ⟨m',dt,w7⟩:=q7
    obtain ⟨a1,a2,a3⟩:=again I7
    exact ⟨m',dt,i+1,ys,_,H7,a1,a2,a3,w7⟩
   | true=>
    refine cy (he s3 _ fp _ s7 _ H7 _ I7 q7) (fun ev s8 ⟨z,H8,I8,r8,tw,hz,m',dt,w8⟩=>?_) fun _ _ z=>z.elim
    refine cy (gX (X:=X.fW N scope cl x s3 (upd H2 D (.lst [])) fp) _ s8 _ H8 (.ref D) [z] (.ref D) [ev] (fun _ H9=>H9=upd H8 D (.lst (ys++[z]))) I8 rfl (.cons r8 .nil) ⟨D,ys,z,rfl,rfl,tw,hz,rfl⟩) (fun _ s9 ⟨_,H9,I9,_,q9⟩=>?_) fun _ _ z=>z.elim
    subst q9
    obtain ⟨a1,a2,a3⟩:=again I9
    exact ⟨m',dt,i+1,ys++[z],_,_,a1,a2,a3,w8⟩
 have start:=loop s3.toks
 have es:({s3 with heap:=h₁,toks:=s3.toks}:Shared)={s2 with heap:=h₁}:=by rw [←gB]
 rw [es] at start
 exact yi start (T.self _ 0 _ _ _ (T.keep _ _ _ gR fun b hb o e=>dW _ _ (fU _ _ e)) start)
end
theorem vU(fV:∀R:It→Hp→Prop,(∀J H1,ak H H1→jQ J xs H1→R J H1)→wi σ H R)(hn:xs.length<sizeLine)
  (P:Addr→Nat→V→Hp→Prop) (mono:∀D i y H H' ys,P D i y H→H D=some (.lst ys)→(∀b o,b≠D→H b=some o→H' b=some o)→P D i y H')
  (step:∀D i x,xs[i]?=some x→∀(Hc:Hp) (R:VK),ak H Hc→(∃ys,Hc D=some (.lst ys))→(∀y H3,ak Hc H3→P D i y H3→R y H3)→te (some x::ρ σ) Hc R)
  (fin:∀D ys Hc,H D=none→ak H Hc→ys.length=xs.length→(∀(i:Nat) (y:V),ys[i]?=some y→P D i y Hc)→Hc D=some (.lst ys)→Q (.ref D) Hc):fw wi ρ (fun _ H Q=>Q true H) te σ H Q:=by
 refine fV _ fun J H1 s1 js=>?_;intro D nD;have hD:H D=none:=by
  cases e:H D with
  | none=>rfl
  | some o=>rw [s1 _ _ e] at nD;cases nD
 exact C1 (ρσ:=ρ σ) (te:=te) (Q:=Q) js nD hn (P D) (mono D) (fun i x hx Hc R sc=>step D i x hx Hc R (s1.trans sc)) (fun ys Hc sc=>fin D ys Hc hD (s1.trans sc))
section
variable {X:Cx} {K:aD}
theorem za(hK:X.K=K:=by rfl):sP X (Cy K):=by subst hK;exact cq
def J_(K:aD):List V→Hp→VK→Prop:=fun xs H Q=>∃p ys,xs=[.ref p]∧(aU K H p ys∨eW K H p ys)∧Q (.int (ys.length:Int)) H
theorem C6(hK:X.K=K:=by rfl):fO X (.builtin "len") (J_ K):=by subst hK;exact kB
theorem Ka{tg l:Expr}{tl:TE}(hl:PE X l tl)(hK:X.K=K:=by rfl):PI X tg l (B7 K tl):=by subst hK;exact ft hl
end
end L2
namespace My
open PySem L2
variable {te:TE} {σ:St} {H:Hp}
theorem vV{r:List V→Hp→VK→Prop}{Q:VK}(h:te σ H fun x H1=>r [x] H1 Q):yQ r (vC te yO) σ H Q:=h
theorem Kb{D:Ends}(h:te σ H D.rt):B4 te D σ H:=h
theorem Ki{vs:List V}{b:Bool}(h:∀(i:Nat) (v:V),vs[i]?=some v→v=.bl b):vs=(List.replicate vs.length b).map V.bl:=by
 refine rT fun i=>?_;rw [bq];by_cases hi:i<vs.length
 ·rw [show vs[i]?=some vs[i] by simp [hi],h i vs[i] (by simp [hi])]
  simp [hi]
 ·rw [rV (by omega),rV (by simp;omega)]
  rfl
theorem Kj(n:Nat):(List.replicate n true).all id=true:=by simp
variable {H':Hp} {b:Addr}
theorem none_of(s:ak H H')(h:H' b=none):H b=none:=by
 cases e:H b with
 | none=>rfl
 | some o=>rw [s _ _ e] at h;cases h
theorem getD_at{α:Type}{xs:List α}{d:α}{i:Nat}(hi:i<xs.length):xs.getD i d=xs[i]:=by
 rw [dG,show xs[i]?=some xs[i] by simp [hi]]
 rfl
def er(P:Addr)(H:Hp):Hp:=fun b=>if b=P then none else H b
variable {P:Addr}
theorem tJ:ak (er P H) H:=fun b o e=>by
 unfold er at e
 split at e
 ·cases e
 ·exact e
theorem dN(h:b≠P):er P H b=H b:=aa h
variable {o:HO}
theorem tK(h:b≠P)(e:H b=some o):er P H b=some o:=by rw [dN h];exact e
theorem vW(s:ak H H'):ak (er P H) (er P H'):=fun b o e=>by
 unfold er at e ⊢
 split at e
 ·cases e
 ·rename_i h
  rw [aa h];exact s _ _ e
theorem C7:er P (upd H P o)=er P H:=funext fun b=>by
 unfold er
 split
 ·rfl
 ·rename_i h
  exact aE h
def ba(H:Hp)(P a:Addr):Prop:=∃x y:Int,H P=some (.lst [.ref a,.int x,.int y])∧0≤x∧0≤y
variable {a:Addr}
theorem ba.mono(h:ba H P a)(s:ak H H'):ba H' P a:=by obtain ⟨x,y,e,h1,h2⟩:=h;exact ⟨x,y,s _ _ e,h1,h2⟩
variable {D:Addr}
theorem ba.upd(h:ba H P a)(n:D≠P):ba (L2.upd H D o) P a:=by obtain ⟨x,y,e,h1,h2⟩:=h;exact ⟨x,y,by rw [aE n.symm];exact e,h1,h2⟩
theorem ba.ne(h:ba H P a)(n:H D=none):D≠P:=fun z=>by obtain ⟨x,y,e,_⟩:=h;rw [z,e] at n;cases n
def aB(P:Addr)(H H':Hp):Prop:=ak (er P H) (er P H')
theorem aB.refl(H:Hp):aB P H H:=ak.refl _
theorem aB.trans{H2:Hp}(s:aB P H H')(t:aB P H' H2):aB P H H2:=ak.trans s t
theorem aB.of(s:ak H H'):aB P H H':=vW s
theorem aB.iy:aB P H (upd H P o):=by unfold aB;rw [C7];exact ak.refl _
theorem aB.but(s:aB P H H')(n:H D=none):aB P H (upd H' D o):=fun b u e=>by
 have e0:=s b u e;have nb:b≠P:=fun z=>by unfold er at e;rw [ae z] at e;cases e
 rw [dN nb] at e e0 ⊢;rw [aE (fj e n)];exact e0
theorem aB.at(s:aB P H H')(nb:b≠P)(e:H b=some o):H' b=some o:=by have z:=s b o (tK nb e);rw [dN nb] at z;exact z
end My
namespace L2
open PySem PySem.Spec PyProof.Rows
end L2
namespace My
open PySem L2
def Kk:Sp:=fun vs H Q _=>∃c a:Int,vs=[.int c,.int a]∧0≤a∧∀r:Int,0≤r→Q (.int r) H
def Kl(K:aD):Sp:=fun vs H Q _=>∃(P a:Addr) (ns:List Int) (many:Int),vs=[.ref P,.int many]∧ba H P a∧aU K (er P H) a (ns.map V.int)∧1≤many∧eY many∧∀(r:Int) (H':Hp),0≤r→r<many→aB P H H'→ba H' P a→Q (.int r) H'
end My
namespace L2
open PySem PySem.Spec PyProof.Rows
end L2
namespace My
open PySem L2
end My
namespace L2
open PySem PySem.Spec PyProof.Rows
def tL(K:aD)(l:Addr):It:=
  ⟨fun i H=>∃xs x,aU K H l xs∧xs[i]?=some x,
   fun i H v H'=>∃T x,H T=none∧v=.ref T∧H'=upd H T (.tup [.int (i:Int),x])∧∀xs,aU K H l xs→xs[i]?=some x,
   fun i H=>∃xs,aU K H l xs∧xs.length≤i⟩
variable {K:aD} {l:Addr}
theorem Km{P:Program}{w:World}{elts:List Expr}{k:Nat}{pos:Pos}{e it:Addr}(C8:e≠it):Turn P w K (.Tuple elts k pos) (tL K l) [e,it] e
  (fun i h=>(∃old,IsEnum h e it (i:Int) old)∧h.IsListIter it l i) where
 mem:=by simp
 obj:=fun i h st b hb=>by
  obtain ⟨⟨old,he⟩,h1⟩:=st;simp only [bE,mM,or_false] at hb;rcases hb with rfl | rfl;·exact ⟨_,he,fun v z=>by cases z⟩
  ·obtain ⟨o,e,c,d⟩:=h1
   exact ⟨o,e,fun v z=>by rw [d] at z;cases z⟩
 keep:=fun i h h' st k=>by obtain ⟨⟨old,he⟩,h1⟩:=st;exact ⟨⟨old,k _ (by simp) _ he⟩,h1.at fun o e=>k _ (by simp) o e⟩
 item:=by
  intro X hP hw hK hc i pins s σ H E I hf st hg;subst hP hw hK;obtain ⟨⟨old,he⟩,h1⟩:=st;obtain ⟨xs,x,pY,hx⟩:=hg;obtain ⟨its,rv,p,_⟩:=I.list pY;obtain ⟨u,hu,ru⟩:=rv.get hx;refine wpAny_pyNext_enum_item he h1 p.isList (x:=u) (by simpa using hu) C8 fun h' g1 g2 g3 g4 g5=>⟨_,rfl,?_⟩
  refine wpAny_letOwnedTupleGo_enum g1 fun vX q1 sb=>?_;have pZ:H s.heap.objs.size=none:=I.ax.fresh (av _);have lt:∀b o,s.heap.get? b=some o→b≠s.heap.objs.size:=fun b o e=>bR (aS e);have keep:∀b o,b∉[e,it]→s.heap.get? b=some o→vX.get? b=some o:=fun b o nb e=>by simp only [bE,mM,or_false,not_or] at nb;exact sb.extBut _ _ nb.1 (g5 b o nb.1 nb.2 e)
  have elt:e≠s.heap.objs.size:=lt _ _ he;have pT:=sb.extBut _ _ elt.symm g3;have tM:∀{b:Addr} {o:HO} (e:H b=some o),upd H s.heap.objs.size (.tup [.int (i:Int),x]) b=some o:=fun e=>by rw [aE (fj e pZ)];exact e
  have ax:bQ X.prog X.w (upd H s.heap.objs.size (.tup [.int (i:Int),x])) vX:=fun b o e=>by
   by_cases hb:b=s.heap.objs.size
   ·subst hb
    rw [aw] at e;cases e;exact ⟨by show 2≤sizeLine;decide,[.int i s.toks,u],.cons ⟨_,rfl⟩ (.cons ru .nil),⟨_,pT,rfl,_,rfl⟩⟩
   ·rw [aE hb] at e
    refine (I.ax b o e).gO (fun c v eI q=>keep c v (fun m=>?_) q) (fun c q=>tM q) fun c xs q=>tM q;have nn:=(hf c m).1;rcases eI with rfl | eI;·rw [nn] at e;cases e
    ·rw [nn] at eI;cases eI
  have u1:Un (bY X.stack) [e,it] H (upd H s.heap.objs.size (.tup [.int (i:Int),x])) s.heap vX:=
   ⟨fun b o e n _ hx=>keep b o hx e,fun b o e n _ hx=>⟨o.slots,keep b o hx e⟩,fun b o e n hx=>by rw [aE (lt b o e)];exact n,fun b o e hx=>⟨o,keep b o hx e⟩,fun b xs e=>tM e,fun b o u e=>tM e,fun b ps e=>⟨#[],by rw [tM e];simp⟩⟩
  refine ⟨.ref s.heap.objs.size,upd H s.heap.objs.size (.tup [.int (i:Int),x]),I.m7 (s':={s with heap:=vX,toks:=s.toks+1}) (ch:=[e,it]) rfl u1 ax I.bare (fun b hb=>?_),rfl,⟨_,x,pZ,rfl,rfl,fun as ha=>by rw [I.B3 ha pY];exact hx⟩,?_,fun b hb=>?_⟩
  ·obtain ⟨f0,f1,f2,f3,f4,f5⟩:=hf b hb
   exact ⟨f3,f1,f4,f5⟩
  ·refine ⟨⟨u,?_⟩,g2.extBut sb.extBut C8.symm⟩
   have z:((i+1:Nat):Int)=(i:Int)+1:=by omega
   rw [z];exact q1
  ·have nb:b≠s.heap.objs.size:=by
    simp only [bE,mM,or_false] at hb;rcases hb with rfl | rfl;·exact lt _ _ he
    ·obtain ⟨o,e,_⟩:=h1;exact lt _ _ e
   rw [aE nb];exact (hf b hb).1
 done:=by
  intro X hP hw hK hc i pins s σ H E I hf st hg;subst hP hw hK;obtain ⟨⟨old,he⟩,h1⟩:=st;obtain ⟨xs,pY,hx⟩:=hg;obtain ⟨its,rv,p,_⟩:=I.list pY;have hl:=rv.length;refine wpAny_pyNext_enum_end (I.ok.hd hc) he h1 p.isList (by simp;omega) fun h' g=>⟨rfl,?_⟩
  have keep:∀b o,b∉[e,it]→s.heap.get? b=some o→h'.get? b=some o:=fun b o nb e=>by simp only [bE,mM,or_false,not_or] at nb;exact g b o nb.2 e
  have ax:bQ X.prog X.w H h':=fun b o e=>by
   refine (I.ax b o e).gO (fun c v eI q=>keep c v (fun m=>?_) q) (fun c q=>q) fun c xs q=>q;have nn:=(hf c m).1;rcases eI with rfl | eI;·rw [nn] at e;cases e
   ·rw [nn] at eI;cases eI
  have u1:Un (bY X.stack) [e,it] H H s.heap h':=
   ⟨fun b o e n _ hx=>keep b o hx e,fun b o e n _ hx=>⟨o.slots,keep b o hx e⟩,fun b o e n hx=>n,fun b o e hx=>⟨o,keep b o hx e⟩,fun b xs e=>e,fun b o u e=>e,fun b ps e=>⟨#[],by rw [e];simp⟩⟩
  refine I.m7 (s':={s with heap:=h'}) (ch:=[e,it]) rfl u1 ax I.bare fun b hb=>?_;obtain ⟨f0,f1,f2,f3,f4,f5⟩:=hf b hb;exact ⟨f3,f1,f4,f5⟩
 self:=fun _ _ _ _ _ st h=>by obtain ⟨⟨old,he⟩,_⟩:=st;exact wpAny_pyIter_enum he h
theorem boot_enumerate:bootBuiltins "enumerate"=some (.type "enumerate"):=by decide +kernel
def Kn(K:aD)(ta:TA):TI:=fun σ H R=>ta σ H fun vs H1=>∃l,vs=[.ref l]∧(∃xs,aU K H1 l xs)∧R (tL K l) H1
section
variable {X:Cx}
theorem C9{elts:List Expr}{k:Nat}{pM:Pos}{a:Expr}{ta:TA}{p pos:Pos}(hg:Gl X "enumerate")(hm:X.mg "enumerate"=none)(ha:PA X [a] ta)(hs:starEach [a] X.env=[(false,eval a X.env)]:=by rfl) :
  PI X (.Tuple elts k pM) (.Call (.Name "enumerate" p) [a] [] pos) (Kn X.K ta):=by
 intro pins s σ H R I h;refine Call_ (ko I hg hm boot_enumerate (rM (aJ (ha pos pins s σ H _ I h) fun us s1 ⟨vs,H1,I1,r1,q1⟩=>?_) hs rfl));obtain ⟨l,e,⟨xs,pY⟩,q⟩:=q1;subst e;obtain ⟨u,rfl,ru⟩:=vals1 r1;cases ru;obtain ⟨its,rv,p1,_⟩:=I1.list pY;refine call_enumerate_list p1.isList fun h' z1 z2 z3 z4=>?_;refine wpAny_pyIter_enum (s:={s1 with heap:=h'}) z1 ?_;refine ⟨_,_,_,_,H1,rfl,I1.kept (t':=s1.toks) z4,Km (Nat.succ_ne_self _),⟨⟨_,z1⟩,z2⟩,fun b hb=>?_,q⟩;have le:s1.heap.objs.size≤b:=by
  simp only [bE,mM,or_false] at hb;rcases hb with rfl | rfl;·exact Nat.le_add_right ..
  ·exact av _
 exact I1.sI le (I1.ax.fresh le)
end
theorem C_{xs:List V}{g:TG}{tb:TS}{D:Ends}{σ:St}{H:Hp}(Pv:Nat→St→Hp→Prop)(h0:Pv 0 σ H)(hl:∀i σ H,Pv i σ H→aU K H l xs)
  (hs:∀(i:Nat) (x:V) σ H T,xs[i]?=some x→Pv i σ H→H T=none→g (.ref T) σ (upd H T (.tup [.int (i:Int),x])) fun σ2 H2=>tb {D with nx:=Pv (i+1),ct:=Pv (i+1),bk:=D.nx} σ2 H2) (hd:∀σ H,Pv xs.length σ H→D.nx σ H) :
  ∃W:Nat→Nat→St→Hp→Prop,(∃m,W 0 m σ H)∧∀i m σ H,W i m σ H→
   ((tL K l).stop i H∧D.nx σ H)∨((tL K l).go i H∧∃N:St→Hp→Prop,(∀σ' H',N σ' H'→∃m',m'<m∧W (i+1) m' σ' H')∧∀x H',(tL K l).en i H x H'→g x σ H' fun σ2 H2=>tb {D with nx:=N,ct:=N,bk:=D.nx} σ2 H2):=by
 refine ⟨fun i m σ H=>m=xs.length-i∧i≤xs.length∧Pv i σ H,⟨xs.length,by simp,bD _,h0⟩,?_⟩
 rintro i m σ H ⟨rfl,hi,p⟩;have q1:=hl i σ H p;by_cases aZ:i<xs.length
 ·refine .inr ⟨⟨xs,xs[i],q1,by simp [aZ]⟩,Pv (i+1),fun σ' H' p'=>⟨xs.length-(i+1),by omega,rfl,aZ,p'⟩,fun v H' hy=>?_⟩
  obtain ⟨T,x,nT,rfl,rfl,hx⟩:=hy;exact hs i x σ H T (hx xs q1) p nT
 ·have e:i=xs.length:=by omega
  subst e;exact .inl ⟨⟨xs,q1,av _⟩,hd σ H p⟩
def Ko(K:aD):V→V→Hp→VK→Prop:=fun o i H Q=>∃p xs k v,o=.ref p∧i=.int k∧0≤k∧aU K H p xs∧fQ xs k=some v∧Q v H
theorem Kp{X:Cx}:B6 X (Ko X.K):=by
 intro pins s σ H o i ov iv Q I ro ri h;obtain ⟨p,xs,k,z,rfl,rfl,h0,hq,he,q⟩:=h;cases ro;obtain ⟨t,rfl⟩:=ri;obtain ⟨its,r,pl,hz⟩:=I.list hq;obtain ⟨j,h1,h2,h3,h4,h5⟩:=yR he;obtain ⟨w,ew,kA⟩:=r.get h2;have hl:=r.length;have hn:=pQ;have hj:k.toNat=j:=by rw [seqIndex_of h0 h5] at h1;exact Option.some.inj h1
 exact wpAny_getItem_list pl.isList h0 (by omega) (by rw [hj];simpa using ew) ⟨z,H,I,kA,q⟩
end L2
namespace My
open PySem L2
end My
namespace L2
open PySem PySem.Spec PyProof.Rows
section
variable {X:Cx} {tg:Expr}
end
section
variable {X:Cx} {e:Expr} {te:TE} {pos p2:Pos}
end
end L2
namespace My
open PySem L2
theorem Kq:∀place:Nat,(List.replicate ((place:Int).toNat) [V.int 0]).flatten=(List.replicate place (0:Int)).map V.int:=fun place=>by
 rw [dH,List.map_replicate]
 induction place with
 | zero=>rfl
 | succ m ih=>rw [k6,pb,ih,k6];rfl
theorem zb{wi:TI}{ρ:St→St}{te:TE}{σ:St}{H:Hp}{Q:VK}{xs:List V}{n:Nat}(hl:xs.length=n)(fV:∀R:It→Hp→Prop,(∀J H1,ak H H1→jQ J xs H1→R J H1)→wi σ H R)(hn:n<sizeLine)
  (P:Addr→Nat→Addr→Hp→Prop) (mono:∀D i y H H' ys,P D i y H→y≠D→H D=some (.lst ys)→(∀b o,b≠D→H b=some o→H' b=some o)→P D i y H')
  (step:∀D (i:Nat) (x:V),xs[i]?=some x→∀(Hc:Hp) (R:VK),ak H Hc→(∃ys,Hc D=some (.lst ys))→(∀y H3,ak Hc H3→Hc y=none→(∃o,H3 y=some o)→P D i y H3→R (.ref y) H3)→te (some x::ρ σ) Hc R)
  (fin:∀D (A:Nat→Addr) Hc,H D=none→ak H Hc→(∀i j,i<n→j<n→A i=A j→i=j)→(∀i,i<n→P D i (A i) Hc∧A i≠D)→Hc D=some (.lst ((List.range n).map fun i=>V.ref (A i)))→Q (.ref D) Hc):fw wi ρ (fun _ H Q=>Q true H) te σ H Q:=by
 refine fV _ fun J H1 s1 js=>?_;intro D nD;have hD:H D=none:=by
  cases e:H D with
  | none=>rfl
  | some o=>rw [s1 _ _ e] at nD;cases nD
 refine ⟨fun i m ys Hc=>m=n-i∧i≤n∧Hc D=some (.lst ys)∧ak H1 Hc∧∃A:Nat→Addr,ys=(List.range i).map (fun j=>V.ref (A j))∧(∀a b,a<i→b<i→A a=A b→a=b)∧∀j,j<i→P D j (A j) Hc∧A j≠D∧∃o,Hc (A j)=some o,⟨_,rfl,bD _,aw,eZ (ak.refl H1) nD,fun _=>D,rfl,(fun a b h=>by omega),fun j h=>by omega⟩,?_⟩
 rintro i m ys Hc ⟨rfl,hi,eD,sH,A,rfl,inj,hA⟩;refine ⟨eD,?_⟩;by_cases aZ:i<n
 ·refine .inr ⟨js.go i Hc sH (by omega),fun x H' hy=>?_⟩
  obtain ⟨rfl,hx⟩:=js.en i Hc x H' sH hy;rw [ae rfl];refine step D i x (hx (by omega)) _ _ (s1.trans sH) ⟨_,eD⟩ fun y H3 s3 ny ⟨o,ho⟩ hp=>?_
  have e3:=s3 _ _ eD;have yD:y≠D:=fun e=>by rw [e,eD] at ny;cases ny
  have bA:∀b o,b≠D→H3 b=some o→upd H3 D (.lst ((List.range i).map (fun j=>V.ref (A j))++[.ref y])) b=some o:=fun b o nb e=>by rw [aE nb];exact e
  have nA:∀j,j<i→A j≠y:=fun j hj e=>by obtain ⟨_,_,o',h'⟩:=hA j hj;rw [e,ny] at h';cases h'
  refine ⟨e3,by simp;omega,n-(i+1),by omega,rfl,aZ,aw,eZ (sH.trans s3) nD,fun j=>if j=i then y else A j,?_,fun a b ha hb e=>?_,fun j hj=>?_⟩
  ·rw [pB,j_]
   congr 1
   ·refine gM fun j hj=>?_
    dsimp only;rw [aa (by have:=cL.mp hj;omega)]
   ·simp
  ·dsimp only at e
   by_cases z1:a=i
   ·by_cases z2:b=i
    ·omega
    ·rw [ae z1,aa z2] at e
     exact absurd e.symm (nA b (by omega))
   ·by_cases z2:b=i
    ·rw [aa z1,ae z2] at e
     exact absurd e (nA a (by omega))
    ·rw [aa z1,aa z2] at e
     exact inj a b (by omega) (by omega) e
  ·dsimp only
   by_cases z:j=i
   ·rw [ae z,z]
    exact ⟨mono D i y H3 _ _ hp yD e3 bA,yD,o,bA _ _ yD ho⟩
   ·rw [aa z]
    obtain ⟨h1,h2,o',h3⟩:=hA j (by omega)
    exact ⟨mono D j (A j) H' _ _ h1 h2 eD (fun b o nb e=>bA b o nb (s3 _ _ e)),h2,o',bA _ _ h2 (s3 _ _ h3)⟩
 ·have e:i=n:=by omega
  subst e;exact .inl ⟨js.stop _ Hc sH (by omega),fin D A Hc hD (s1.trans sH) inj (fun j hj=>⟨(hA j hj).1,(hA j hj).2.1⟩) eD⟩
end My
namespace L2
open PySem PySem.Spec PyProof.Rows
theorem Kr{xs ys:List Int}(h:xs.length=ys.length):((List.range xs.length).all fun j=>dU (.int (xs.getD j 0)) (.int (ys.getD j 0)))=decide (xs=ys):=by
 by_cases e:xs=ys
 ·subst e
  rw [bF rfl,pj];intro j _;exact vS rfl
 ·rw [bX e]
  cases z:((List.range xs.length).all fun j=>dU (.int (xs.getD j 0)) (.int (ys.getD j 0))) with
  | false=>rfl
  | true=>refine absurd (gx h fun j h1 h2=>?_) e;have:=pj.mp z j (cL.mpr h1);have this:(xs.getD j 0 == ys.getD j 0)=true:=this;rw [beq_iff_eq,dG,dG] at this;simpa [h1,h2] using this
end L2
namespace My
open PySem L2
end My
namespace L2
open PySem PySem.Spec PyProof.Rows
end L2
namespace My
open PySem L2
end My
namespace L2
open PySem PySem.Spec PyProof.Rows
section
variable {X:Cx}
end
end L2
namespace My
open PySem L2
end My
namespace L2
open PySem PySem.Spec PyProof.Rows
end L2
namespace My
open PySem L2
end My
namespace L2
open PySem PySem.Spec PyProof.Rows
section
variable {X:Cx} {N:List Str} {scope:Scope} {cl:List (Str×Addr)} {x y:Str} {px py pos tp:Pos} {JW:Nat} {iter elt:Expr} {ifs:List Expr} {wi:TI} {ρ:St→St} {tt:TT} {te:TE}
end
inductive Tr where
 | fl (v:V)
 | ls (xs:List Tr)
 | tp (xs:List Tr)
 | dc
inductive i7 (H:Hp):Tr→V→Prop where
 | fl {v:V} (h:iq v=true):i7 H (.fl v) v
 | ls {a:Addr} {vs:List V} {ts:List Tr} (e:H a=some (.lst vs)) (l:vs.length=ts.length) (h:∀(i:Nat) (v:V) (t:Tr),vs[i]?=some v→ts[i]?=some t→i7 H t v):i7 H (.ls ts) (.ref a)
 | tp {a:Addr} {vs:List V} {ts:List Tr} (e:H a=some (.tup vs)) (l:vs.length=ts.length) (h:∀(i:Nat) (v:V) (t:Tr),vs[i]?=some v→ts[i]?=some t→i7 H t v):i7 H (.tp ts) (.ref a)
 | dc {a:Addr} (e:H a=some (yZ a)):i7 H .dc (.ref a)
def Tr.In:Nat→Tr→Prop
 | _,.fl _=>True
 | _,.dc=>True
 | 0,.ls _=>False
 | 0,.tp _=>False
 | n+1,.ls ts=>∀t∈ts,t.In n
 | n+1,.tp ts=>∀t∈ts,t.In n
section
variable {X:Cx} {pins:aG} {σ:St} {H:Hp} {s:Shared}
variable {A:Around} {a b:Addr}
theorem Dc(ha:gA a s.heap)(hb:gA b s.heap)(hu:A.units<cLine):SeqAt.RcAt A s (.ref a) (.ref b) true:=fun prog w E Q h=>by obtain ⟨o,ep,e,c,d,z⟩:=ha;obtain ⟨o',h_,e',c',d',z'⟩:=hb;exact PySem.W.keq_eq (knd:=fi prog w) (ka:=[]) (kb:=[]) z z' ⟨o,#[],ep,e,c,d,fun _ h=>by simp at h,.nil,jx⟩ ⟨o',#[],h_,e',c',d',fun _ h=>by simp at h,.nil,jx⟩ hu (fun _=>.nil) h
theorem Ks(ha:gA a s.heap)(hb:gA b s.heap)(hu:A.units<cLine):SeqAt.RcNeAt A s (.ref a) (.ref b) false:=fun prog w E Q h=>by obtain ⟨o,ep,e,c,d,z⟩:=ha;obtain ⟨o',h_,e',c',d',z'⟩:=hb;exact PySem.W.keq_ne (knd:=fi prog w) (ka:=[]) (kb:=[]) z z' ⟨o,#[],ep,e,c,d,fun _ h=>by simp at h,.nil,jx⟩ ⟨o',#[],h_,e',c',d',fun _ h=>by simp at h,.nil,jx⟩ hu (fun _=>.nil) h
theorem vY{xs ys:List V}{us vs:List Value}(r1:Vals xs us)(r2:Vals ys vs){j:Nat}(h1:j<us.length)(h2:j<vs.length):∃x y,xs[j]?=some x∧ys[j]?=some y∧RelV x us.toArray[j]∧RelV y vs.toArray[j]:=by
 have l1:=r1.length;have l2:=r2.length;obtain ⟨x,ex⟩:∃x,xs[j]?=some x:=⟨xs[j],by simp [show j<xs.length by omega]⟩
 obtain ⟨y,ey⟩:∃y,ys[j]?=some y:=⟨ys[j],by simp [show j<ys.length by omega]⟩
 obtain ⟨x',mW,rx⟩:=r1.get ex;obtain ⟨y',tN,ry⟩:=r2.get ey;have e1:us.toArray[j]=x':=by simpa using (bG.mp mW).2
 have e2:vs.toArray[j]=y':=by simpa using (bG.mp tN).2
 exact ⟨x,y,ex,ey,by rw [e1];exact rx,by rw [e2];exact ry⟩
theorem De(I:Inv X pins σ H s):∀(n:Nat) (A:Around) (t:Tr) (v u:V) (a b:Value),t.In n→i7 H t v→i7 H t u→RelV v a→RelV u b→A.units+n<cLine→SeqAt.EqAt A s a b true:=by
 intro n
 induction n with
 | zero=>
  intro A t v u a b hn h1 h2 ra rb hu;cases h1 with
  | fl h=>
   cases h2 with
   | fl _=>have z:=nB (A:=A) (s:=s) ra rb h h;rw [vS h] at z;exact z
  | ls e l h=>exact hn.elim
  | tp e l h=>exact hn.elim
  | @dc p e=>
   cases h2 with
   | @dc p' e'=>
    cases ra;cases rb;by_cases pq:p=p';·subst pq;exact SeqAt.EqAt.same _
    ·exact pC pq (Dc (show bu X.prog X.w H s.heap p (.ext (gA p)) from I.ax p _ e).1 (show bu X.prog X.w H s.heap p' (.ext (gA p')) from I.ax p' _ e').1 hu)
 | succ n ih=>
  intro A t v u a b hn h1 h2 ra rb hu;cases h1 with
  | fl h=>
   cases h2 with
   | fl _=>have z:=nB (A:=A) (s:=s) ra rb h h;rw [vS h] at z;exact z
  | @dc p e=>
   cases h2 with
   | @dc p' e'=>
    cases ra;cases rb;by_cases pq:p=p';·subst pq;exact SeqAt.EqAt.same _
    ·exact pC pq (Dc (show bu X.prog X.w H s.heap p (.ext (gA p)) from I.ax p _ e).1 (show bu X.prog X.w H s.heap p' (.ext (gA p')) from I.ax p' _ e').1 (by omega))
  | @ls p xs ts e l h=>
   cases h2 with
   | @ls p' ys _ e' l' h'=>
    cases ra;cases rb;by_cases pq:p=p';·subst pq;exact SeqAt.EqAt.same _
    obtain ⟨us,r1,t1,_⟩:=I.list (.of e);obtain ⟨vs,r2,t2,_⟩:=I.list (.of e');have l1:=r1.length;have l2:=r2.length;have z:=SeqAt.RcAt.lists (A:=A) (e:=fun _=>true) t1.isList t2.isList (by simp;omega) (by omega) (fun j z1 z2=>by
     obtain ⟨x,y,ex,ey,rx,ry⟩:=vY r1 r2 (by simpa using z1) (by simpa using z2)
     have jt:j<ts.length:=by have:=(bG.mp ex).1;omega
     exact ih A.in1 ts[j] x y _ _ (hn _ (cR jt)) (h j x _ ex (by simp [jt])) (h' j y _ ey (by simp [jt])) rx ry (by rw [mO];omega))
    rw [all_range] at z;exact pC pq z
  | @tp p xs ts e l h=>
   cases h2 with
   | @tp p' ys _ e' l' h'=>
    cases ra;cases rb;by_cases pq:p=p';·subst pq;exact SeqAt.EqAt.same _
    obtain ⟨us,r1,t1,_⟩:=I.tuple (.of e);obtain ⟨vs,r2,t2,_⟩:=I.tuple (.of e');have l1:=r1.length;have l2:=r2.length;have z:=SeqAt.RcAt.tuples (A:=A) (e:=fun _=>true) t1 t2 (by omega) (fun j z1 z2=>by
     obtain ⟨x,y,ex,ey,rx,ry⟩:=vY r1 r2 (by simpa using z1) (by simpa using z2)
     have jt:j<ts.length:=by have:=(bG.mp ex).1;omega
     exact ih A.in1 ts[j] x y _ _ (hn _ (cR jt)) (h j x _ ex (by simp [jt])) (h' j y _ ey (by simp [jt])) rx ry (by rw [mO];omega))
    have e3:(us.toArray.size == vs.toArray.size)=true:=by simp;omega
    rw [all_range,e3] at z;exact pC pq z
end
def Kt(n:Nat):R2:=fun x y H Q=>∃t:Tr,t.In n∧i7 H t x∧i7 H t y∧Q (.bl false) H
theorem Ku{v:V}(h:iq v=true):yJ v v=true:=by cases v <;> first | rfl | cases h
theorem Kv{X:Cx}{n:Nat}(hu:X.A.units+64<cLine)(hn:n<60:=by decide):b7 X (compareOp .NotEq) (Kt n):=by
 intro pins s σ H x y v u Q I rx ry h;obtain ⟨t,vZ,h1,h2,q⟩:=h;cases h1 with
 | fl h=>
  cases h2 with
  | fl _=>refine vz pins s σ H x x v u Q I rx ry ⟨Ku h,?_⟩;rw [bF rfl];exact q
 | @dc p e=>
  cases h2 with
  | @dc p' e'=>cases rx;cases ry;exact (Ks (show bu X.prog X.w H s.heap p (.ext (gA p)) from I.ax p _ e).1 (show bu X.prog X.w H s.heap p' (.ext (gA p')) from I.ax p' _ e').1 (by omega)) _ _ _ _ ⟨.bl false,H,I,rfl,q⟩
 | @ls p xs ts e l h=>
  cases h2 with
  | @ls p' ys _ e' l' h'=>
   cases rx;cases ry;cases n with
   | zero=>exact vZ.elim
   | succ n=>
    obtain ⟨us,r1,t1,_⟩:=I.list (.of e);obtain ⟨vs,r2,t2,_⟩:=I.list (.of e');have l1:=r1.length;have l2:=r2.length;refine SeqAt.RcNeAt.lists (e:=fun _=>true) t1.isList t2.isList (by simp;omega) (by omega) (fun j z1 z2=>?_) _ _ _ _ ?_
    ·obtain ⟨x,y,ex,ey,rx,ry⟩:=vY r1 r2 (by simpa using z1) (by simpa using z2)
     have jt:j<ts.length:=by have:=(bG.mp ex).1;omega
     exact De I n X.A.in1 ts[j] x y _ _ (vZ _ (cR jt)) (h j x _ ex (by simp [jt])) (h' j y _ ey (by simp [jt])) rx ry (by rw [mO];omega)
    ·rw [all_range]
     exact ⟨.bl false,H,I,rfl,q⟩
 | @tp p xs ts e l h=>
  cases h2 with
  | @tp p' ys _ e' l' h'=>
   cases rx;cases ry;cases n with
   | zero=>exact vZ.elim
   | succ n=>
    obtain ⟨us,r1,t1,_⟩:=I.tuple (.of e);obtain ⟨vs,r2,t2,_⟩:=I.tuple (.of e');have l1:=r1.length;have l2:=r2.length;refine SeqAt.RcNeAt.tuples (e:=fun _=>true) t1 t2 (by omega) (fun j z1 z2=>?_) _ _ _ _ ?_
    ·obtain ⟨x,y,ex,ey,rx,ry⟩:=vY r1 r2 (by simpa using z1) (by simpa using z2)
     have jt:j<ts.length:=by have:=(bG.mp ex).1;omega
     exact De I n X.A.in1 ts[j] x y _ _ (vZ _ (cR jt)) (h j x _ ex (by simp [jt])) (h' j y _ ey (by simp [jt])) rx ry (by rw [mO];omega)
    ·have e3:(us.toArray.size == vs.toArray.size)=true:=by simp;omega
     rw [all_range,e3];exact ⟨.bl false,H,I,rfl,q⟩
end L2
namespace My
open PySem PySem.W PyProof.Rows
section
variable {n:Nat} {c:Nat→Int}
def jS(n:Nat)(p:Array Nat):Prop:=p.Perm (List.toArray (List.range n))
theorem jS.size{p:Array Nat}(h:jS n p):p.size=n:=by rw [Array.Perm.size_eq h];simp
def vN(c:Nat→Int)(p:Array Nat)(i:Nat):Int:=c (p.getD i 0)
def lY(c:Nat→Int)(p:Array Nat)(k:Nat):Prop:=∀a b,a≤b→b<k→vN c p a≤vN c p b
end
end My
namespace Tm
open PySem PySem.W PyProof.Rows
def lZ:Bool→Keyed→Array Keyed→Nat→Nat→Nat→StateT SortSt Sem (Option Nat):=sortPriv% PySem.Builtin.gallop
def tO:Nat→StateT SortSt Sem Unit:=sortPriv% PySem.Builtin.setMinGallop
def zc:Array Keyed→Array Keyed→StateT SortSt Sem (Array Keyed):=sortPriv% PySem.Builtin.mergeLo
def zd:Array Keyed→Array Keyed→StateT SortSt Sem (Array Keyed):=sortPriv% PySem.Builtin.mergeHi
def nI(left:Bool)(key:Keyed)(arr:Array Keyed)(base i:Nat):StateT SortSt Sem (Option Bool):=do
 let x ←elem' arr (base+i)
 if left then lt' x key else return (←lt' key x).map (!·)
theorem Kw(left:Bool)(key:Keyed)(arr:Array Keyed)(base n hint:Nat):lZ left key arr base n hint=(do
 let mut v9:=0
 let mut a9:=1
 let mut lo:=0
 let mut hi:=0
 let some right ←nI left key arr base hint | return none
 if right then
  let tP:=n-hint
  for _ in [0:n] do
   if a9≥tP then break
   let some more ←nI left key arr base (hint+a9) | return none
   if !more then break
   v9:=a9
   a9:=2*a9+1
  lo:=hint+v9+1
  hi:=hint+min a9 tP
 else
  let tP:=hint+1
  for _ in [0:n] do
   if a9≥tP then break
   let some found ←nI left key arr base (hint-a9) | return none
   if found then break
   v9:=a9
   a9:=2*a9+1
  lo:=hint+1-min a9 tP
  hi:=hint-v9
 for _ in [0:n] do
  if lo≥hi then break
  let m:=lo+(hi-lo) / 2
  let some more ←nI left key arr base m | return none
  if more then lo:=m+1 else hi:=m
 return some hi):=rfl
section
variable {prog:Program} {w:World} {A:Around} {E:aI} {s:Shared} {κ:SortKind} {key:Keyed→Int} {Ok:Keyed→Prop}
def iz(prog:Program)(w:World)(A:Around)(s:Shared)(κ:SortKind)(key:Keyed→Int)(Ok:Keyed→Prop):Prop:=
 ∀x y,Ok x→Ok y→∀C:Bool→Shared→Prop,C (decide (key x<key y)) s→wpAny (model prog w) A (keyLt' κ x.1 y.1) C (fun _ _=>False) s
variable {Q:Option Bool→SortSt→Prop}
theorem tQ(h:iz prog w A s κ key Ok){x y:Keyed}(ox:Ok x)(oy:Ok y){st:SortSt}(hk:kindOf st=κ)(q:Q (some (decide (key x<key y))) st):wpS (model prog w) A E s (lt' x y) Q st:=by rw [lt'_eq];refine aq (gN ?_);rw [hk];refine aq (wpS_lift (wpAny_attempt (cy (h x y ox oy (fun c s'=>s'=s∧wpS (model prog w) A E s (pure (some c)) Q st) ⟨rfl,ao q⟩) (fun c s' hc=>?_) fun _ _ hF=>hF.elim)));exact hc
def nn:Keyed:=(Value.none,Value.none)
variable {arr:Array Keyed} {i:Nat}
theorem a_(hi:i<arr.size){st:SortSt}{Q:Keyed→SortSt→Prop}(q:Q (arr.getD i nn) st):wpS (model prog w) A E s (elem' arr i) Q st:=by
 rw [elem'_eq];have e:arr[i]?=some (arr.getD i nn):=by simp [Array.getD,hi]
 rw [e];exact ao q
def eA(Ok:Keyed→Prop)(arr:Array Keyed):Prop:=∀i,i<arr.size→Ok (arr.getD i nn)
def bB(left:Bool)(k a:Int):Bool:=if left=true then decide (a<k) else !decide (k<a)
variable {left:Bool} {kx:Keyed} {base:Nat}
theorem gD(h:iz prog w A s κ key Ok)(hi:base+i<arr.size)(ha:eA Ok arr)(ox:Ok kx){st:SortSt}(hk:kindOf st=κ)(q:Q (some (bB left (key kx) (key (arr.getD (base+i) nn)))) st):wpS (model prog w) A E s (nI left kx arr base i) Q st:=by
 unfold nI;refine aq (a_ hi ?_);unfold bB at q;cases left with
 | true=>rw [ae rfl] at q ⊢;exact tQ h (ha _ hi) ox hk q
 | false=>
  rw [aa (by simp)] at q ⊢
  exact aq (tQ h ox (ha _ hi) hk (ao q))
theorem gE{n hint:Nat}{f:Nat→Bool}{st:SortSt}
  (hb:∀i,i<n→∀Q:Option Bool→SortSt→Prop,Q (some (f i)) st→wpS (model prog w) A E s (nI left kx arr base i) Q st)
  (hh:hint<n) (mono:∀i j,i≤j→j<n→f j=true→f i=true) {Q:Option Nat→SortSt→Prop}
  (k:∀m,m≤n→(∀i,i<m→f i=true)→(∀i,m≤i→i<n→f i=false)→Q (some m) st):wpS (model prog w) A E s (lZ left kx arr base n hint) Q st:=by
 rw [Kw];refine aq (hb hint hh _ ?_);dsimp only;have ze:∀i j,i≤j→j<n→f i=false→f j=false:=fun i j h1 h2 h3=>by
  cases e:f j with
  | false=>rfl
  | true=>rw [mono i j h1 h2 e] at h3;cases h3
 have bs:∀(lo hi:Nat) (body:Nat→Option (Option Nat)×Nat×Nat→StateT SortSt Sem (ForInStep (Option (Option Nat)×Nat×Nat))) (R:Option (Option Nat)×Nat×Nat→SortSt→Prop),lo≤hi→hi≤n→(∀i,i<lo→f i=true)→(∀i,hi≤i→i<n→f i=false)→
   (∀x lo hi (R:ForInStep (Option (Option Nat)×Nat×Nat)→SortSt→Prop),lo≥hi→R (.done (none,lo,hi)) st→wpS (model prog w) A E s (body x (none,lo,hi)) R st)→
   (∀x lo hi (R:ForInStep (Option (Option Nat)×Nat×Nat)→SortSt→Prop),lo<hi→hi≤n→R (.yield (if f (lo+(hi-lo) / 2)=true then (none,lo+(hi-lo) / 2+1,hi) else (none,lo,lo+(hi-lo) / 2))) st→wpS (model prog w) A E s (body x (none,lo,hi)) R st)→
   (∀m,m≤n→(∀i,i<m→f i=true)→(∀i,m≤i→i<n→f i=false)→R (none,m,m) st)→
   wpS (model prog w) A E s (forIn [0:n] (none,lo,hi) body) R st:=fun lo hi body R h1 h2 h3 h4 b1 b2 kk=>by
  refine eE (I:=fun x c ar=>ar=st∧∃lo hi,c=(none,lo,hi)∧lo≤hi∧hi≤n∧hi-lo+x≤n∧(∀i,i<lo→f i=true)∧(∀i,hi≤i→i<n→f i=false)) ?_ ?_ ⟨rfl,lo,hi,rfl,h1,h2,by omega,h3,h4⟩
  ·rintro x c ar _ hx ⟨rfl,lo,hi,rfl,g1,g2,g3,g4,g5⟩
   by_cases z:lo≥hi
   ·refine b1 x lo hi _ z ?_
    obtain rfl:lo=hi:=by omega
    exact kk lo g2 g4 g5
   ·refine b2 x lo hi _ (by omega) g2 ?_
    cases e:f (lo+(hi-lo) / 2) with
    | true=>rw [ae rfl];exact ⟨rfl,_,_,rfl,by omega,g2,by omega,fun i bh=>mono i (lo+(hi-lo) / 2) (by omega) (by omega) e,g5⟩
    | false=>
     rw [aa (by simp)]
     exact ⟨rfl,_,_,rfl,by omega,by omega,by omega,g4,fun i h1 h2=>ze (lo+(hi-lo) / 2) i h1 h2 e⟩
  ·rintro c ar ⟨rfl,lo,hi,rfl,g1,g2,g3,g4,g5⟩
   have:lo=hi:=by
    have:max 0 n=n:=by omega
    omega
   subst this;exact kk lo g2 g4 g5
 cases e:f hint with
 | true=>
  rw [ae rfl]
  refine aq (eU (eE (I:=fun x c ar=>ar=st∧∃la a9,c=(none,la,a9)∧x+1≤a9∧la<a9∧la<n-hint∧f (hint+la)=true)
   (Q:=fun c ar=>ar=st∧∃la a9,c=(none,la,a9)∧la<a9∧la<n-hint∧f (hint+la)=true∧(a9≥n-hint∨f (hint+a9)=false)) ?_ ?_ ⟨rfl,0,1,rfl,av _,by omega,by omega,by simpa using e⟩) ?_)
  ·rintro x c ar _ hx ⟨rfl,la,a9,rfl,g1,g2,g3,g4⟩
   dsimp only;by_cases z:a9≥n-hint
   ·rw [ae z]
    exact ao ⟨rfl,la,a9,rfl,g2,g3,g4,.inl z⟩
   ·rw [aa z]
    refine aq (hb _ (by omega) _ ?_)
    dsimp only;cases e':f (hint+a9) with
    | true=>
     rw [aa (by simp)]
     exact ao ⟨rfl,_,_,rfl,by omega,by omega,by omega,e'⟩
    | false=>
     rw [ae (by simp)]
     exact ao ⟨rfl,la,a9,rfl,g2,g3,g4,.inr e'⟩
  ·rintro c ar ⟨rfl,la,a9,rfl,g1,g2,g3,g4⟩
   have:max 0 n=n:=by omega
   exact ⟨rfl,la,a9,rfl,g2,g3,g4,.inl (by omega)⟩
  ·rintro c ar ⟨rfl,la,a9,rfl,g2,g3,g4,g5⟩
   refine aq (bs (hint+la+1) (hint+min a9 (n-hint)) _ _ (by omega) (by omega) (fun i hi=>mono i (hint+la) (by omega) (by omega) g4) (fun i h1 h2=>?_) ?_ ?_ ?_)
   ·rcases g5 with g5 | g5
    ·omega
    ·by_cases z:a9≥n-hint
     ·omega
     ·exact ze (hint+a9) i (by omega) h2 g5
   ·intro x lo hi R z hR
    dsimp only;rw [ae z];exact ao hR
   ·intro x lo hi R z z2 hR
    dsimp only;rw [aa (by omega)]
    refine aq (hb _ (by omega) _ ?_)
    dsimp only;cases e:f (lo+(hi-lo) / 2) with
    | true=>rw [e,ae rfl] at hR;rw [ae rfl];exact ao hR
    | false=>
     rw [e,aa (by simp)] at hR
     rw [aa (by simp)]
     exact ao hR
   ·exact fun m m1 m2 m3=>ao (k m m1 m2 m3)
 | false=>
  rw [aa (by simp)]
  refine aq (eU (eE (I:=fun x c ar=>ar=st∧∃la a9,c=(none,la,a9)∧x+1≤a9∧la<a9∧la≤hint∧f (hint-la)=false)
   (Q:=fun c ar=>ar=st∧∃la a9,c=(none,la,a9)∧la<a9∧la≤hint∧f (hint-la)=false∧(a9≥hint+1∨f (hint-a9)=true)) ?_ ?_ ⟨rfl,0,1,rfl,av _,by omega,by omega,by simpa using e⟩) ?_)
  ·rintro x c ar _ hx ⟨rfl,la,a9,rfl,g1,g2,g3,g4⟩
   dsimp only;by_cases z:a9≥hint+1
   ·rw [ae z]
    exact ao ⟨rfl,la,a9,rfl,g2,g3,g4,.inl z⟩
   ·rw [aa z]
    refine aq (hb _ (by omega) _ ?_)
    dsimp only;cases e':f (hint-a9) with
    | true=>rw [ae rfl];exact ao ⟨rfl,la,a9,rfl,g2,g3,g4,.inr e'⟩
    | false=>
     rw [aa (by simp)]
     exact ao ⟨rfl,_,_,rfl,by omega,by omega,by omega,e'⟩
  ·rintro c ar ⟨rfl,la,a9,rfl,g1,g2,g3,g4⟩
   have:max 0 n=n:=by omega
   exact ⟨rfl,la,a9,rfl,g2,g3,g4,.inl (by omega)⟩
  ·rintro c ar ⟨rfl,la,a9,rfl,g2,g3,g4,g5⟩
   refine aq (bs (hint+1-min a9 (hint+1)) (hint-la) _ _ (by omega) (by omega) (fun i hi=>?_) (fun i h1 h2=>ze (hint-la) i (by omega) h2 g4) ?_ ?_ ?_)
   ·rcases g5 with g5 | g5
    ·omega
    ·by_cases z:a9≥hint+1
     ·omega
     ·exact mono i (hint-a9) (by omega) (by omega) g5
   ·intro x lo hi R z hR
    dsimp only;rw [ae z];exact ao hR
   ·intro x lo hi R z z2 hR
    dsimp only;rw [aa (by omega)]
    refine aq (hb _ (by omega) _ ?_)
    dsimp only;cases e:f (lo+(hi-lo) / 2) with
    | true=>rw [e,ae rfl] at hR;rw [ae rfl];exact ao hR
    | false=>
     rw [e,aa (by simp)] at hR
     rw [aa (by simp)]
     exact ao hR
   ·exact fun m m1 m2 m3=>ao (k m m1 m2 m3)
end
def a7(K:Keyed→Int)(l:List Keyed):Prop:=l.Pairwise fun x y=>K x≤K y
variable {K:Keyed→Int} {l:List Keyed}
theorem a7.take(h:a7 K l)(k:Nat):a7 K (l.take k):=List.Pairwise.sublist (List.take_sublist k l) h
theorem a7.drop(h:a7 K l)(k:Nat):a7 K (l.drop k):=List.Pairwise.sublist (List.drop_sublist k l) h
variable {m:List Keyed}
theorem a7.app(h:a7 K l)(h':a7 K m)(k:∀x∈l,∀y∈m,K x≤K y):a7 K (l++m):=List.pairwise_append.mpr ⟨h,h',k⟩
structure MI (K:Keyed→Int) (A B O:List Keyed) (i j:Nat):Prop where
 pm:O.Perm (A.take i++B.take j)
 so:a7 K O
 ca:∀x∈O,∀y∈A.drop i,K x≤K y
 cb:∀x∈O,∀y∈B.drop j,K x≤K y
variable {A B O:List Keyed} {i j:Nat}
theorem MI.flip(h:MI K A B O i j):MI K B A O j i:=⟨h.pm.trans mP,h.so,h.cb,h.ca⟩
theorem MI.v_(h:MI K A B O i j)(sA:a7 K A)(k:Nat)(hk:∀x∈(A.drop i).take k,∀y∈B.drop j,K x≤K y):MI K A B (O++(A.drop i).take k) (i+k) j:=by
 have e:A.take (i+k)=A.take i++(A.drop i).take k:=List.take_add;have d:A.drop (i+k)=(A.drop i).drop k:=by rw [List.drop_drop]
 have sd:=sA.drop i;have sp:(A.drop i).take k++(A.drop i).drop k=A.drop i:=mQ ..;have cr:∀x∈(A.drop i).take k,∀y∈(A.drop i).drop k,K x≤K y:=by have:=sd;rw [←sp] at this;exact (List.pairwise_append.mp this).2.2
 refine ⟨?_,h.so.app (sd.take k) fun x hx y hy=>h.ca x hx y (List.mem_of_mem_take hy),fun x hx y hy=>?_,fun x hx y hy=>?_⟩
 ·rw [e]
  refine (h.pm.append_right _).trans ?_;rw [fg,fg];exact yj _ mP
 ·rw [d] at hy
  rcases dw.mp hx with hx | hx;·exact h.ca x hx y (List.mem_of_mem_drop hy)
  ·exact cr x hx y hy
 ·rcases dw.mp hx with hx | hx
  ·exact h.cb x hx y hy
  ·exact hk x hx y hy
theorem MI.zf(h:MI K A B O i j)(sB:a7 K B)(k:Nat)(hk:∀x∈(B.drop j).take k,∀y∈A.drop i,K x≤K y):MI K A B (O++(B.drop j).take k) i (j+k):=(h.flip.v_ sB k hk).flip
theorem MI.done(h:MI K A B O i j)(sA:a7 K A)(sB:a7 K B)(k:∀x∈A.drop i,∀y∈B.drop j,K x≤K y):(O++A.drop i++B.drop j).Perm (A++B)∧a7 K (O++A.drop i++B.drop j):=by
 refine ⟨?_,(h.so.app (sA.drop i) h.ca).app (sB.drop j) fun x hx y hy=>?_⟩
 ·have e1:A.take i++A.drop i=A:=mQ ..
  have e2:B.take j++B.drop j=B:=mQ ..;have:(A.take i++B.take j++A.drop i++B.drop j).Perm ((A.take i++A.drop i)++(B.take j++B.drop j)):=by rw [fg,fg,fg];refine yj _ ?_;rw [←fg,←fg];exact List.Perm.append_right _ mP
  rw [e1,e2] at this;exact ((h.pm.append_right _).append_right _).trans this
 ·rcases dw.mp hx with hx | hx
  ·exact h.cb x hx y hy
  ·exact k x hx y hy
theorem MI.Df(h:MI K A B O i j)(sA:a7 K A)(sB:a7 K B)(k:∀x∈A.drop i,∀y∈B.drop j,K y≤K x):(O++B.drop j++A.drop i).Perm (A++B)∧a7 K (O++B.drop j++A.drop i):=by have:=h.flip.done sB sA fun x hx y hy=>k y hy x hx;exact ⟨this.1.trans mP,this.2⟩
theorem Kx(a b:Array Keyed):zc a b=(do
 rule "list.sort.merge-lo"
 let total:=a.size+b.size
 let done (out:Array Keyed) (ia ib:Nat):=out++a.extract ia a.size++b.extract ib b.size
 let wa (out:Array Keyed) (ia ib:Nat):=out++b.extract ib b.size++a.extract ia a.size
 let mut out:Array Keyed:=#[←elem' b 0]
 let mut ia:=0
 let mut ib:=1
 if ib == b.size then return done out ia ib
 if ia+1 == a.size then return wa out ia ib
 let mut minGallop:=gallopOf (←get)
 for _ in [0:total] do
  let mut gZ:=0
  let mut g6:=0
  for _ in [0:total] do
   let some Ky ←lt' (←elem' b ib) (←elem' a ia) | return done out ia ib
   if Ky then
    out:=out.push (←elem' b ib);ib:=ib+1;g6:=g6+1;gZ:=0
    if ib == b.size then return done out ia ib
    if g6≥minGallop then break
   else
    out:=out.push (←elem' a ia);ia:=ia+1;gZ:=gZ+1;g6:=0
    if ia+1 == a.size then return wa out ia ib
    if gZ≥minGallop then break
  rule "list.sort.gallop"
  minGallop:=minGallop+1
  for _ in [0:total] do
   if minGallop>1 then minGallop:=minGallop-1
   tO minGallop
   let some k ←lZ false (←elem' b ib) a ia (a.size-ia) 0 | return done out ia ib
   gZ:=k
   if k>0 then
    out:=out++a.extract ia (ia+k);ia:=ia+k
    if ia+1 == a.size then return wa out ia ib
    if ia == a.size then return done out ia ib
   out:=out.push (←elem' b ib);ib:=ib+1
   if ib == b.size then return done out ia ib
   let some k ←lZ true (←elem' a ia) b ib (b.size-ib) 0 | return done out ia ib
   g6:=k
   if k>0 then
    out:=out++b.extract ib (ib+k);ib:=ib+k
    if ib == b.size then return done out ia ib
   out:=out.push (←elem' a ia);ia:=ia+1
   if ia+1 == a.size then return wa out ia ib
   if gZ<7 && g6<7 then break
  minGallop:=minGallop+1
  tO minGallop
 unsupported "internal:list.sort.merge-bound"):=rfl
section
variable {prog:Program} {w:World} {A:Around} {E:aI} {s:Shared} {κ:SortKind} {key:Keyed→Int} {Ok:Keyed→Prop}
def setG(st:SortSt)(g:Nat):SortSt:=SortSt.mk' (kindOf st) (arrOf st) (pendingOf st) g (failedOf st)
variable {a:Array Keyed}
theorem tR(hi:i<a.size):(a.toList.drop i).take 1=[a.getD i nn]:=by
 have hl:i<a.toList.length:=by simpa using hi
 rw [List.drop_eq_getElem_cons hl];simp [Array.getD,hi]
theorem iC(a:Array Keyed)(i j:Nat):(a.extract i j).toList=(a.toList.drop i).take (j-i):=by rw [Array.toList_extract,List.extract_eq_take_drop]
theorem wb(a:Array Keyed)(i:Nat):(a.extract i a.size).toList=a.toList.drop i:=by rw [iC];refine yk ?_;simp
variable {x:Keyed}
theorem nJ(h:x∈a.toList.drop i):∃j,i≤j∧j<a.size∧x=a.getD j nn:=by
 obtain ⟨j,hj,rfl⟩:=u5 h;have dO:i+j<a.size:=by simp at hj;omega
 refine ⟨i+j,by omega,dO,?_⟩
 rw [List.getElem_drop];simp [Array.getD,dO]
theorem zg{k:Nat}(h:x∈(a.toList.drop i).take k):∃j,j<k∧i+j<a.size∧x=a.getD (i+j) nn:=by
 obtain ⟨j,hj,rfl⟩:=u5 h;have dO:i+j<a.size∧j<k:=by simp at hj;omega
 refine ⟨j,dO.2,dO.1,?_⟩;rw [List.getElem_take,List.getElem_drop];simp [Array.getD,dO.1]
theorem eK(h:a7 key a.toList)(zh:i≤j)(hj:j<a.size):key (a.getD i nn)≤key (a.getD j nn):=by
 have hi:i<a.size:=by omega
 by_cases e:i=j;·subst e;exact kd _
 ·have:=pD.mp h i j (by simpa using hi) (by simpa using hj) (by omega)
  simpa [Array.getD,hi,hj] using this
theorem dP{c:Prop}[Decidable c]{α:Type}{m1 m2:StateT SortSt Sem α}{Q:α→SortSt→Prop}{st:SortSt}(h1:c→wpS (model prog w) A E s m1 Q st)(h2:¬c→wpS (model prog w) A E s m2 Q st):wpS (model prog w) A E s (if c then m1 else m2) Q st:=by
 by_cases h:c;·rw [ae h];exact h1 h
 ·rw [aa h];exact h2 h
theorem p9{st:SortSt}{g:Nat}{Q:Unit→SortSt→Prop}(q:Q () (setG st g)):wpS (model prog w) A E s (tO g) Q st:=iT q
variable {k:Int}
theorem fX{a:Int}(h:bB true k a=true):a<k:=hV h
theorem gF{a:Int}(h:bB true k a=false):k≤a:=Int.not_lt.mp (of_decide_eq_false h)
theorem jT{a:Int}(h:bB false k a=true):a≤k:=by have:(!decide (k<a))=true:=h;simpa using this
theorem l5{a:Int}(h:bB false k a=false):k<a:=by have:(!decide (k<a))=false:=h;simpa using this
variable {b:Array Keyed} {o:Nat}
theorem l6(sb:a7 key b.toList):∀i j,i≤j→j<b.size-o→bB true k (key (b.getD (o+j) nn))=true→bB true k (key (b.getD (o+i) nn))=true:=fun i j h1 h2 h3=>bF (Int.lt_of_le_of_lt (eK sb (by omega) (by omega)) (fX h3))
theorem wc(sb:a7 key b.toList):∀i j,i≤j→j<b.size-o→bB false k (key (b.getD (o+j) nn))=true→bB false k (key (b.getD (o+i) nn))=true:=fun i j h1 h2 h3=>by
 have:key (b.getD (o+i) nn)≤k:=cG (eK sb (by omega) (by omega)) (jT h3)
 show (!decide (k<key (b.getD (o+i) nn)))=true;simpa using this
section
variable {a b:Array Keyed} (sa:a7 key a.toList) (sb:a7 key b.toList) {out:Array Keyed} {ia ib:Nat}
include sa sb
theorem p_(m:MI key a.toList b.toList out.toList ia ib)(hb:ib<b.size)(k:∀j,ia≤j→j<a.size→key (b.getD ib nn)≤key (a.getD j nn)):MI key a.toList b.toList (out.push (b.getD ib nn)).toList ia (ib+1):=by
 have:=m.zf sb 1 fun x hx y hy=>by rw [tR hb,dq] at hx;subst hx;obtain ⟨j,h1,h2,rfl⟩:=nJ hy;exact k j h1 h2
 rw [tR hb] at this;rw [k8];exact this
theorem kH(m:MI key a.toList b.toList out.toList ia ib)(ha:ia<a.size)(k:∀j,ib≤j→j<b.size→key (a.getD ia nn)≤key (b.getD j nn)):MI key a.toList b.toList (out.push (a.getD ia nn)).toList (ia+1) ib:=by
 have:=m.v_ sa 1 fun x hx y hy=>by rw [tR ha,dq] at hx;subst hx;obtain ⟨j,h1,h2,rfl⟩:=nJ hy;exact k j h1 h2
 rw [tR ha] at this;rw [k8];exact this
variable {n:Nat}
theorem Dg(m:MI key a.toList b.toList out.toList ia ib)(k:∀i j,i<n→ia+i<a.size→ib≤j→j<b.size→key (a.getD (ia+i) nn)≤key (b.getD j nn)):MI key a.toList b.toList (out++a.extract ia (ia+n)).toList (ia+n) ib:=by
 have:=m.v_ sa n fun x hx y hy=>by obtain ⟨i,h3,h4,rfl⟩:=zg hx;obtain ⟨j,h1,h2,rfl⟩:=nJ hy;exact k i j h3 h4 h1 h2
 rw [jy,iC,show ia+n-ia=n by omega]
 exact this
theorem wd(m:MI key a.toList b.toList out.toList ia ib)(k:∀i j,i<n→ib+i<b.size→ia≤j→j<a.size→key (b.getD (ib+i) nn)≤key (a.getD j nn)):MI key a.toList b.toList (out++b.extract ib (ib+n)).toList ia (ib+n):=by
 have:=m.zf sb n fun x hx y hy=>by obtain ⟨i,h3,h4,rfl⟩:=zg hx;obtain ⟨j,h1,h2,rfl⟩:=nJ hy;exact k i j h3 h4 h1 h2
 rw [jy,iC,show ib+n-ib=n by omega]
 exact this
theorem iD(m:MI key a.toList b.toList out.toList ia ib)(e:ib=b.size∨ia=a.size):(out++a.extract ia a.size++b.extract ib b.size).toList.Perm (a.toList++b.toList)∧a7 key (out++a.extract ia a.size++b.extract ib b.size).toList:=by rw [jy,jy,wb,wb];refine m.done sa sb fun x hx y hy=>?_;obtain ⟨i,h1,h2,_⟩:=nJ hx;obtain ⟨j,h3,h4,_⟩:=nJ hy;omega
theorem iE(m:MI key a.toList b.toList out.toList ia ib)(hl:∀y∈b.toList,key y≤key (a.getD (a.size-1) nn))(e:ia+1=a.size):(out++b.extract ib b.size++a.extract ia a.size).toList.Perm (a.toList++b.toList)∧a7 key (out++b.extract ib b.size++a.extract ia a.size).toList:=by
 rw [jy,jy,wb,wb];refine m.Df sa sb fun x hx y hy=>?_;obtain ⟨i,h1,h2,rfl⟩:=nJ hx;have:=hl y (List.mem_of_mem_drop hy);rw [show i=a.size-1 by omega]
 exact this
end
theorem Kz(h:iz prog w A s κ key Ok)(oa:eA Ok a)(ob:eA Ok b)(sa:a7 key a.toList)(sb:a7 key b.toList)(a1:1≤a.size)(b1:1≤b.size)
  (h0:∀x∈a.toList,key (b.getD 0 nn)≤key x) (hl:∀y∈b.toList,key y≤key (a.getD (a.size-1) nn)) {st:SortSt} (hk:kindOf st=κ) {Q:Array Keyed→SortSt→Prop}
  (q:∀m g,m.toList.Perm (a.toList++b.toList)→a7 key m.toList→Q m (setG st g)):wpS (model prog w) A E s (zc a b) Q st:=by
 rw [Kx];refine aq (wpS_lift (mR ⟨rfl,?_⟩));refine aq (a_ (by omega) ?_)
 dsimp only;have m0:MI key a.toList b.toList (#[b.getD 0 nn]:Array Keyed).toList 0 1:=by
  have:MI key a.toList b.toList (#[]:Array Keyed).toList 0 0:=⟨by simp,List.Pairwise.nil,fun x hx=>by simp at hx,fun x hx=>by simp at hx⟩
  exact p_ sa sb this (by omega) fun j _ hj=>h0 _ (by simp [Array.getD,hj])
 have e8:∀g,kindOf (setG st g)=κ:=fun _=>hk;by_cases e1:(1 == b.size)=true
 ·rw [ae e1]
  have:=iD sa sb m0 (.inl (eq_of_beq e1));exact ao (q _ (gallopOf st) this.1 this.2)
 rw [aa e1];by_cases e2:(0+1 == a.size)=true
 ·rw [ae e2]
  have:=iE sa sb m0 hl (eq_of_beq e2);exact ao (q _ (gallopOf st) this.1 this.2)
 rw [aa e2];have b2:1<b.size:=by
  have:1≠b.size:=fun e=>e1 (by simp [←e])
  omega
 have a2:0+1<a.size:=by
  have:0+1≠a.size:=fun e=>e2 (by simp [←e])
  omega
 refine aq (gN ?_)
 refine aq (eU (eE (I:=fun x c ar=>∃out ia ib mg g,c=(none,out,ia,ib,mg)∧ar=setG st g∧MI key a.toList b.toList out.toList ia ib∧ia+1<a.size∧ib<b.size∧x≤ia+ib)
  (Q:=fun c ar=>∃m g,c.1=some m∧ar=setG st g∧m.toList.Perm (a.toList++b.toList)∧a7 key m.toList) ?_ ?_ ⟨_,_,_,_,gallopOf st,rfl,rfl,m0,a2,b2,bD _⟩) ?_)
 ·rintro x c ar _ hx ⟨out,ia,ib,mg,g,rfl,rfl,mi,ha,hb,zi⟩
  dsimp only
  refine aq (eU (eE (I:=fun y c ar=>∃out fz fY ac bc,c=(none,out,fz,fY,ac,bc)∧ar=setG st g∧MI key a.toList b.toList out.toList fz fY∧fz+1<a.size∧fY<b.size∧ia+ib+y≤fz+fY)
   (Q:=fun c ar=>ar=setG st g∧((∃m,c.1=some m∧m.toList.Perm (a.toList++b.toList)∧a7 key m.toList)∨∃out fz fY ac bc,c=(none,out,fz,fY,ac,bc)∧MI key a.toList b.toList out.toList fz fY∧fz+1<a.size∧fY<b.size∧ia+ib+1≤fz+fY)) ?_ ?_ ⟨_,_,_,_,_,rfl,rfl,mi,ha,hb,av _⟩) ?_)
  ·rintro y c ar _ hy ⟨out,fz,fY,ac,bc,rfl,rfl,mi,ha,hb,fZ⟩
   dsimp only;refine aq (a_ hb (aq (a_ (by omega) (aq (tQ h (ob _ hb) (oa fz (by omega)) (e8 _) ?_)))))
   dsimp only;by_cases z:key (b.getD fY nn)<key (a.getD fz nn)
   ·rw [bF z,ae rfl]
    refine aq (a_ hb ?_);have f9:=p_ sa sb mi hb fun j h1 h2=>cG (cp z) (eK sa h1 h2);by_cases z1:(fY+1 == b.size)=true
    ·rw [ae z1]
     exact ao ⟨rfl,.inl ⟨_,rfl,iD sa sb f9 (.inl (eq_of_beq z1))⟩⟩
    ·rw [aa z1]
     have tS:fY+1≠b.size:=fun e=>z1 (by simp [←e])
     by_cases z2:bc+1≥mg
     ·rw [ae z2]
      exact ao ⟨rfl,.inr ⟨_,_,_,_,_,rfl,f9,ha,by omega,by omega⟩⟩
     ·rw [aa z2]
      exact ao ⟨_,_,_,_,_,rfl,rfl,f9,ha,by omega,by omega⟩
   ·rw [bX z,aa (by simp)]
    refine aq (a_ (by omega) ?_)
    have f9:=kH sa sb mi (by omega) fun j h1 h2=>cG (Int.not_lt.mp z) (eK sb h1 h2)
    by_cases z1:(fz+1+1 == a.size)=true
    ·rw [ae z1]
     exact ao ⟨rfl,.inl ⟨_,rfl,iE sa sb f9 hl (eq_of_beq z1)⟩⟩
    ·rw [aa z1]
     have tS:fz+1+1≠a.size:=fun e=>z1 (by simp [←e])
     by_cases z2:ac+1≥mg
     ·rw [ae z2]
      exact ao ⟨rfl,.inr ⟨_,_,_,_,_,rfl,f9,by omega,hb,by omega⟩⟩
     ·rw [aa z2]
      exact ao ⟨_,_,_,_,_,rfl,rfl,f9,by omega,hb,by omega⟩
  ·rintro c ar ⟨out,fz,fY,ac,bc,rfl,rfl,mi,ha,hb,fZ⟩
   exact ⟨rfl,.inr ⟨_,_,_,_,_,rfl,mi,ha,hb,by omega⟩⟩
  ·rintro c ar ⟨rfl,⟨m,e,pm⟩ | ⟨out,fz,fY,ac,bc,rfl,mi,ha,hb,fZ⟩⟩
   ·obtain ⟨c1,c2⟩:=c
    dsimp only at e;subst e;exact ao ⟨m,g,rfl,rfl,pm⟩
   ·dsimp only
    refine aq (wpS_lift (mR ⟨rfl,?_⟩))
    refine aq (eU (eE (I:=fun y c ar=>∃out i j mg ac bc g,c=(none,out,i,j,mg,ac,bc)∧ar=setG st g∧MI key a.toList b.toList out.toList i j∧i+1<a.size∧j<b.size∧x+1≤i+j)
     (Q:=fun c ar=>(∃m g,c.1=some m∧ar=setG st g∧m.toList.Perm (a.toList++b.toList)∧a7 key m.toList)∨∃out i j mg ac bc g,c=(none,out,i,j,mg,ac,bc)∧ar=setG st g∧MI key a.toList b.toList out.toList i j∧i+1<a.size∧j<b.size∧x+1≤i+j) ?_ ?_ ⟨_,_,_,_,_,_,g,rfl,rfl,mi,ha,hb,by omega⟩) ?_)
    ·clear mi ha hb fZ
     rintro y c ar _ hy ⟨out,ia,ib,mg,ac,bc,g,rfl,rfl,mi,ha,hb,fZ⟩;dsimp only;rcases Nat.lt_or_ge 1 mg with zm | zm
     ·rw [ae zm]
      refine aq (p9 ?_);refine aq (a_ hb (aq (gE (f:=fun i=>bB false (key (b.getD ib nn)) (key (a.getD (ia+i) nn))) (fun i hi Q q=>gD h (by omega) oa (ob _ hb) (e8 _) q) (by omega) (wc sa) fun k k1 k2 k3=>?_)))
      dsimp only;by_cases zk:k>0
      ·rw [ae zk]
       have f_:=Dg sa sb mi (n:=k) fun i j hi bh hj dO=>cG (jT (k2 i hi)) (eK sb hj dO);by_cases w1:(ia+k+1 == a.size)=true
       ·rw [ae w1]
        exact ao (.inl ⟨_,_,rfl,rfl,iE sa sb f_ hl (eq_of_beq w1)⟩)
       ·rw [aa w1]
        have zl:ia+k+1≠a.size:=fun e=>w1 (by simp [←e])
        by_cases w2:(ia+k == a.size)=true
        ·rw [ae w2]
         exact ao (.inl ⟨_,_,rfl,rfl,iD sa sb f_ (.inr (eq_of_beq w2))⟩)
        ·rw [aa w2]
         have KA:ia+k≠a.size:=fun e=>w2 (by simp [←e])
         refine aq (a_ hb ?_);have bT:=p_ sa sb f_ hb fun j h1 h2=>by have:=l5 (k3 (j-ia) (by omega) (by omega));rw [show ia+(j-ia)=j by omega] at this;exact cp this
         by_cases x1:(ib+1 == b.size)=true
         ·rw [ae x1]
          exact ao (.inl ⟨_,_,rfl,rfl,iD sa sb bT (.inl (eq_of_beq x1))⟩)
         ·rw [aa x1]
          have nK:ib+1≠b.size:=fun e=>x1 (by simp [←e])
          refine aq (a_ (by omega) (aq (gE (f:=fun i=>bB true (key (a.getD (ia+k) nn)) (key (b.getD (ib+1+i) nn))) (fun i hi Q q=>gD h (by omega) ob (oa _ (by omega)) (e8 _) q) (by omega) (l6 sb) fun k' q1 q2 q3=>?_)))
          dsimp only;by_cases du:k'>0
          ·rw [ae du]
           have cK:=wd sa sb bT (n:=k') fun i j hi bh hj dO=>cG (cp (fX (q2 i hi))) (eK sa hj dO);by_cases x2:(ib+1+k' == b.size)=true
           ·rw [ae x2]
            exact ao (.inl ⟨_,_,rfl,rfl,iD sa sb cK (.inl (eq_of_beq x2))⟩)
           ·rw [aa x2]
            have nM:ib+1+k'≠b.size:=fun e=>x2 (by simp [←e])
            refine aq (a_ (by omega) ?_)
            have aQ:=kH sa sb cK (by omega) fun j h1 h2=>by have:=gF (q3 (j-(ib+1)) (by omega) (by omega));rwa [show ib+1+(j-(ib+1))=j by omega] at this
            by_cases y1:(ia+k+1+1 == a.size)=true
            ·rw [ae y1]
             exact ao (.inl ⟨_,_,rfl,rfl,iE sa sb aQ hl (eq_of_beq y1)⟩)
            ·rw [aa y1]
             have gf:ia+k+1+1≠a.size:=fun e=>y1 (by simp [←e])
             exact dP (fun _=>ao (.inr ⟨_,_,_,_,_,_,_,rfl,rfl,aQ,by omega,by omega,by omega⟩)) (fun _=>ao ⟨_,_,_,_,_,_,_,rfl,rfl,aQ,by omega,by omega,by omega⟩)
          ·rw [aa du]
           obtain rfl:k'=0:=by omega
           refine aq (a_ (by omega) ?_)
           have aQ:=kH sa sb bT (by omega) fun j h1 h2=>by have:=gF (q3 (j-(ib+1)) (by omega) (by omega));rwa [show ib+1+(j-(ib+1))=j by omega] at this
           by_cases y1:(ia+k+1+1 == a.size)=true
           ·rw [ae y1]
            exact ao (.inl ⟨_,_,rfl,rfl,iE sa sb aQ hl (eq_of_beq y1)⟩)
           ·rw [aa y1]
            have gf:ia+k+1+1≠a.size:=fun e=>y1 (by simp [←e])
            exact dP (fun _=>ao (.inr ⟨_,_,_,_,_,_,_,rfl,rfl,aQ,by omega,by omega,by omega⟩)) (fun _=>ao ⟨_,_,_,_,_,_,_,rfl,rfl,aQ,by omega,by omega,by omega⟩)
      ·rw [aa zk]
       obtain rfl:k=0:=by omega
       refine aq (a_ hb ?_);have bT:=p_ sa sb mi hb fun j h1 h2=>by have:=l5 (k3 (j-ia) (by omega) (by omega));rw [show ia+(j-ia)=j by omega] at this;exact cp this
       by_cases x1:(ib+1 == b.size)=true
       ·rw [ae x1]
        exact ao (.inl ⟨_,_,rfl,rfl,iD sa sb bT (.inl (eq_of_beq x1))⟩)
       ·rw [aa x1]
        have nK:ib+1≠b.size:=fun e=>x1 (by simp [←e])
        refine aq (a_ (by omega) (aq (gE (f:=fun i=>bB true (key (a.getD (ia) nn)) (key (b.getD (ib+1+i) nn))) (fun i hi Q q=>gD h (by omega) ob (oa _ (by omega)) (e8 _) q) (by omega) (l6 sb) fun k' q1 q2 q3=>?_)))
        dsimp only;by_cases du:k'>0
        ·rw [ae du]
         have cK:=wd sa sb bT (n:=k') fun i j hi bh hj dO=>cG (cp (fX (q2 i hi))) (eK sa hj dO);by_cases x2:(ib+1+k' == b.size)=true
         ·rw [ae x2]
          exact ao (.inl ⟨_,_,rfl,rfl,iD sa sb cK (.inl (eq_of_beq x2))⟩)
         ·rw [aa x2]
          have nM:ib+1+k'≠b.size:=fun e=>x2 (by simp [←e])
          refine aq (a_ (by omega) ?_)
          have aQ:=kH sa sb cK (by omega) fun j h1 h2=>by have:=gF (q3 (j-(ib+1)) (by omega) (by omega));rwa [show ib+1+(j-(ib+1))=j by omega] at this
          by_cases y1:(ia+1+1 == a.size)=true
          ·rw [ae y1]
           exact ao (.inl ⟨_,_,rfl,rfl,iE sa sb aQ hl (eq_of_beq y1)⟩)
          ·rw [aa y1]
           have gf:ia+1+1≠a.size:=fun e=>y1 (by simp [←e])
           exact dP (fun _=>ao (.inr ⟨_,_,_,_,_,_,_,rfl,rfl,aQ,by omega,by omega,by omega⟩)) (fun _=>ao ⟨_,_,_,_,_,_,_,rfl,rfl,aQ,by omega,by omega,by omega⟩)
        ·rw [aa du]
         obtain rfl:k'=0:=by omega
         refine aq (a_ (by omega) ?_)
         have aQ:=kH sa sb bT (by omega) fun j h1 h2=>by have:=gF (q3 (j-(ib+1)) (by omega) (by omega));rwa [show ib+1+(j-(ib+1))=j by omega] at this
         by_cases y1:(ia+1+1 == a.size)=true
         ·rw [ae y1]
          exact ao (.inl ⟨_,_,rfl,rfl,iE sa sb aQ hl (eq_of_beq y1)⟩)
         ·rw [aa y1]
          have gf:ia+1+1≠a.size:=fun e=>y1 (by simp [←e])
          exact dP (fun _=>ao (.inr ⟨_,_,_,_,_,_,_,rfl,rfl,aQ,by omega,by omega,by omega⟩)) (fun _=>ao ⟨_,_,_,_,_,_,_,rfl,rfl,aQ,by omega,by omega,by omega⟩)
     ·rw [aa (by omega)]
      refine aq (p9 ?_);refine aq (a_ hb (aq (gE (f:=fun i=>bB false (key (b.getD ib nn)) (key (a.getD (ia+i) nn))) (fun i hi Q q=>gD h (by omega) oa (ob _ hb) (e8 _) q) (by omega) (wc sa) fun k k1 k2 k3=>?_)))
      dsimp only;by_cases zk:k>0
      ·rw [ae zk]
       have f_:=Dg sa sb mi (n:=k) fun i j hi bh hj dO=>cG (jT (k2 i hi)) (eK sb hj dO);by_cases w1:(ia+k+1 == a.size)=true
       ·rw [ae w1]
        exact ao (.inl ⟨_,_,rfl,rfl,iE sa sb f_ hl (eq_of_beq w1)⟩)
       ·rw [aa w1]
        have zl:ia+k+1≠a.size:=fun e=>w1 (by simp [←e])
        by_cases w2:(ia+k == a.size)=true
        ·rw [ae w2]
         exact ao (.inl ⟨_,_,rfl,rfl,iD sa sb f_ (.inr (eq_of_beq w2))⟩)
        ·rw [aa w2]
         have KA:ia+k≠a.size:=fun e=>w2 (by simp [←e])
         refine aq (a_ hb ?_);have bT:=p_ sa sb f_ hb fun j h1 h2=>by have:=l5 (k3 (j-ia) (by omega) (by omega));rw [show ia+(j-ia)=j by omega] at this;exact cp this
         by_cases x1:(ib+1 == b.size)=true
         ·rw [ae x1]
          exact ao (.inl ⟨_,_,rfl,rfl,iD sa sb bT (.inl (eq_of_beq x1))⟩)
         ·rw [aa x1]
          have nK:ib+1≠b.size:=fun e=>x1 (by simp [←e])
          refine aq (a_ (by omega) (aq (gE (f:=fun i=>bB true (key (a.getD (ia+k) nn)) (key (b.getD (ib+1+i) nn))) (fun i hi Q q=>gD h (by omega) ob (oa _ (by omega)) (e8 _) q) (by omega) (l6 sb) fun k' q1 q2 q3=>?_)))
          dsimp only;by_cases du:k'>0
          ·rw [ae du]
           have cK:=wd sa sb bT (n:=k') fun i j hi bh hj dO=>cG (cp (fX (q2 i hi))) (eK sa hj dO);by_cases x2:(ib+1+k' == b.size)=true
           ·rw [ae x2]
            exact ao (.inl ⟨_,_,rfl,rfl,iD sa sb cK (.inl (eq_of_beq x2))⟩)
           ·rw [aa x2]
            have nM:ib+1+k'≠b.size:=fun e=>x2 (by simp [←e])
            refine aq (a_ (by omega) ?_)
            have aQ:=kH sa sb cK (by omega) fun j h1 h2=>by have:=gF (q3 (j-(ib+1)) (by omega) (by omega));rwa [show ib+1+(j-(ib+1))=j by omega] at this
            by_cases y1:(ia+k+1+1 == a.size)=true
            ·rw [ae y1]
             exact ao (.inl ⟨_,_,rfl,rfl,iE sa sb aQ hl (eq_of_beq y1)⟩)
            ·rw [aa y1]
             have gf:ia+k+1+1≠a.size:=fun e=>y1 (by simp [←e])
             exact dP (fun _=>ao (.inr ⟨_,_,_,_,_,_,_,rfl,rfl,aQ,by omega,by omega,by omega⟩)) (fun _=>ao ⟨_,_,_,_,_,_,_,rfl,rfl,aQ,by omega,by omega,by omega⟩)
          ·rw [aa du]
           obtain rfl:k'=0:=by omega
           refine aq (a_ (by omega) ?_)
           have aQ:=kH sa sb bT (by omega) fun j h1 h2=>by have:=gF (q3 (j-(ib+1)) (by omega) (by omega));rwa [show ib+1+(j-(ib+1))=j by omega] at this
           by_cases y1:(ia+k+1+1 == a.size)=true
           ·rw [ae y1]
            exact ao (.inl ⟨_,_,rfl,rfl,iE sa sb aQ hl (eq_of_beq y1)⟩)
           ·rw [aa y1]
            have gf:ia+k+1+1≠a.size:=fun e=>y1 (by simp [←e])
            exact dP (fun _=>ao (.inr ⟨_,_,_,_,_,_,_,rfl,rfl,aQ,by omega,by omega,by omega⟩)) (fun _=>ao ⟨_,_,_,_,_,_,_,rfl,rfl,aQ,by omega,by omega,by omega⟩)
      ·rw [aa zk]
       obtain rfl:k=0:=by omega
       refine aq (a_ hb ?_);have bT:=p_ sa sb mi hb fun j h1 h2=>by have:=l5 (k3 (j-ia) (by omega) (by omega));rw [show ia+(j-ia)=j by omega] at this;exact cp this
       by_cases x1:(ib+1 == b.size)=true
       ·rw [ae x1]
        exact ao (.inl ⟨_,_,rfl,rfl,iD sa sb bT (.inl (eq_of_beq x1))⟩)
       ·rw [aa x1]
        have nK:ib+1≠b.size:=fun e=>x1 (by simp [←e])
        refine aq (a_ (by omega) (aq (gE (f:=fun i=>bB true (key (a.getD (ia) nn)) (key (b.getD (ib+1+i) nn))) (fun i hi Q q=>gD h (by omega) ob (oa _ (by omega)) (e8 _) q) (by omega) (l6 sb) fun k' q1 q2 q3=>?_)))
        dsimp only;by_cases du:k'>0
        ·rw [ae du]
         have cK:=wd sa sb bT (n:=k') fun i j hi bh hj dO=>cG (cp (fX (q2 i hi))) (eK sa hj dO);by_cases x2:(ib+1+k' == b.size)=true
         ·rw [ae x2]
          exact ao (.inl ⟨_,_,rfl,rfl,iD sa sb cK (.inl (eq_of_beq x2))⟩)
         ·rw [aa x2]
          have nM:ib+1+k'≠b.size:=fun e=>x2 (by simp [←e])
          refine aq (a_ (by omega) ?_)
          have aQ:=kH sa sb cK (by omega) fun j h1 h2=>by have:=gF (q3 (j-(ib+1)) (by omega) (by omega));rwa [show ib+1+(j-(ib+1))=j by omega] at this
          by_cases y1:(ia+1+1 == a.size)=true
          ·rw [ae y1]
           exact ao (.inl ⟨_,_,rfl,rfl,iE sa sb aQ hl (eq_of_beq y1)⟩)
          ·rw [aa y1]
           have gf:ia+1+1≠a.size:=fun e=>y1 (by simp [←e])
           exact dP (fun _=>ao (.inr ⟨_,_,_,_,_,_,_,rfl,rfl,aQ,by omega,by omega,by omega⟩)) (fun _=>ao ⟨_,_,_,_,_,_,_,rfl,rfl,aQ,by omega,by omega,by omega⟩)
        ·rw [aa du]
         obtain rfl:k'=0:=by omega
         refine aq (a_ (by omega) ?_)
         have aQ:=kH sa sb bT (by omega) fun j h1 h2=>by have:=gF (q3 (j-(ib+1)) (by omega) (by omega));rwa [show ib+1+(j-(ib+1))=j by omega] at this
         by_cases y1:(ia+1+1 == a.size)=true
         ·rw [ae y1]
          exact ao (.inl ⟨_,_,rfl,rfl,iE sa sb aQ hl (eq_of_beq y1)⟩)
         ·rw [aa y1]
          have gf:ia+1+1≠a.size:=fun e=>y1 (by simp [←e])
          exact dP (fun _=>ao (.inr ⟨_,_,_,_,_,_,_,rfl,rfl,aQ,by omega,by omega,by omega⟩)) (fun _=>ao ⟨_,_,_,_,_,_,_,rfl,rfl,aQ,by omega,by omega,by omega⟩)
    ·rintro c ar ⟨out,i,j,mg,ac,bc,g,rfl,rfl,mi,ha,hb,fZ⟩
     exact .inr ⟨_,_,_,_,_,_,_,rfl,rfl,mi,ha,hb,fZ⟩
    ·rintro c ar (⟨m,g,e,rfl,pm⟩ | ⟨out,i,j,mg,ac,bc,g,rfl,rfl,mi,ha,hb,fZ⟩)
     ·obtain ⟨c1,c2⟩:=c
      dsimp only at e;subst e;exact ao ⟨m,g,rfl,rfl,pm⟩
     ·dsimp only
      exact aq (p9 (ao ⟨_,_,_,_,_,rfl,rfl,mi,ha,hb,by omega⟩))
 ·rintro c ar ⟨out,ia,ib,mg,g,rfl,rfl,mi,ha,hb,zi⟩
  exfalso
  omega
 ·rintro c ar ⟨m,g,e,rfl,pm,sm⟩
  obtain ⟨c1,c2⟩:=c;dsimp only at e;subst e;exact ao (q m g pm sm)
end
theorem KC(a b:Array Keyed):zd a b=(do
 rule "list.sort.merge-hi"
 let total:=a.size+b.size
 let done (out:Array Keyed) (na nb:Nat):=a.extract 0 na++b.extract 0 nb++out.reverse
 let we (out:Array Keyed) (na nb:Nat):=b.extract 0 nb++a.extract 0 na++out.reverse
 let mut na:=a.size-1
 let mut nb:=b.size
 let mut out:Array Keyed:=#[←elem' a na]
 if na == 0 then return done out na nb
 if nb == 1 then return we out na nb
 let mut minGallop:=gallopOf (←get)
 for _ in [0:total] do
  let mut gZ:=0
  let mut g6:=0
  for _ in [0:total] do
   let some KD ←lt' (←elem' b (nb-1)) (←elem' a (na-1)) | return done out na nb
   if KD then
    na:=na-1;out:=out.push (←elem' a na);gZ:=gZ+1;g6:=0
    if na == 0 then return done out na nb
    if gZ≥minGallop then break
   else
    nb:=nb-1;out:=out.push (←elem' b nb);g6:=g6+1;gZ:=0
    if nb == 1 then return we out na nb
    if g6≥minGallop then break
  rule "list.sort.gallop"
  minGallop:=minGallop+1
  for _ in [0:total] do
   if minGallop>1 then minGallop:=minGallop-1
   tO minGallop
   let some at_ ←lZ false (←elem' b (nb-1)) a 0 na (na-1) | return done out na nb
   let k:=na-at_
   gZ:=k
   if k>0 then
    out:=out++(a.extract at_ na).reverse;na:=at_
    if na == 0 then return done out na nb
   nb:=nb-1;out:=out.push (←elem' b nb)
   if nb == 1 then return we out na nb
   let some at_ ←lZ true (←elem' a (na-1)) b 0 nb (nb-1) | return done out na nb
   let k:=nb-at_
   g6:=k
   if k>0 then
    out:=out++(b.extract at_ nb).reverse;nb:=at_
    if nb == 1 then return we out na nb
    if nb == 0 then return done out na nb
   na:=na-1;out:=out.push (←elem' a na)
   if na == 0 then return done out na nb
   if gZ<7 && g6<7 then break
  minGallop:=minGallop+1
  tO minGallop
 unsupported "internal:list.sort.merge-bound"):=rfl
section
variable {key:Keyed→Int}
theorem qa(h:a7 key l):a7 (fun x=>-key x) l.reverse:=by unfold a7;rw [List.pairwise_reverse];exact u6 (fun h=>Int.neg_le_neg h) h
theorem Dh(h:a7 (fun x=>-key x) l):a7 key l.reverse:=by unfold a7;rw [List.pairwise_reverse];exact u6 (fun h=>Int.le_of_neg_le_neg h) h
variable {a:Array Keyed} {n:Nat}
theorem i8(h:n≤a.size):a.toList.reverse.drop (a.size-n)=(a.extract 0 n).toList.reverse:=by rw [List.drop_reverse,iC,List.drop_zero,Nat.sub_zero,fb,show a.size-(a.size-n)=n by omega]
theorem wg{m:Nat}(h:n≤a.size)(hm:m≤n):(a.toList.reverse.drop (a.size-n)).take (n-m)=(a.extract m n).reverse.toList:=by rw [i8 h,u7,iC,iC,List.drop_zero,Nat.sub_zero,List.take_reverse,o9,fb,show min n a.size-(n-m)=m by omega,List.drop_take]
theorem kI{m:Nat}(h:n≤a.size){x:Keyed}(hx:x∈(a.extract m n).toList):∃j,m≤j∧j<n∧x=a.getD j nn:=by rw [iC] at hx;obtain ⟨j,h1,h2,rfl⟩:=zg hx;exact ⟨m+j,by omega,by omega,rfl⟩
theorem Di(h:n≤a.size)(h1:1≤n):(a.extract (n-1) n).reverse.toList=[a.getD (n-1) nn]:=by
 rw [u7,iC,show n-(n-1)=1 by omega,tR (by omega)]
 rfl
def MH(key:Keyed→Int)(a b out:Array Keyed)(na nb:Nat):Prop:=MI (fun x=>-key x) a.toList.reverse b.toList.reverse out.toList (a.size-na) (b.size-nb)∧na≤a.size∧nb≤b.size
variable {a b:Array Keyed} (sa:a7 key a.toList) (sb:a7 key b.toList) {out:Array Keyed} {na nb:Nat}
include sa sb
variable {k:Nat}
theorem zo(m:MH key a b out na nb)(hk:k≤na)(c:∀i j,k≤i→i<na→j<nb→key (b.getD j nn)≤key (a.getD i nn)):MH key a b (out++(a.extract k na).reverse) k nb:=by
 obtain ⟨m,ha,hb⟩:=m;refine ⟨?_,by omega,hb⟩
 have:=m.v_ (qa sa) (na-k) fun x hx y hy=>by rw [wg ha hk,u7,jA] at hx;rw [i8 hb,jA] at hy;obtain ⟨i,i1,i2,rfl⟩:=kI ha hx;obtain ⟨j,j1,j2,rfl⟩:=kI hb hy;have:=c i j i1 i2 j2;omega
 rw [wg ha hk,show a.size-na+(na-k)=a.size-k by omega] at this
 rw [jy];exact this
theorem tT(m:MH key a b out na nb)(hk:k≤nb)(c:∀i j,k≤i→i<nb→j<na→key (a.getD j nn)≤key (b.getD i nn)):MH key a b (out++(b.extract k nb).reverse) na k:=by
 obtain ⟨m,ha,hb⟩:=m;refine ⟨?_,ha,by omega⟩
 have:=m.zf (qa sb) (nb-k) fun x hx y hy=>by rw [wg hb hk,u7,jA] at hx;rw [i8 ha,jA] at hy;obtain ⟨i,i1,i2,rfl⟩:=kI hb hx;obtain ⟨j,j1,j2,rfl⟩:=kI ha hy;have:=c i j i1 i2 j2;omega
 rw [wg hb hk,show b.size-nb+(nb-k)=b.size-k by omega] at this
 rw [jy];exact this
theorem jU(m:MH key a b out na nb)(h1:1≤na)(c:∀j,j<nb→key (b.getD j nn)≤key (a.getD (na-1) nn)):MH key a b (out.push (a.getD (na-1) nn)) (na-1) nb:=by
 have:=zo sa sb m (k:=na-1) (by omega) fun i j i1 i2 j1=>by
  rw [show i=na-1 by omega]
  exact c j j1
 have e:out++(a.extract (na-1) na).reverse=out.push (a.getD (na-1) nn):=by apply Array.toList_inj.mp;rw [jy,Di m.2.1 h1,k8]
 rw [e] at this;exact this
theorem tU(m:MH key a b out na nb)(h1:1≤nb)(c:∀j,j<na→key (a.getD j nn)≤key (b.getD (nb-1) nn)):MH key a b (out.push (b.getD (nb-1) nn)) na (nb-1):=by
 have:=tT sa sb m (k:=nb-1) (by omega) fun i j i1 i2 j1=>by
  rw [show i=nb-1 by omega]
  exact c j j1
 have e:out++(b.extract (nb-1) nb).reverse=out.push (b.getD (nb-1) nn):=by apply Array.toList_inj.mp;rw [jy,Di m.2.2 h1,k8]
 rw [e] at this;exact this
theorem fA(m:MH key a b out na nb)(e:na=0∨nb=0):(a.extract 0 na++b.extract 0 nb++out.reverse).toList.Perm (a.toList++b.toList)∧a7 key (a.extract 0 na++b.extract 0 nb++out.reverse).toList:=by
 obtain ⟨m,ha,hb⟩:=m;have:=m.Df (qa sa) (qa sb) fun x hx y hy=>by rw [i8 ha,jA] at hx;rw [i8 hb,jA] at hy;obtain ⟨i,i1,i2,_⟩:=kI ha hx;obtain ⟨j,j1,j2,_⟩:=kI hb hy;omega
 rw [i8 ha,i8 hb] at this;have er:(a.extract 0 na++b.extract 0 nb++out.reverse).toList=(out.toList++(b.extract 0 nb).toList.reverse++(a.extract 0 na).toList.reverse).reverse:=by simp
 rw [er];refine ⟨(ke _).trans (this.1.trans ?_),Dh this.2⟩;exact (ke _).append (ke _)
theorem jV(m:MH key a b out na nb)(h0:∀x∈a.toList,key (b.getD 0 nn)≤key x)(e:nb=1):(b.extract 0 nb++a.extract 0 na++out.reverse).toList.Perm (a.toList++b.toList)∧a7 key (b.extract 0 nb++a.extract 0 na++out.reverse).toList:=by
 obtain ⟨m,ha,hb⟩:=m;have:=m.done (qa sa) (qa sb) fun x hx y hy=>by
  rw [i8 ha,jA] at hx;rw [i8 hb,jA] at hy;obtain ⟨i,i1,i2,rfl⟩:=kI ha hx;obtain ⟨j,j1,j2,rfl⟩:=kI hb hy;have:=h0 (a.getD i nn) (by simp [Array.getD,show i<a.size by omega])
  rw [show j=0 by omega]
  omega
 rw [i8 ha,i8 hb] at this;have er:(b.extract 0 nb++a.extract 0 na++out.reverse).toList=(out.toList++(a.extract 0 na).toList.reverse++(b.extract 0 nb).toList.reverse).reverse:=by simp
 rw [er];refine ⟨(ke _).trans (this.1.trans ?_),Dh this.2⟩;exact (ke _).append (ke _)
end
section
variable {prog:Program} {w:World} {A:Around} {E:aI} {s:Shared} {κ:SortKind} {key:Keyed→Int} {Ok:Keyed→Prop}
theorem KG(h:iz prog w A s κ key Ok){a b:Array Keyed}(oa:eA Ok a)(ob:eA Ok b)(sa:a7 key a.toList)(sb:a7 key b.toList)(a1:1≤a.size)(b1:1≤b.size)
  (h0:∀x∈a.toList,key (b.getD 0 nn)≤key x) (hl:∀y∈b.toList,key y≤key (a.getD (a.size-1) nn)) {st:SortSt} (hk:kindOf st=κ) {Q:Array Keyed→SortSt→Prop}
  (q:∀m g,m.toList.Perm (a.toList++b.toList)→a7 key m.toList→Q m (setG st g)):wpS (model prog w) A E s (zd a b) Q st:=by
 rw [KC];refine aq (wpS_lift (mR ⟨rfl,?_⟩));refine aq (a_ (by omega) ?_)
 dsimp only;have m0:MH key a b (#[a.getD (a.size-1) nn]:Array Keyed) (a.size-1) b.size:=by
  have:MH key a b (#[]:Array Keyed) a.size b.size:=⟨⟨by simp,List.Pairwise.nil,fun x hx=>by simp at hx,fun x hx=>by simp at hx⟩,av _,av _⟩
  exact jU sa sb this a1 fun j hj=>hl _ (by simp [Array.getD,hj])
 have e8:∀g,kindOf (setG st g)=κ:=fun _=>hk;by_cases e1:(a.size-1 == 0)=true
 ·rw [ae e1]
  have:=fA sa sb m0 (.inl (eq_of_beq e1));exact ao (q _ (gallopOf st) this.1 this.2)
 rw [aa e1];by_cases e2:(b.size == 1)=true
 ·rw [ae e2]
  have:=jV sa sb m0 h0 (eq_of_beq e2);exact ao (q _ (gallopOf st) this.1 this.2)
 rw [aa e2];have a2:1≤a.size-1:=by
  have:a.size-1≠0:=fun e=>e1 (by simp [e])
  omega
 have b2:2≤b.size:=by
  have:b.size≠1:=fun e=>e2 (by simp [e])
  omega
 refine aq (gN ?_)
 refine aq (eU (eE (I:=fun x c ar=>∃(out:Array Keyed) (na nb mg g:Nat),c=(none,na,nb,out,mg)∧ar=setG st g∧MH key a b out na nb∧1≤na∧2≤nb∧x+na+nb≤a.size+b.size)
  (Q:=fun c ar=>∃(m:Array Keyed) (g:Nat),c.1=some m∧ar=setG st g∧m.toList.Perm (a.toList++b.toList)∧a7 key m.toList) ?_ ?_ ⟨_,a.size-1,b.size,_,gallopOf st,rfl,rfl,m0,a2,b2,show 0+(a.size-1)+b.size≤a.size+b.size by omega⟩) ?_)
 ·rintro x c ar _ hx ⟨out,na,nb,mg,g,rfl,rfl,mi,ha,hb,zi⟩
  dsimp only
  refine aq (eU (eE (I:=fun y c ar=>∃(out:Array Keyed) (a8 bL ac bc:Nat),c=(none,a8,bL,out,ac,bc)∧ar=setG st g∧MH key a b out a8 bL∧1≤a8∧2≤bL∧y+a8+bL≤na+nb)
   (Q:=fun c ar=>ar=setG st g∧((∃m:Array Keyed,c.1=some m∧m.toList.Perm (a.toList++b.toList)∧a7 key m.toList)∨∃(out:Array Keyed) (a8 bL ac bc:Nat),c=(none,a8,bL,out,ac,bc)∧MH key a b out a8 bL∧1≤a8∧2≤bL∧1+a8+bL≤na+nb)) ?_ ?_ ⟨_,na,nb,_,_,rfl,rfl,mi,ha,hb,show 0+na+nb≤na+nb by omega⟩) ?_)
  ·rintro y c ar _ hy ⟨out,a8,bL,ac,bc,rfl,rfl,mi,ha,hb,fZ⟩
   have KH:=mi.2.1;have nN:=mi.2.2;dsimp only;refine aq (a_ (by omega) (aq (a_ (by omega) (aq (tQ h (ob (bL-1) (by omega)) (oa (a8-1) (by omega)) (e8 _) ?_)))))
   dsimp only;by_cases z:key (b.getD (bL-1) nn)<key (a.getD (a8-1) nn)
   ·rw [bF z,ae rfl]
    refine aq (a_ (by omega) ?_)
    have f9:=jU sa sb mi ha fun j hj=>cG (eK sb (by omega) (by omega)) (cp z)
    by_cases z1:(a8-1 == 0)=true
    ·rw [ae z1]
     exact ao ⟨rfl,.inl ⟨_,rfl,fA sa sb f9 (.inl (eq_of_beq z1))⟩⟩
    ·rw [aa z1]
     have tS:a8-1≠0:=fun e=>z1 (by simp [e])
     exact dP (fun _=>ao ⟨rfl,.inr ⟨_,_,_,_,_,rfl,f9,by omega,hb,by omega⟩⟩) (fun _=>ao ⟨_,_,_,_,_,rfl,rfl,f9,by omega,hb,by omega⟩)
   ·rw [bX z,aa (by simp)]
    refine aq (a_ (by omega) ?_)
    have f9:=tU sa sb mi (by omega) fun j hj=>cG (eK sa (by omega) (by omega)) (Int.not_lt.mp z)
    by_cases z1:(bL-1 == 1)=true
    ·rw [ae z1]
     exact ao ⟨rfl,.inl ⟨_,rfl,jV sa sb f9 h0 (eq_of_beq z1)⟩⟩
    ·rw [aa z1]
     have tS:bL-1≠1:=fun e=>z1 (by simp [e])
     exact dP (fun _=>ao ⟨rfl,.inr ⟨_,_,_,_,_,rfl,f9,ha,by omega,by omega⟩⟩) (fun _=>ao ⟨_,_,_,_,_,rfl,rfl,f9,ha,by omega,by omega⟩)
  ·rintro c ar ⟨out,a8,bL,ac,bc,rfl,rfl,mi,ha,hb,fZ⟩
   exact ⟨rfl,.inr ⟨_,_,_,_,_,rfl,mi,ha,hb,by omega⟩⟩
  ·rintro c ar ⟨rfl,⟨m,e,pm⟩ | ⟨out,a8,bL,ac,bc,rfl,mi,ha,hb,fZ⟩⟩
   ·obtain ⟨c1,c2⟩:=c
    dsimp only at e;subst e;exact ao ⟨m,g,rfl,rfl,pm⟩
   ·dsimp only
    refine aq (wpS_lift (mR ⟨rfl,?_⟩))
    refine aq (eU (eE (I:=fun y c ar=>∃(out:Array Keyed) (i j mg ac bc g:Nat),c=(none,i,j,out,mg,ac,bc)∧ar=setG st g∧MH key a b out i j∧1≤i∧2≤j∧x+1+i+j≤a.size+b.size)
     (Q:=fun c ar=>(∃(m:Array Keyed) (g:Nat),c.1=some m∧ar=setG st g∧m.toList.Perm (a.toList++b.toList)∧a7 key m.toList)∨∃(out:Array Keyed) (i j mg ac bc g:Nat),c=(none,i,j,out,mg,ac,bc)∧ar=setG st g∧MH key a b out i j∧1≤i∧2≤j∧x+1+i+j≤a.size+b.size) ?_ ?_ ⟨_,a8,bL,_,_,_,g,rfl,rfl,mi,ha,hb,by omega⟩) ?_)
    ·clear mi ha hb fZ
     rintro y c ar _ hy ⟨out,na,nb,mg,ac,bc,g,rfl,rfl,mi,ha,hb,fZ⟩;have KH:=mi.2.1;have nN:=mi.2.2;dsimp only;rcases Nat.lt_or_ge 1 mg with zm | zm
     ·rw [ae zm]
      refine aq (p9 ?_);refine aq (a_ (by omega) (aq (gE (f:=fun i=>bB false (key (b.getD (nb-1) nn)) (key (a.getD (0+i) nn))) (fun i hi Q q=>gD h (by omega) oa (ob _ (by omega)) (e8 _) q) (by omega) (fun i j h1 h2 h3=>wc sa (o:=0) i j h1 (by omega) h3) fun k k1 k2 k3=>?_)))
      dsimp only;by_cases zk:na-k>0
      ·rw [ae zk]
       have f_:=zo sa sb mi (k:=k) k1 fun i j hi bh hj=>by have:=l5 (k3 i hi bh);rw [dy] at this;exact cG (eK sb (by omega) (by omega)) (cp this)
       by_cases w1:(k == 0)=true
       ·rw [ae w1]
        exact ao (.inl ⟨_,_,rfl,rfl,fA sa sb f_ (.inl (eq_of_beq w1))⟩)
       ·rw [aa w1]
        have zl:k≠0:=fun e=>w1 (by simp [e])
        refine aq (a_ (by have:=f_.2.2;omega) ?_)
        have bT:=tU sa sb f_ (by omega) fun j h1=>by have:=jT (k2 j h1);rw [dy] at this;exact this
        by_cases x1:(nb-1 == 1)=true
        ·rw [ae x1]
         exact ao (.inl ⟨_,_,rfl,rfl,jV sa sb bT h0 (eq_of_beq x1)⟩)
        ·rw [aa x1]
         have nK:nb-1≠1:=fun e=>x1 (by simp [e])
         have nN:=bT.2.2;refine aq (a_ (by omega) (aq (gE (f:=fun i=>bB true (key (a.getD (k-1) nn)) (key (b.getD (0+i) nn))) (fun i hi Q q=>gD h (by omega) ob (oa _ (by omega)) (e8 _) q) (by omega) (fun i j h1 h2 h3=>l6 sb (o:=0) i j h1 (by omega) h3) fun k' q1 q2 q3=>?_)))
         dsimp only;by_cases du:nb-1-k'>0
         ·rw [ae du]
          have cK:=tT sa sb bT (k:=k') q1 fun i j hi bh hj=>by have:=gF (q3 i hi bh);rw [dy] at this;exact cG (eK sa (by omega) (by omega)) this
          by_cases x2:(k' == 1)=true
          ·rw [ae x2]
           exact ao (.inl ⟨_,_,rfl,rfl,jV sa sb cK h0 (eq_of_beq x2)⟩)
          ·rw [aa x2]
           have nM:k'≠1:=fun e=>x2 (by simp [e])
           by_cases x3:(k' == 0)=true
           ·rw [ae x3]
            exact ao (.inl ⟨_,_,rfl,rfl,fA sa sb cK (.inr (eq_of_beq x3))⟩)
           ·rw [aa x3]
            have zp:k'≠0:=fun e=>x3 (by simp [e])
            refine aq (a_ (by omega) ?_)
            have aQ:=jU sa sb cK (by omega) fun j h1=>by have:=fX (q2 j h1);rw [dy] at this;exact cp this
            by_cases y1:(k-1 == 0)=true
            ·rw [ae y1]
             exact ao (.inl ⟨_,_,rfl,rfl,fA sa sb aQ (.inl (eq_of_beq y1))⟩)
            ·rw [aa y1]
             have gf:k-1≠0:=fun e=>y1 (by simp [e])
             exact dP (fun _=>ao (.inr ⟨_,_,_,_,_,_,_,rfl,rfl,aQ,by omega,by omega,by omega⟩)) (fun _=>ao ⟨_,_,_,_,_,_,_,rfl,rfl,aQ,by omega,by omega,by omega⟩)
         ·rw [aa du]
          obtain rfl:k'=nb-1:=by omega
          refine aq (a_ (by omega) ?_)
          have aQ:=jU sa sb bT (by omega) fun j h1=>by have:=fX (q2 j h1);rw [dy] at this;exact cp this
          by_cases y1:(k-1 == 0)=true
          ·rw [ae y1]
           exact ao (.inl ⟨_,_,rfl,rfl,fA sa sb aQ (.inl (eq_of_beq y1))⟩)
          ·rw [aa y1]
           have gf:k-1≠0:=fun e=>y1 (by simp [e])
           exact dP (fun _=>ao (.inr ⟨_,_,_,_,_,_,_,rfl,rfl,aQ,by omega,by omega,by omega⟩)) (fun _=>ao ⟨_,_,_,_,_,_,_,rfl,rfl,aQ,by omega,by omega,by omega⟩)
      ·rw [aa zk]
       obtain rfl:k=na:=by omega
       refine aq (a_ (by have:=mi.2.2;omega) ?_)
       have bT:=tU sa sb mi (by omega) fun j h1=>by have:=jT (k2 j h1);rw [dy] at this;exact this
       by_cases x1:(nb-1 == 1)=true
       ·rw [ae x1]
        exact ao (.inl ⟨_,_,rfl,rfl,jV sa sb bT h0 (eq_of_beq x1)⟩)
       ·rw [aa x1]
        have nK:nb-1≠1:=fun e=>x1 (by simp [e])
        have nN:=bT.2.2;refine aq (a_ (by omega) (aq (gE (f:=fun i=>bB true (key (a.getD (k-1) nn)) (key (b.getD (0+i) nn))) (fun i hi Q q=>gD h (by omega) ob (oa _ (by omega)) (e8 _) q) (by omega) (fun i j h1 h2 h3=>l6 sb (o:=0) i j h1 (by omega) h3) fun k' q1 q2 q3=>?_)))
        dsimp only;by_cases du:nb-1-k'>0
        ·rw [ae du]
         have cK:=tT sa sb bT (k:=k') q1 fun i j hi bh hj=>by have:=gF (q3 i hi bh);rw [dy] at this;exact cG (eK sa (by omega) (by omega)) this
         by_cases x2:(k' == 1)=true
         ·rw [ae x2]
          exact ao (.inl ⟨_,_,rfl,rfl,jV sa sb cK h0 (eq_of_beq x2)⟩)
         ·rw [aa x2]
          have nM:k'≠1:=fun e=>x2 (by simp [e])
          by_cases x3:(k' == 0)=true
          ·rw [ae x3]
           exact ao (.inl ⟨_,_,rfl,rfl,fA sa sb cK (.inr (eq_of_beq x3))⟩)
          ·rw [aa x3]
           have zp:k'≠0:=fun e=>x3 (by simp [e])
           refine aq (a_ (by omega) ?_)
           have aQ:=jU sa sb cK (by omega) fun j h1=>by have:=fX (q2 j h1);rw [dy] at this;exact cp this
           by_cases y1:(k-1 == 0)=true
           ·rw [ae y1]
            exact ao (.inl ⟨_,_,rfl,rfl,fA sa sb aQ (.inl (eq_of_beq y1))⟩)
           ·rw [aa y1]
            have gf:k-1≠0:=fun e=>y1 (by simp [e])
            exact dP (fun _=>ao (.inr ⟨_,_,_,_,_,_,_,rfl,rfl,aQ,by omega,by omega,by omega⟩)) (fun _=>ao ⟨_,_,_,_,_,_,_,rfl,rfl,aQ,by omega,by omega,by omega⟩)
        ·rw [aa du]
         obtain rfl:k'=nb-1:=by omega
         refine aq (a_ (by omega) ?_)
         have aQ:=jU sa sb bT (by omega) fun j h1=>by have:=fX (q2 j h1);rw [dy] at this;exact cp this
         by_cases y1:(k-1 == 0)=true
         ·rw [ae y1]
          exact ao (.inl ⟨_,_,rfl,rfl,fA sa sb aQ (.inl (eq_of_beq y1))⟩)
         ·rw [aa y1]
          have gf:k-1≠0:=fun e=>y1 (by simp [e])
          exact dP (fun _=>ao (.inr ⟨_,_,_,_,_,_,_,rfl,rfl,aQ,by omega,by omega,by omega⟩)) (fun _=>ao ⟨_,_,_,_,_,_,_,rfl,rfl,aQ,by omega,by omega,by omega⟩)
     ·rw [aa (by omega)]
      refine aq (p9 ?_);refine aq (a_ (by omega) (aq (gE (f:=fun i=>bB false (key (b.getD (nb-1) nn)) (key (a.getD (0+i) nn))) (fun i hi Q q=>gD h (by omega) oa (ob _ (by omega)) (e8 _) q) (by omega) (fun i j h1 h2 h3=>wc sa (o:=0) i j h1 (by omega) h3) fun k k1 k2 k3=>?_)))
      dsimp only;by_cases zk:na-k>0
      ·rw [ae zk]
       have f_:=zo sa sb mi (k:=k) k1 fun i j hi bh hj=>by have:=l5 (k3 i hi bh);rw [dy] at this;exact cG (eK sb (by omega) (by omega)) (cp this)
       by_cases w1:(k == 0)=true
       ·rw [ae w1]
        exact ao (.inl ⟨_,_,rfl,rfl,fA sa sb f_ (.inl (eq_of_beq w1))⟩)
       ·rw [aa w1]
        have zl:k≠0:=fun e=>w1 (by simp [e])
        refine aq (a_ (by have:=f_.2.2;omega) ?_)
        have bT:=tU sa sb f_ (by omega) fun j h1=>by have:=jT (k2 j h1);rw [dy] at this;exact this
        by_cases x1:(nb-1 == 1)=true
        ·rw [ae x1]
         exact ao (.inl ⟨_,_,rfl,rfl,jV sa sb bT h0 (eq_of_beq x1)⟩)
        ·rw [aa x1]
         have nK:nb-1≠1:=fun e=>x1 (by simp [e])
         have nN:=bT.2.2;refine aq (a_ (by omega) (aq (gE (f:=fun i=>bB true (key (a.getD (k-1) nn)) (key (b.getD (0+i) nn))) (fun i hi Q q=>gD h (by omega) ob (oa _ (by omega)) (e8 _) q) (by omega) (fun i j h1 h2 h3=>l6 sb (o:=0) i j h1 (by omega) h3) fun k' q1 q2 q3=>?_)))
         dsimp only;by_cases du:nb-1-k'>0
         ·rw [ae du]
          have cK:=tT sa sb bT (k:=k') q1 fun i j hi bh hj=>by have:=gF (q3 i hi bh);rw [dy] at this;exact cG (eK sa (by omega) (by omega)) this
          by_cases x2:(k' == 1)=true
          ·rw [ae x2]
           exact ao (.inl ⟨_,_,rfl,rfl,jV sa sb cK h0 (eq_of_beq x2)⟩)
          ·rw [aa x2]
           have nM:k'≠1:=fun e=>x2 (by simp [e])
           by_cases x3:(k' == 0)=true
           ·rw [ae x3]
            exact ao (.inl ⟨_,_,rfl,rfl,fA sa sb cK (.inr (eq_of_beq x3))⟩)
           ·rw [aa x3]
            have zp:k'≠0:=fun e=>x3 (by simp [e])
            refine aq (a_ (by omega) ?_)
            have aQ:=jU sa sb cK (by omega) fun j h1=>by have:=fX (q2 j h1);rw [dy] at this;exact cp this
            by_cases y1:(k-1 == 0)=true
            ·rw [ae y1]
             exact ao (.inl ⟨_,_,rfl,rfl,fA sa sb aQ (.inl (eq_of_beq y1))⟩)
            ·rw [aa y1]
             have gf:k-1≠0:=fun e=>y1 (by simp [e])
             exact dP (fun _=>ao (.inr ⟨_,_,_,_,_,_,_,rfl,rfl,aQ,by omega,by omega,by omega⟩)) (fun _=>ao ⟨_,_,_,_,_,_,_,rfl,rfl,aQ,by omega,by omega,by omega⟩)
         ·rw [aa du]
          obtain rfl:k'=nb-1:=by omega
          refine aq (a_ (by omega) ?_)
          have aQ:=jU sa sb bT (by omega) fun j h1=>by have:=fX (q2 j h1);rw [dy] at this;exact cp this
          by_cases y1:(k-1 == 0)=true
          ·rw [ae y1]
           exact ao (.inl ⟨_,_,rfl,rfl,fA sa sb aQ (.inl (eq_of_beq y1))⟩)
          ·rw [aa y1]
           have gf:k-1≠0:=fun e=>y1 (by simp [e])
           exact dP (fun _=>ao (.inr ⟨_,_,_,_,_,_,_,rfl,rfl,aQ,by omega,by omega,by omega⟩)) (fun _=>ao ⟨_,_,_,_,_,_,_,rfl,rfl,aQ,by omega,by omega,by omega⟩)
      ·rw [aa zk]
       obtain rfl:k=na:=by omega
       refine aq (a_ (by have:=mi.2.2;omega) ?_)
       have bT:=tU sa sb mi (by omega) fun j h1=>by have:=jT (k2 j h1);rw [dy] at this;exact this
       by_cases x1:(nb-1 == 1)=true
       ·rw [ae x1]
        exact ao (.inl ⟨_,_,rfl,rfl,jV sa sb bT h0 (eq_of_beq x1)⟩)
       ·rw [aa x1]
        have nK:nb-1≠1:=fun e=>x1 (by simp [e])
        have nN:=bT.2.2;refine aq (a_ (by omega) (aq (gE (f:=fun i=>bB true (key (a.getD (k-1) nn)) (key (b.getD (0+i) nn))) (fun i hi Q q=>gD h (by omega) ob (oa _ (by omega)) (e8 _) q) (by omega) (fun i j h1 h2 h3=>l6 sb (o:=0) i j h1 (by omega) h3) fun k' q1 q2 q3=>?_)))
        dsimp only;by_cases du:nb-1-k'>0
        ·rw [ae du]
         have cK:=tT sa sb bT (k:=k') q1 fun i j hi bh hj=>by have:=gF (q3 i hi bh);rw [dy] at this;exact cG (eK sa (by omega) (by omega)) this
         by_cases x2:(k' == 1)=true
         ·rw [ae x2]
          exact ao (.inl ⟨_,_,rfl,rfl,jV sa sb cK h0 (eq_of_beq x2)⟩)
         ·rw [aa x2]
          have nM:k'≠1:=fun e=>x2 (by simp [e])
          by_cases x3:(k' == 0)=true
          ·rw [ae x3]
           exact ao (.inl ⟨_,_,rfl,rfl,fA sa sb cK (.inr (eq_of_beq x3))⟩)
          ·rw [aa x3]
           have zp:k'≠0:=fun e=>x3 (by simp [e])
           refine aq (a_ (by omega) ?_)
           have aQ:=jU sa sb cK (by omega) fun j h1=>by have:=fX (q2 j h1);rw [dy] at this;exact cp this
           by_cases y1:(k-1 == 0)=true
           ·rw [ae y1]
            exact ao (.inl ⟨_,_,rfl,rfl,fA sa sb aQ (.inl (eq_of_beq y1))⟩)
           ·rw [aa y1]
            have gf:k-1≠0:=fun e=>y1 (by simp [e])
            exact dP (fun _=>ao (.inr ⟨_,_,_,_,_,_,_,rfl,rfl,aQ,by omega,by omega,by omega⟩)) (fun _=>ao ⟨_,_,_,_,_,_,_,rfl,rfl,aQ,by omega,by omega,by omega⟩)
        ·rw [aa du]
         obtain rfl:k'=nb-1:=by omega
         refine aq (a_ (by omega) ?_)
         have aQ:=jU sa sb bT (by omega) fun j h1=>by have:=fX (q2 j h1);rw [dy] at this;exact cp this
         by_cases y1:(k-1 == 0)=true
         ·rw [ae y1]
          exact ao (.inl ⟨_,_,rfl,rfl,fA sa sb aQ (.inl (eq_of_beq y1))⟩)
         ·rw [aa y1]
          have gf:k-1≠0:=fun e=>y1 (by simp [e])
          exact dP (fun _=>ao (.inr ⟨_,_,_,_,_,_,_,rfl,rfl,aQ,by omega,by omega,by omega⟩)) (fun _=>ao ⟨_,_,_,_,_,_,_,rfl,rfl,aQ,by omega,by omega,by omega⟩)
    ·rintro c ar ⟨out,i,j,mg,ac,bc,g,rfl,rfl,mi,ha,hb,fZ⟩
     exact .inr ⟨_,_,_,_,_,_,_,rfl,rfl,mi,ha,hb,fZ⟩
    ·rintro c ar (⟨m,g,e,rfl,pm⟩ | ⟨out,i,j,mg,ac,bc,g,rfl,rfl,mi,ha,hb,fZ⟩)
     ·obtain ⟨c1,c2⟩:=c
      dsimp only at e;subst e;exact ao ⟨m,g,rfl,rfl,pm⟩
     ·dsimp only
      exact aq (p9 (ao ⟨_,_,_,_,_,rfl,rfl,mi,ha,hb,by omega⟩))
 ·rintro c ar ⟨out,ia,ib,mg,g,rfl,rfl,mi,ha,hb,zi⟩
  exfalso
  omega
 ·rintro c ar ⟨m,g,e,rfl,pm,sm⟩
  obtain ⟨c1,c2⟩:=c;dsimp only at e;subst e;exact ao (q m g pm sm)
end
section
variable {prog:Program} {w:World} {A:Around} {E:aI} {s:Shared} {κ:SortKind} {key:Keyed→Int} {Ok:Keyed→Prop}
def vA(key:Keyed→Int)(arr:Array Keyed)(i:Nat):Int:=key (arr.getD i nn)
def cj(key:Keyed→Int)(arr:Array Keyed)(lo hi:Nat):Prop:=∀i j,lo≤i→i≤j→j<hi→vA key arr i≤vA key arr j
def iF(key:Keyed→Int)(arr:Array Keyed)(lo hi:Nat):Prop:=∀i j,lo≤i→i≤j→j<hi→vA key arr j≤vA key arr i
structure Rl (arr aN:Array Keyed) (lo hi:Nat):Prop where
 pm:aN.Perm arr
 out:∀k,k<lo∨hi≤k→aN[k]?=arr[k]?
theorem Rl.refl(arr:Array Keyed)(lo hi:Nat):Rl arr arr lo hi:=⟨Array.Perm.refl _,fun _ _=>rfl⟩
variable {arr aN:Array Keyed} {lo hi:Nat}
theorem Rl.trans{aC:Array Keyed}(h:Rl arr aN lo hi)(h':Rl aN aC lo hi):Rl arr aC lo hi:=⟨h'.pm.trans h.pm,fun k hk=>(h'.out k hk).trans (h.out k hk)⟩
theorem Rl.size(h:Rl arr aN lo hi):aN.size=arr.size:=h.pm.size_eq
theorem Rl.wide{Dj bh:Nat}(h:Rl arr aN lo hi)(h1:Dj≤lo)(h2:hi≤bh):Rl arr aN Dj bh:=⟨h.pm,fun k hk=>h.out k (by omega)⟩
theorem i9(arr:Array Keyed)(i:Nat):arr.getD i nn=arr[i]?.getD nn:=by by_cases z:i<arr.size <;> simp [Array.getD,z]
variable {k:Nat}
theorem Rl.v(h:Rl arr aN lo hi)(hk:k<lo∨hi≤k):vA key aN k=vA key arr k:=by unfold vA;rw [i9,i9,h.out k hk]
theorem qb(h:eA Ok arr)(p:aN.Perm arr):eA Ok aN:=fun i hi=>by
 have e:aN.getD i nn=aN[i]:=by simp [Array.getD,hi]
 rw [e];have m:aN[i]∈arr:=(Array.Perm.mem_iff p).mp (Array.getElem_mem hi);obtain ⟨j,hj,ej⟩:=Array.getElem_of_mem m;rw [←ej];have:=h j hj;simpa [Array.getD,hj] using this
theorem Rl.ok(h:Rl arr aN lo hi)(ok:eA Ok arr):eA Ok aN:=qb ok h.pm
theorem i_(hj:j≤arr.size):Rl arr (mirror arr i j ((j-i) / 2)) i j:=⟨mirror_perm ..,fun k hk=>by rw [getElem?_mirror_all hj,aa (by omega)]⟩
theorem wj(hj:j≤arr.size)(h1:i≤k)(h2:k<j):vA key (mirror arr i j ((j-i) / 2)) k=vA key arr (i+j-1-k):=by unfold vA;rw [i9,i9,getElem?_mirror_all hj,ae ⟨h1,h2⟩]
abbrev aV (κ:SortKind) (arr:Array Keyed) (pend:Array (Nat×Nat×Nat)) (g:Nat):SortSt:=SortSt.mk' κ arr pend g none
variable {arr:Array Keyed} {pend:Array (Nat×Nat×Nat)} {g:Nat}
theorem ja(h:iz prog w A s κ key Ok)(ok:eA Ok arr)(hi:i<arr.size)(hj:j<arr.size){Q:Option Bool→SortSt→Prop}(q:Q (some (decide (vA key arr i<vA key arr j))) (aV κ arr pend g)):wpS (model prog w) A E s (ltAt' i j) Q (aV κ arr pend g):=by rw [ltAt'_eq];refine aq (gN ?_);exact aq (a_ hi (aq (a_ hj (tQ h (ok _ hi) (ok _ hj) rfl q))))
theorem kJ{Q:Unit→SortSt→Prop}(q:Q () (aV κ (mirror arr i j ((j-i) / 2)) pend g)):wpS (model prog w) A E s (reverseSlice' i j) Q (aV κ arr pend g):=by rw [reverseSlice'_eq];exact iT q
variable {n:Nat}
theorem cj.more(h:cj key arr lo (lo+n))(n1:1≤n)(c:vA key arr (lo+n-1)≤vA key arr (lo+n)):cj key arr lo (lo+(n+1)):=fun i j h1 h2 h3=>by
 by_cases z:j<lo+n;·exact h i j h1 h2 z
 ·obtain rfl:j=lo+n:=by omega
  by_cases y:i=lo+n;·rw [y];exact kd _
  ·exact cG (h i (lo+n-1) h1 (by omega) (by omega)) c
theorem iF.more(h:iF key arr lo (lo+n))(n1:1≤n)(c:vA key arr (lo+n)≤vA key arr (lo+n-1)):iF key arr lo (lo+(n+1)):=fun i j h1 h2 h3=>by
 by_cases z:j<lo+n;·exact h i j h1 h2 z
 ·obtain rfl:j=lo+n:=by omega
  by_cases y:i=lo+n;·rw [y];exact kd _
  ·exact cG c (h i (lo+n-1) h1 (by omega) (by omega))
def tV(key:Keyed→Int)(arr:Array Keyed)(lo n q:Nat):Prop:=q+1≤n∧∀i,lo+n-(q+1)≤i→i<lo+n→vA key arr i=vA key arr (lo+n-1)
theorem wk{q:Nat}(hz:lo+n≤arr.size)(d:iF key arr lo (lo+n))(e:tV key arr lo n q):iF key (mirror arr (lo+n-(q+1)) (lo+n) ((lo+n-(lo+n-(q+1))) / 2)) lo (lo+n)∧∀k,vA key (mirror arr (lo+n-(q+1)) (lo+n) ((lo+n-(lo+n-(q+1))) / 2)) k=vA key arr k:=by
 have hv:∀k,vA key (mirror arr (lo+n-(q+1)) (lo+n) ((lo+n-(lo+n-(q+1))) / 2)) k=vA key arr k:=fun k=>by
  by_cases z:lo+n-(q+1)≤k∧k<lo+n;·rw [wj hz z.1 z.2,e.2 _ (by have:=e.1;omega) (by omega),e.2 k z.1 z.2]
  ·exact (i_ hz).v (by omega)
 refine ⟨fun i j h1 h2 h3=>?_,hv⟩;rw [hv,hv];exact d i j h1 h2 h3
theorem wm(hz:lo+n≤arr.size)(d:iF key arr lo (lo+n)):cj key (mirror arr lo (lo+n) ((lo+n-lo) / 2)) lo (lo+n):=fun i j h1 h2 h3=>by
 rw [wj hz h1 (by omega),wj hz (by omega) h3]
 exact d _ _ (by omega) (by omega) (by omega)
end
section
variable {prog:Program} {w:World} {A:Around} {E:aI} {s:Shared} {κ:SortKind} {key:Keyed→Int} {Ok:Keyed→Prop} {arr:Array Keyed} {pend:Array (Nat×Nat×Nat)} {g:Nat}
variable {lo bU:Nat}
theorem tW(h:iz prog w A s κ key Ok)(ok:eA Ok arr){m:Nat}(hz:lo+bU≤arr.size)(m1:1≤m)(mn:m≤bU)(sg:cj key arr lo (lo+m)){body:Nat→Option (Option Nat)×Nat→StateT SortSt Sem (ForInStep (Option (Option Nat)×Nat))}{R:Option (Option Nat)×Nat→SortSt→Prop}
  (hb:∀x n (R:ForInStep (Option (Option Nat)×Nat)→SortSt→Prop),1≤n→n<bU→R (if vA key arr (lo+n)<vA key arr (lo+n-1) then .done (none,n) else .yield (none,n+1)) (aV κ arr pend g)→wpS (model prog w) A E s (body x (none,n)) R (aV κ arr pend g))
  (k:∀n,m≤n→n≤bU→cj key arr lo (lo+n)→(n<bU→vA key arr (lo+n)<vA key arr (lo+n-1))→R (none,n) (aV κ arr pend g)) :
  wpS (model prog w) A E s (forIn [m:bU] (none,m) body) R (aV κ arr pend g):=by
 refine eE (I:=fun x c ar=>ar=aV κ arr pend g∧c=(none,x)∧m≤x∧x≤bU∧cj key arr lo (lo+x)) ?_ ?_ ⟨rfl,rfl,av _,mn,sg⟩
 ·rintro x c ar _ hx ⟨rfl,rfl,g1,g2,g3⟩
  refine hb x x _ (by omega) hx ?_
  by_cases z:vA key arr (lo+x)<vA key arr (lo+x-1)
  ·rw [ae z]
   exact k x g1 g2 g3 fun _=>z
  ·rw [aa z]
   exact ⟨rfl,rfl,by omega,by omega,g3.more (by omega) (Int.not_lt.mp z)⟩
 ·rintro c ar ⟨rfl,rfl,g1,g2,g3⟩
  have e:max m bU=bU:=by omega
  rw [e] at g3 ⊢;exact k bU mn (av _) g3 fun z=>absurd z (d7 _)
theorem KI(h:iz prog w A s κ key Ok)(ok:eA Ok arr)(hz:lo+bU≤arr.size)(n1:1≤bU){Q:Option Nat→SortSt→Prop}
  (k:∀n aN,1≤n→n≤bU→Rl arr aN lo (lo+bU)→cj key aN lo (lo+n)→Q (some n) (aV κ aN pend g)):wpS (model prog w) A E s (countRun' lo bU) Q (aV κ arr pend g):=by
 rw [countRun'_eq];refine aq (tW h ok hz (av 1) n1 (fun i j h1 h2 h3=>by rw [show i=j by omega];exact kd _) ?_ fun n m1 mn sg br=>?_)
 ·intro x n R a1 a2 r
  dsimp only;refine aq (ja h ok (by omega) (by omega) ?_)
  dsimp only;by_cases z:vA key arr (lo+n)<vA key arr (lo+n-1)
  ·rw [ae z] at r
   rw [bF z,ae rfl];exact ao r
  ·rw [aa z] at r
   rw [bX z,aa (by simp)]
   exact ao r
 dsimp only;by_cases e1:(n == bU)=true
 ·rw [ae e1]
  exact ao (k n arr m1 mn (Rl.refl ..) sg)
 rw [aa e1];have aZ:n<bU:=by
  have:n≠bU:=fun e=>e1 (by simp [e])
  omega
 have Dk:=br aZ;by_cases e2:n>1
 ·rw [ae e2]
  refine aq (ja h ok (by omega) (by omega) ?_)
  dsimp only;by_cases z:vA key arr lo<vA key arr (lo+n-1)
  ·rw [bF z,ae rfl]
   exact ao (k n arr m1 mn (Rl.refl ..) sg)
  ·rw [bX z,aa (by simp)]
   refine aq (kJ ?_);have ev:∀i,lo≤i→i<lo+n→vA key arr i=vA key arr (lo+n-1):=fun i h1 h2=>by
    have a1:=sg lo i (av _) h1 h2;have a2:=sg i (lo+n-1) h1 (by omega) (by omega)
    omega
   have hv:∀i,vA key (mirror arr lo (lo+n) ((lo+n-lo) / 2)) i=vA key arr i:=fun i=>by
    by_cases y:lo≤i∧i<lo+n;·rw [wj (by omega) y.1 y.2,ev _ (by omega) (by omega),ev i y.1 y.2]
    ·exact (i_ (by omega)).v (by omega)
   have d1:iF key (mirror arr lo (lo+n) ((lo+n-lo) / 2)) lo (lo+n):=fun i j h1 h2 h3=>by
    rw [hv,hv,ev i h1 (by omega),ev j (by omega) h3]
    exact kd _
   have wo:Rl arr (mirror arr lo (lo+n) ((lo+n-lo) / 2)) lo (lo+bU):=(i_ (by omega)).wide (av _) (by omega)
   have Dm:vA key (mirror arr lo (lo+n) ((lo+n-lo) / 2)) (lo+n)<vA key (mirror arr lo (lo+n) ((lo+n-lo) / 2)) (lo+n-1):=by rw [hv,hv];exact Dk
   generalize mirror arr lo (lo+n) ((lo+n-lo) / 2)=KJ at d1 wo Dm ⊢;refine aq (wpS_lift (mR ⟨rfl,?_⟩))
   refine aq (eU (eE (I:=fun x c ar=>∃(aC:Array Keyed) (q:Nat),ar=aV κ aC pend g∧c=(none,x,q)∧Rl arr aC lo (lo+bU)∧iF key aC lo (lo+x)∧tV key aC lo x q∧x≤bU∧1≤x)
    (Q:=fun c ar=>∃(aC:Array Keyed) (n q:Nat),ar=aV κ aC pend g∧c=(none,n,q)∧Rl arr aC lo (lo+bU)∧iF key aC lo (lo+n)∧tV key aC lo n q∧n≤bU∧1≤n) ?_ ?_ ⟨KJ,0,rfl,rfl,wo,d1.more (by omega) (cp Dm),⟨by omega,fun i h1 h2=>by rw [show i=lo+(n+1)-1 by omega]⟩,by omega,by omega⟩) ?_)
   ·rintro x c ar _ hx ⟨aC,q,rfl,rfl,cX,d2,e2,x1,x2⟩
    have iG:=cX.ok ok;have z2:=cX.size;dsimp only;refine aq (ja h iG (by omega) (by omega) ?_)
    dsimp only;by_cases z:vA key aC (lo+x)<vA key aC (lo+x-1)
    ·rw [bF z,ae rfl]
     by_cases y:q>0
     ·rw [ae y]
      refine aq (kJ (ao ?_));obtain ⟨d3,hv⟩:=wk (by omega) d2 e2
      refine ⟨_,0,rfl,rfl,cX.trans ((i_ (by omega)).wide (by have:=e2.1;omega) (by omega)),d3.more (by omega) (by rw [hv,hv];exact cp z),⟨by omega,fun i h1 h2=>by rw [show i=lo+(x+1)-1 by omega]⟩,by omega,by omega⟩
     ·rw [aa y]
      exact ao ⟨_,0,rfl,rfl,cX,d2.more (by omega) (cp z),⟨by omega,fun i h1 h2=>by rw [show i=lo+(x+1)-1 by omega]⟩,by omega,by omega⟩
    ·rw [bX z,aa (by simp)]
     refine aq (ja h iG (by omega) (by omega) ?_)
     dsimp only;by_cases y:vA key aC (lo+x-1)<vA key aC (lo+x)
     ·rw [bF y,ae rfl]
      exact ao ⟨_,_,_,rfl,rfl,cX,d2,e2,x1,x2⟩
     ·rw [bX y,aa (by simp)]
      have ev:vA key aC (lo+x)=vA key aC (lo+x-1):=by omega
      refine ao ⟨_,_,rfl,rfl,cX,d2.more (by omega) (by omega),⟨by have:=e2.1;omega,fun i h1 h2=>?_⟩,by omega,by omega⟩
      rw [show lo+(x+1)-1=lo+x by omega]
      by_cases w:i=lo+x;·rw [w]
      ·rw [ev]
       exact e2.2 i (by omega) (by omega)
   ·rintro c ar ⟨aC,q,rfl,rfl,cX,d2,e2,x1,x2⟩
    exact ⟨aC,_,q,rfl,rfl,cX,d2,e2,x1,x2⟩
   ·rintro c ar ⟨aC,n2,q2,rfl,rfl,cX,d2,e2,x1,x2⟩
    have z2:=cX.size;dsimp only;by_cases y:q2>0
    ·rw [ae y]
     obtain ⟨d3,hv⟩:=wk (by omega) d2 e2
     refine aq (kJ (aq (kJ ?_)));have jb:=cX.trans ((i_ (arr:=aC) (i:=lo+n2-(q2+1)) (j:=lo+n2) (by omega)).wide (by have:=e2.1;omega) (show lo+n2≤lo+bU by omega))
     generalize mirror aC (lo+n2-(q2+1)) (lo+n2) _=bW at d3 jb ⊢;have z3:=jb.size;have e9:=wm (by omega) d3
     have bw:=jb.trans ((i_ (arr:=bW) (i:=lo) (j:=lo+n2) (by omega)).wide (av lo) (show lo+n2≤lo+bU by omega))
     generalize mirror bW lo (lo+n2) _=aR at e9 bw ⊢;have jc:=Rl.ok bw ok;have z4:=Rl.size bw;refine aq (tW h jc (by omega) (by omega) (by omega) e9 ?_ fun m m1 mn nO _=>ao (k m aR (by omega) mn bw nO))
     intro x n R a1 a2 r;dsimp only;refine aq (ja h jc (by omega) (by omega) ?_)
     dsimp only;by_cases z:vA key aR (lo+n)<vA key aR (lo+n-1)
     ·rw [ae z] at r
      rw [bF z,ae rfl];exact ao r
     ·rw [aa z] at r
      rw [bX z,aa (by simp)]
      exact ao r
    ·rw [aa y]
     refine aq (kJ ?_);have e9:=wm (by omega) d2
     have bw:=cX.trans ((i_ (arr:=aC) (i:=lo) (j:=lo+n2) (by omega)).wide (av lo) (show lo+n2≤lo+bU by omega))
     generalize mirror aC lo (lo+n2) _=aR at e9 bw ⊢;have jc:=Rl.ok bw ok;have z4:=Rl.size bw;refine aq (tW h jc (by omega) (by omega) (by omega) e9 ?_ fun m m1 mn nO _=>ao (k m aR (by omega) mn bw nO))
     intro x n R a1 a2 r;dsimp only;refine aq (ja h jc (by omega) (by omega) ?_)
     dsimp only;by_cases z:vA key aR (lo+n)<vA key aR (lo+n-1)
     ·rw [ae z] at r
      rw [bF z,ae rfl];exact ao r
     ·rw [aa z] at r
      rw [bX z,aa (by simp)]
      exact ao r
 ·rw [aa e2]
  have d1:iF key arr lo (lo+n):=fun i j h1 h2 h3=>by
   rw [show i=j by omega]
   exact kd _
  have wo:Rl arr arr lo (lo+bU):=Rl.refl ..;refine aq (wpS_lift (mR ⟨rfl,?_⟩))
  refine aq (eU (eE (I:=fun x c ar=>∃(aC:Array Keyed) (q:Nat),ar=aV κ aC pend g∧c=(none,x,q)∧Rl arr aC lo (lo+bU)∧iF key aC lo (lo+x)∧tV key aC lo x q∧x≤bU∧1≤x)
   (Q:=fun c ar=>∃(aC:Array Keyed) (n q:Nat),ar=aV κ aC pend g∧c=(none,n,q)∧Rl arr aC lo (lo+bU)∧iF key aC lo (lo+n)∧tV key aC lo n q∧n≤bU∧1≤n) ?_ ?_ ⟨arr,0,rfl,rfl,wo,d1.more (by omega) (cp Dk),⟨by omega,fun i h1 h2=>by rw [show i=lo+(n+1)-1 by omega]⟩,by omega,by omega⟩) ?_)
  ·rintro x c ar _ hx ⟨aC,q,rfl,rfl,cX,d2,e2,x1,x2⟩
   have iG:=cX.ok ok;have z2:=cX.size;dsimp only;refine aq (ja h iG (by omega) (by omega) ?_)
   dsimp only;by_cases z:vA key aC (lo+x)<vA key aC (lo+x-1)
   ·rw [bF z,ae rfl]
    by_cases y:q>0
    ·rw [ae y]
     refine aq (kJ (ao ?_));obtain ⟨d3,hv⟩:=wk (by omega) d2 e2
     refine ⟨_,0,rfl,rfl,cX.trans ((i_ (by omega)).wide (by have:=e2.1;omega) (by omega)),d3.more (by omega) (by rw [hv,hv];exact cp z),⟨by omega,fun i h1 h2=>by rw [show i=lo+(x+1)-1 by omega]⟩,by omega,by omega⟩
    ·rw [aa y]
     exact ao ⟨_,0,rfl,rfl,cX,d2.more (by omega) (cp z),⟨by omega,fun i h1 h2=>by rw [show i=lo+(x+1)-1 by omega]⟩,by omega,by omega⟩
   ·rw [bX z,aa (by simp)]
    refine aq (ja h iG (by omega) (by omega) ?_)
    dsimp only;by_cases y:vA key aC (lo+x-1)<vA key aC (lo+x)
    ·rw [bF y,ae rfl]
     exact ao ⟨_,_,_,rfl,rfl,cX,d2,e2,x1,x2⟩
    ·rw [bX y,aa (by simp)]
     have ev:vA key aC (lo+x)=vA key aC (lo+x-1):=by omega
     refine ao ⟨_,_,rfl,rfl,cX,d2.more (by omega) (by omega),⟨by have:=e2.1;omega,fun i h1 h2=>?_⟩,by omega,by omega⟩
     rw [show lo+(x+1)-1=lo+x by omega]
     by_cases w:i=lo+x;·rw [w]
     ·rw [ev]
      exact e2.2 i (by omega) (by omega)
  ·rintro c ar ⟨aC,q,rfl,rfl,cX,d2,e2,x1,x2⟩
   exact ⟨aC,_,q,rfl,rfl,cX,d2,e2,x1,x2⟩
  ·rintro c ar ⟨aC,n2,q2,rfl,rfl,cX,d2,e2,x1,x2⟩
   have z2:=cX.size;dsimp only;by_cases y:q2>0
   ·rw [ae y]
    obtain ⟨d3,hv⟩:=wk (by omega) d2 e2
    refine aq (kJ (aq (kJ ?_)));have jb:=cX.trans ((i_ (arr:=aC) (i:=lo+n2-(q2+1)) (j:=lo+n2) (by omega)).wide (by have:=e2.1;omega) (show lo+n2≤lo+bU by omega))
    generalize mirror aC (lo+n2-(q2+1)) (lo+n2) _=bW at d3 jb ⊢;have z3:=jb.size;have e9:=wm (by omega) d3
    have bw:=jb.trans ((i_ (arr:=bW) (i:=lo) (j:=lo+n2) (by omega)).wide (av lo) (show lo+n2≤lo+bU by omega))
    generalize mirror bW lo (lo+n2) _=aR at e9 bw ⊢;have jc:=Rl.ok bw ok;have z4:=Rl.size bw;refine aq (tW h jc (by omega) (by omega) (by omega) e9 ?_ fun m m1 mn nO _=>ao (k m aR (by omega) mn bw nO))
    intro x n R a1 a2 r;dsimp only;refine aq (ja h jc (by omega) (by omega) ?_)
    dsimp only;by_cases z:vA key aR (lo+n)<vA key aR (lo+n-1)
    ·rw [ae z] at r
     rw [bF z,ae rfl];exact ao r
    ·rw [aa z] at r
     rw [bX z,aa (by simp)]
     exact ao r
   ·rw [aa y]
    refine aq (kJ ?_);have e9:=wm (by omega) d2
    have bw:=cX.trans ((i_ (arr:=aC) (i:=lo) (j:=lo+n2) (by omega)).wide (av lo) (show lo+n2≤lo+bU by omega))
    generalize mirror aC lo (lo+n2) _=aR at e9 bw ⊢;have jc:=Rl.ok bw ok;have z4:=Rl.size bw;refine aq (tW h jc (by omega) (by omega) (by omega) e9 ?_ fun m m1 mn nO _=>ao (k m aR (by omega) mn bw nO))
    intro x n R a1 a2 r;dsimp only;refine aq (ja h jc (by omega) (by omega) ?_)
    dsimp only;by_cases z:vA key aR (lo+n)<vA key aR (lo+n-1)
    ·rw [ae z] at r
     rw [bF z,ae rfl];exact ao r
    ·rw [aa z] at r
     rw [bX z,aa (by simp)]
     exact ao r
end
section
variable {prog:Program} {w:World} {A:Around} {E:aI} {s:Shared} {κ:SortKind} {key:Keyed→Int} {Ok:Keyed→Prop} {arr:Array Keyed} {pend:Array (Nat×Nat×Nat)} {g:Nat}
theorem KN{Q:Unit→SortSt→Prop}(q:Q () (aV κ (bubble arr i (i-j)) pend g)):wpS (model prog w) A E s (moveDown' i j) Q (aV κ arr pend g):=by rw [moveDown'_eq];exact iT q
variable {d:Nat}
theorem Dn{k:Nat}(hi:i<arr.size)(hd:d≤i):vA key (bubble arr i d) k=if k=i-d then vA key arr i else if i-d<k∧k≤i then vA key arr (k-1) else vA key arr k:=by
 unfold vA;rw [i9,getElem?_bubble hi d hd,i9 arr i,i9 arr (k-1),i9 arr k];by_cases a:k=i-d;·rw [ae a,ae a]
 ·rw [aa a,aa a]
  by_cases b:i-d<k∧k≤i;·rw [ae b,ae b]
  ·rw [aa b,aa b]
variable {lo:Nat}
theorem KO{hi:Nat}(h:i<arr.size)(hd:d≤i)(h1:lo≤i-d)(h2:i<hi):Rl arr (bubble arr i d) lo hi:=⟨bubble_perm ..,fun k hk=>by rw [getElem?_bubble h d hd,aa (by omega),aa (by omega)]⟩
theorem KP(h:iz prog w A s κ key Ok)(ok:eA Ok arr){n m:Nat}(hz:lo+n≤arr.size)(m1:1≤m)(mn:m≤n)(sg:cj key arr lo (lo+m)){Q:Bool→SortSt→Prop}
  (k:∀aN,Rl arr aN lo (lo+n)→cj key aN lo (lo+n)→Q true (aV κ aN pend g)):wpS (model prog w) A E s (binarySort' lo n m) Q (aV κ arr pend g):=by
 rw [binarySort'_eq];have em:max m 1=m:=by omega
 rw [em]
 refine aq (eU (eE (I:=fun x c ar=>∃aC:Array Keyed,ar=aV κ aC pend g∧c=(none,())∧Rl arr aC lo (lo+n)∧cj key aC lo (lo+x)∧m≤x∧x≤n)
  (Q:=fun c ar=>∃aC:Array Keyed,ar=aV κ aC pend g∧c=(none,())∧Rl arr aC lo (lo+n)∧cj key aC lo (lo+n)) ?_ ?_ ⟨arr,rfl,rfl,Rl.refl ..,sg,av _,mn⟩) ?_)
 ·rintro x c ar _ hx ⟨aC,rfl,rfl,rl,sg,x1,x2⟩
  have iG:=rl.ok ok;have z2:=rl.size;dsimp only
  refine aq (eU (eE (I:=fun y c ar=>∃l r:Nat,ar=aV κ aC pend g∧c=(none,l,r)∧l≤r∧r≤x∧r-l+y≤x∧(∀i,i<l→vA key aC (lo+i)≤vA key aC (lo+x))∧(∀i,r≤i→i<x→vA key aC (lo+x)≤vA key aC (lo+i)))
   (Q:=fun c ar=>∃l:Nat,ar=aV κ aC pend g∧c=(none,l,l)∧l≤x∧(∀i,i<l→vA key aC (lo+i)≤vA key aC (lo+x))∧(∀i,l≤i→i<x→vA key aC (lo+x)≤vA key aC (lo+i))) ?_ ?_ ⟨0,x,rfl,rfl,by omega,av _,show x-0+0≤x by omega,fun i hi=>absurd hi (mL _),fun i h1 h2=>by omega⟩) ?_)
  ·rintro y c ar _ hy ⟨l,r,rfl,rfl,g1,g2,g3,g4,g5⟩
   dsimp only;by_cases z:l≥r
   ·rw [ae z]
    obtain rfl:l=r:=by omega
    exact ao ⟨l,rfl,rfl,g2,g4,g5⟩
   ·rw [aa z]
    refine aq (ja h iG (by omega) (by omega) ?_)
    dsimp only;by_cases w:vA key aC (lo+x)<vA key aC (lo+(l+r) / 2)
    ·rw [bF w,ae rfl]
     exact ao ⟨l,_,rfl,rfl,by omega,by omega,by omega,g4,fun i h1 h2=>cG (cp w) (sg _ _ (by omega) (by omega) (by omega))⟩
    ·rw [bX w,aa (by simp)]
     exact ao ⟨_,r,rfl,rfl,by omega,g2,by omega,fun i h1=>cG (sg _ _ (by omega) (by omega) (by omega)) (Int.not_lt.mp w),g5⟩
  ·rintro c ar ⟨l,r,rfl,rfl,g1,g2,g3,g4,g5⟩
   have:max 0 x=x:=by omega
   obtain rfl:l=r:=by omega
   exact ⟨l,rfl,rfl,g2,g4,g5⟩
  ·rintro c ar ⟨l,rfl,rfl,g2,g4,g5⟩
   dsimp only;refine aq (KN (ao ?_));have ed:lo+x-(lo+l)=x-l:=by omega
   rw [ed];refine ⟨_,rfl,rfl,rl.trans (KO (by omega) (by omega) (by omega) (by omega)),fun i j h1 h2 h3=>?_,by omega,by omega⟩
   have e0:lo+x-(x-l)=lo+l:=by omega
   rw [Dn (by omega) (by omega),Dn (by omega) (by omega),e0]
   have f4:∀i,lo≤i→i<lo+l→vA key aC i≤vA key aC (lo+x):=fun i a b=>by have:=g4 (i-lo) (by omega);rwa [show lo+(i-lo)=i by omega] at this
   have f5:∀i,lo+l≤i→i<lo+x→vA key aC (lo+x)≤vA key aC i:=fun i a b=>by have:=g5 (i-lo) (by omega) (by omega);rwa [show lo+(i-lo)=i by omega] at this
   by_cases a1:i=lo+l
   ·rw [ae a1]
    by_cases b1:j=lo+l;·rw [ae b1];exact kd _
    ·rw [aa b1,ae (by omega)]
     exact f5 _ (by omega) (by omega)
   ·rw [aa a1]
    by_cases a2:lo+l<i∧i≤lo+x
    ·rw [ae a2,aa (by omega),ae (by omega)]
     exact sg _ _ (by omega) (by omega) (by omega)
    ·rw [aa a2]
     by_cases b1:j=lo+l
     ·rw [ae b1]
      exact f4 i h1 (by omega)
     ·rw [aa b1]
      by_cases b2:lo+l<j∧j≤lo+x
      ·rw [ae b2]
       exact cG (f4 i h1 (by omega)) (f5 _ (by omega) (by omega))
      ·rw [aa b2]
       exact sg _ _ (by omega) (by omega) (by omega)
 ·rintro c ar ⟨aC,rfl,rfl,rl,sg,x1,x2⟩
  have:max m n=n:=by omega
  rw [this] at sg;exact ⟨aC,rfl,rfl,rl,sg⟩
 ·rintro c ar ⟨aC,rfl,rfl,rl,sg⟩
  exact ao (k aC rl sg)
end
theorem KQ(i:Nat):mergeAt' i=(do
 let s ←get
 let (some (sa,na,power),some (sb,nb,_)):=((pendingOf s)[i]?,(pendingOf s)[i+1]?) | unsupported "internal:list.sort.pending"
 set (setPending s (((pendingOf s).setIfInBounds i (sa,na+nb,power)).eraseIdxIfInBounds (i+1)))
 let some k ←lZ false (←elem' (arrOf s) sb) (arrOf s) sa na 0 | return false
 let (sa,na):=(sa+k,na-k)
 if na == 0 then return true
 let some nb ←lZ true (←elem' (arrOf s) (sa+na-1)) (arrOf s) sb nb (nb-1) | return false
 if nb == 0 then return true
 let x:=(arrOf s).extract sa sb
 let y:=(arrOf s).extract sb (sb+nb)
 let merged ←if na≤nb then zc x y else zd x y
 modify fun s=>setArr s (merged.toList.zipIdx.foldl (fun a (p,j)=>a.setIfInBounds (sa+j) p) (arrOf s))
 return (failedOf (←get)).isNone):=rfl
def putL(m:List Keyed)(o:Nat)(arr:Array Keyed)(n:Nat):Array Keyed:=(m.zipIdx n).foldl (fun a (p,j)=>a.setIfInBounds (o+j) p) arr
theorem Dp(m:List Keyed)(o:Nat):∀(arr:Array Keyed) (n k:Nat),o+n+m.length≤arr.size→(putL m o arr n)[k]?=if o+n≤k∧k<o+n+m.length then m[k-(o+n)]? else arr[k]?:=by
 induction m with
 | nil=>
  intro arr n k _;rw [aa (by simp)]
  rfl
 | cons x m ih=>
  intro arr n k hz;rw [d9] at hz ⊢;show (putL m o (arr.setIfInBounds (o+n) x) (n+1))[k]?=_;rw [ih _ _ _ (by simp;omega)]
  by_cases a:o+(n+1)≤k∧k<o+(n+1)+m.length
  ·rw [ae a,ae (by omega),show k-(o+n)=(k-(o+(n+1)))+1 by omega]
   rfl
  ·rw [aa a]
   by_cases b:k=o+n
   ·subst b
    rw [ae (by omega),pA]
    simp [show o+n<arr.size by omega]
   ·rw [aa (by omega)]
    rw [Array.getElem?_setIfInBounds_ne (by omega)]
theorem KR{o:Nat}{arr:Array Keyed}(hz:o+m.length≤arr.size):(putL m o arr 0).toList=arr.toList.take o++m++arr.toList.drop (o+m.length):=by
 refine rT fun k=>?_;have e:(putL m o arr 0).toList[k]?=(putL m o arr 0)[k]?:=by simp
 rw [e,Dp m o arr 0 k (by omega),rW]
 by_cases a:k<o
 ·rw [aa (by omega),fg,fG (by simp;omega),List.getElem?_take_of_lt a]
  simp
 ·by_cases b:k<o+m.length
  ·rw [ae (by omega),fg,fF (by simp;omega),fG (by simp;omega)]
   congr 1
   simp;omega
  ·rw [aa (by omega),fF (by simp;omega),List.getElem?_drop]
   have:o+m.length+(k-(arr.toList.take o++m).length)=k:=by simp;omega
   rw [this];simp
section
variable {prog:Program} {w:World} {A:Around} {E:aI} {s:Shared} {κ:SortKind} {key:Keyed→Int} {Ok:Keyed→Prop} {arr:Array Keyed} {pend:Array (Nat×Nat×Nat)} {g:Nat}
variable {lo hi:Nat}
theorem Dq(h:cj key arr lo hi)(hz:hi≤arr.size):a7 key (arr.extract lo hi).toList:=by
 unfold a7;rw [pD];intro i j bh hj zh;have h1:i<hi-lo∧j<hi-lo:=by simp at bh hj;omega
 have:=h (lo+i) (lo+j) (by omega) (by omega) (by omega)
 unfold vA at this;simpa [Array.getD,show lo+i<arr.size by omega,show lo+j<arr.size by omega] using this
theorem zq(hz:hi≤arr.size)(bh:lo+i<hi):(arr.extract lo hi).getD i nn=arr.getD (lo+i) nn:=by simp [Array.getD,show lo+i<arr.size by omega,show i<min hi arr.size-lo by omega]
theorem Dr(ok:eA Ok arr)(hz:hi≤arr.size):eA Ok (arr.extract lo hi):=fun i bh=>by
 have:lo+i<hi:=by simp at bh;omega
 rw [zq hz this];exact ok _ (by omega)
theorem ext_mem(hz:hi≤arr.size){x:Keyed}(hx:x∈(arr.extract lo hi).toList):∃j,lo≤j∧j<hi∧x=arr.getD j nn:=kI hz hx
theorem KS{σ:Type}{st ar:σ}{Q:PUnit→σ→Prop}{M:Model}(q:Q ⟨⟩ ar):wpS M A E s (set ar:StateT σ Sem PUnit) Q st:=by unfold wpS;rw [StateT.run_set];exact dm ⟨rfl,q⟩
variable {sa na nb:Nat}
theorem KU{sb a8 bL:Nat}{m:Array Keyed}(hz:sb+nb≤arr.size)(h0:sa+na=sb)(hk:a8≤na)(hb:bL≤nb)(pm:m.toList.Perm ((arr.extract (sa+a8) sb).toList++(arr.extract sb (sb+bL)).toList))(sm:a7 key m.toList)
  (s1:cj key arr sa sb) (s2:cj key arr sb (sb+nb)) (KW:a8<na) (Ds:1≤nb)
  (c1:∀i,i<a8→vA key arr (sa+i)≤vA key arr sb) (c2:∀i,bL≤i→i<nb→vA key arr (sb-1)≤vA key arr (sb+i)) :
  Rl arr (putL m.toList (sa+a8) arr 0) sa (sb+nb)∧cj key (putL m.toList (sa+a8) arr 0) sa (sb+nb):=by
 have lm:m.toList.length=(na-a8)+bL:=by rw [pm.length_eq,dF,iC,iC];simp;omega
 have hsz:sa+a8+m.toList.length≤arr.size:=by omega
 have at':=Dp m.toList (sa+a8) arr 0;have rl:Rl arr (putL m.toList (sa+a8) arr 0) sa (sb+nb):=by
  refine ⟨mS.mpr ?_,fun k e8=>?_⟩
  ·rw [KR hsz]
   have e:arr.toList=arr.toList.take (sa+a8)++((arr.extract (sa+a8) sb).toList++(arr.extract sb (sb+bL)).toList)++arr.toList.drop (sa+a8+m.toList.length):=by
    rw [iC,iC,show sa+a8+m.toList.length=sb+bL by omega,show sb+bL-sb=bL by omega]
    have t1:arr.toList.drop (sa+a8)=(arr.toList.drop (sa+a8)).take (sb-(sa+a8))++arr.toList.drop sb:=by
     have:=(mQ (sb-(sa+a8)) (arr.toList.drop (sa+a8))).symm;rw [List.drop_drop,show sa+a8+(sb-(sa+a8))=sb by omega] at this
     exact this
    have t2:arr.toList.drop sb=(arr.toList.drop sb).take bL++arr.toList.drop (sb+bL):=by have:=(mQ bL (arr.toList.drop sb)).symm;rw [List.drop_drop] at this;exact this
    have t0:=(mQ (sa+a8) arr.toList).symm;rw [t1,t2] at t0;rw [fg,fg];exact t0
   refine List.Perm.trans ?_ (List.Perm.of_eq e.symm);exact List.Perm.append_right _ (yj _ pm)
  ·rw [at' k (by omega),aa (by omega)]
 have vo:∀k,k<sa+a8∨sb+bL≤k→vA key (putL m.toList (sa+a8) arr 0) k=vA key arr k:=fun k e8=>by unfold vA;rw [i9,at' k (by omega),aa (by omega),i9]
 have vm:∀k,sa+a8≤k→k<sb+bL→∃hj:k-(sa+a8)<m.toList.length,vA key (putL m.toList (sa+a8) arr 0) k=key (m.toList[k-(sa+a8)]'hj):=fun k h1 h2=>by
  have hj:k-(sa+a8)<m.toList.length:=by omega
  refine ⟨hj,?_⟩;unfold vA;rw [i9,at' k (by omega),ae (by omega),rW,b9 hj]
  rfl
 have vq:∀k,sa+a8≤k→k<sb+bL→∃q,sa+a8≤q∧q<sb+bL∧vA key (putL m.toList (sa+a8) arr 0) k=vA key arr q:=fun k h1 h2=>by
  obtain ⟨hj,e⟩:=vm k h1 h2;have mm:=pm.mem_iff.mp (cR hj);rcases dw.mp mm with mm | mm
  ·obtain ⟨q,q1,q2,eq⟩:=ext_mem (by omega) mm
   exact ⟨q,q1,by omega,by rw [e,eq];rfl⟩
  ·obtain ⟨q,q1,q2,eq⟩:=ext_mem (by omega) mm
   exact ⟨q,by omega,q2,by rw [e,eq];rfl⟩
 have d1:∀i,sa≤i→i<sa+a8→vA key arr i≤vA key arr sb:=fun i a b=>by
  have:=c1 (i-sa) (by omega)
  rwa [show sa+(i-sa)=i by omega] at this
 have d2:∀j,sb+bL≤j→j<sb+nb→vA key arr (sb-1)≤vA key arr j:=fun j a b=>by
  have:=c2 (j-sb) (by omega) (by omega)
  rwa [show sb+(j-sb)=j by omega] at this
 refine ⟨rl,fun i j h1 h2 h3=>?_⟩;by_cases i1:i<sa+a8
 ·rw [vo i (.inl i1)]
  by_cases j1:j<sa+a8
  ·rw [vo j (.inl j1)]
   exact s1 i j h1 h2 (by omega)
  ·by_cases j2:j<sb+bL
   ·obtain ⟨q,q1,q2,e⟩:=vq j (by omega) j2
    rw [e];by_cases q3:q<sb;·exact s1 i q h1 (by omega) q3
    ·exact cG (d1 i h1 i1) (s2 sb q (av _) (by omega) (by omega))
   ·rw [vo j (.inr (by omega))]
    exact cG (d1 i h1 i1) (s2 sb j (av _) (by omega) h3)
 ·by_cases i2:i<sb+bL
  ·by_cases j2:j<sb+bL
   ·obtain ⟨x1,e1⟩:=vm i (by omega) i2
    obtain ⟨x2,e2⟩:=vm j (by omega) j2
    rw [e1,e2];by_cases z:i=j;·subst z;exact kd _
    ·exact pD.mp sm _ _ x1 x2 (by omega)
   ·obtain ⟨q,q1,q2,e⟩:=vq i (by omega) i2
    rw [e,vo j (.inr (by omega))]
    by_cases q3:q<sb;·exact cG (s1 q (sb-1) (by omega) (by omega) (by omega)) (d2 j (by omega) h3)
    ·exact s2 q j (by omega) (by omega) h3
  ·rw [vo i (.inr (by omega)),vo j (.inr (by omega))]
   exact s2 i j (by omega) h2 h3
theorem KY(h:iz prog w A s κ key Ok)(ok:eA Ok arr){pw kK:Nat}(e1:pend[i]?=some (sa,na,pw))(e2:pend[i+1]?=some (sa+na,nb,kK))(KW:1≤na)(Ds:1≤nb)(hz:sa+na+nb≤arr.size)
  (s1:cj key arr sa (sa+na)) (s2:cj key arr (sa+na) (sa+na+nb)) {Q:Bool→SortSt→Prop}
  (k:∀aN g',Rl arr aN sa (sa+na+nb)→cj key aN sa (sa+na+nb)→Q true (aV κ aN ((pend.setIfInBounds i (sa,na+nb,pw)).eraseIdxIfInBounds (i+1)) g')):wpS (model prog w) A E s (mergeAt' i) Q (aV κ arr pend g):=by
 rw [KQ];refine aq (gN ?_);have lR:(pendingOf (aV κ arr pend g))[i]?=some (sa,na,pw):=e1;have KZ:(pendingOf (aV κ arr pend g))[i+1]?=some (sa+na,nb,kK):=e2;rw [lR,KZ];dsimp only;refine aq (KS ?_);refine aq (a_ (by show sa+na<arr.size;omega) ?_)
 refine aq (gE (f:=fun j=>bB false (vA key arr (sa+na)) (vA key arr (sa+j))) (fun j hj Q q=>gD (κ:=κ) h (by show sa+j<arr.size;omega) ok (ok _ (by omega)) rfl q) (by omega) ?_ fun t t1 t2 t3=>?_)
 ·intro i j h1 h2 h3
  have:vA key arr (sa+i)≤vA key arr (sa+na):=cG (s1 _ _ (by omega) (by omega) (by omega)) (jT h3)
  show (!decide (vA key arr (sa+na)<vA key arr (sa+i)))=true;simpa using this
 dsimp only;by_cases z1:(na-t == 0)=true
 ·rw [ae z1]
  have tz:t=na:=by have:=eq_of_beq z1;omega
  subst tz;refine ao (k arr g (Rl.refl ..) fun i j h1 h2 h3=>?_);by_cases i1:i<sa+t
  ·by_cases j1:j<sa+t
   ·exact s1 i j h1 h2 j1
   ·have:=jT (t2 (i-sa) (by omega))
    rw [show sa+(i-sa)=i by omega] at this
    exact cG this (s2 _ _ (av _) (by omega) (by omega))
  ·exact s2 i j (by omega) h2 (by omega)
 rw [aa z1];have tn:t<na:=by
  have:na-t≠0:=fun e=>z1 (by simp [e])
  omega
 refine aq (a_ (by show sa+t+(na-t)-1<arr.size;omega) ?_)
 have el:sa+t+(na-t)-1=sa+na-1:=by omega
 rw [el];refine aq (gE (f:=fun j=>bB true (vA key arr (sa+na-1)) (vA key arr (sa+na+j))) (fun j hj Q q=>gD (κ:=κ) h (by show sa+na+j<arr.size;omega) ok (ok _ (by omega)) rfl q) (by omega) ?_ fun u u1 u2 u3=>?_)
 ·intro i j h1 h2 h3
  exact bF (Int.lt_of_le_of_lt (s2 _ _ (by omega) (by omega) (by omega)) (fX h3))
 dsimp only;have K8:=l5 (t3 (na-1) (by omega) (by omega))
 rw [show sa+(na-1)=sa+na-1 by omega] at K8
 by_cases z2:(u == 0)=true
 ·exfalso
  have:=gF (u3 0 (by have:=eq_of_beq z2;omega) (by omega))
  rw [rW] at this;omega
 rw [aa z2];have un:1≤u:=by
  have:u≠0:=fun e=>z2 (by simp [e])
  omega
 have ox:=Dr ok (lo:=sa+t) (hi:=sa+na) (by omega)
 have oy:=Dr ok (lo:=sa+na) (hi:=sa+na+u) (by omega)
 have sx:a7 key (arr.extract (sa+t) (sa+na)).toList:=Dq (fun i j h1 h2 h3=>s1 i j (by omega) h2 h3) (by omega)
 have sy:a7 key (arr.extract (sa+na) (sa+na+u)).toList:=Dq (fun i j h1 h2 h3=>s2 i j h1 h2 (by omega)) (by omega)
 have zx:(arr.extract (sa+t) (sa+na)).size=na-t:=by simp;omega
 have zy:(arr.extract (sa+na) (sa+na+u)).size=u:=by simp;omega
 have h0:∀x∈(arr.extract (sa+t) (sa+na)).toList,key ((arr.extract (sa+na) (sa+na+u)).getD 0 nn)≤key x:=fun x hx=>by
  obtain ⟨j,j1,j2,rfl⟩:=ext_mem (by omega) hx
  rw [zq (by omega) (by omega),rW]
  have:=l5 (t3 (j-sa) (by omega) (by omega))
  rw [show sa+(j-sa)=j by omega] at this
  exact cp this
 have hl:∀y∈(arr.extract (sa+na) (sa+na+u)).toList,key y≤key ((arr.extract (sa+t) (sa+na)).getD ((arr.extract (sa+t) (sa+na)).size-1) nn):=fun y hy=>by
  obtain ⟨j,j1,j2,rfl⟩:=ext_mem (by omega) hy
  rw [zx,zq (by omega) (by omega),show sa+t+(na-t-1)=sa+na-1 by omega]
  have:=fX (u2 (j-(sa+na)) (by omega))
  rw [show sa+na+(j-(sa+na))=j by omega] at this
  exact cp this
 have fin:∀(m:Array Keyed) (g':Nat),m.toList.Perm ((arr.extract (sa+t) (sa+na)).toList++(arr.extract (sa+na) (sa+na+u)).toList)→a7 key m.toList→Q true (aV κ (putL m.toList (sa+t) arr 0) ((pend.setIfInBounds i (sa,na+nb,pw)).eraseIdxIfInBounds (i+1)) g'):=fun m g' pm sm=>by obtain ⟨rl,sg⟩:=KU (sb:=sa+na) hz rfl (mF tn) u1 pm sm s1 s2 tn Ds (fun i hi=>jT (t2 i hi)) (fun i h1 h2=>gF (u3 i h1 h2));exact k _ g' rl sg
 refine dP (fun _=>?_) (fun _=>?_)
 ·refine aq (Kz (κ:=κ) h ox oy sx sy (by omega) (by omega) h0 hl rfl fun m g' pm sm=>?_)
  exact aq (iT (aq (gN (ao (fin m g' pm sm)))))
 ·refine aq (KG (κ:=κ) h ox oy sx sy (by omega) (by omega) h0 hl rfl fun m g' pm sm=>?_)
  exact aq (iT (aq (gN (ao (fin m g' pm sm)))))
end
def b8(key:Keyed→Int)(arr:Array Keyed):List (Nat×Nat×Nat)→Nat→Nat→Prop
 | [],lo,hi=>lo=hi
 | p::r,lo,hi=>p.1=lo∧1≤p.2.1∧cj key arr lo (lo+p.2.1)∧b8 key arr r (lo+p.2.1) hi
section
variable {key:Keyed→Int} {arr aN:Array Keyed}
theorem b8.le:∀{l:List (Nat×Nat×Nat)} {lo hi:Nat},b8 key arr l lo hi→lo+l.length≤hi
 | [],lo,hi,h=>by have:lo=hi:=h;simp;omega
 | p::r,lo,hi,h=>by have:=b8.le h.2.2.2;have:=h.2.1;simp only [d9];omega
variable {hi:Nat}
theorem cj.bA{lo a b:Nat}(h:cj key arr lo hi)(rl:Rl arr aN a b)(d:hi≤a∨b≤lo):cj key aN lo hi:=fun i j h1 h2 h3=>by
 rw [rl.v (by omega),rl.v (by omega)]
 exact h i j h1 h2 h3
theorem b8.bA:∀{l:List (Nat×Nat×Nat)} {lo hi a b:Nat},b8 key arr l lo hi→Rl arr aN a b→hi≤a∨b≤lo→b8 key aN l lo hi
 | [],lo,hi,a,b,h,_,_=>h
 | p::r,lo,hi,a,b,h,rl,d=>by have:=h.2.2.2.le;refine ⟨h.1,h.2.1,h.2.2.1.bA rl (by omega),h.2.2.2.bA rl (by omega)⟩
theorem b8.snoc:∀{l:List (Nat×Nat×Nat)} {lo hi n pw:Nat},b8 key arr l lo hi→1≤n→cj key arr hi (hi+n)→b8 key arr (l++[(hi,n,pw)]) lo (hi+n)
 | [],lo,hi,n,pw,h,n1,s=>by obtain rfl:lo=hi:=h;exact ⟨rfl,n1,s,rfl⟩
 | p::r,lo,hi,n,pw,h,n1,s=>⟨h.1,h.2.1,h.2.2.1,h.2.2.2.snoc n1 s⟩
theorem b8.two:∀{l:List (Nat×Nat×Nat)} {lo hi i:Nat},b8 key arr l lo hi→i+1<l.length→∃sa na pw nb kK,l[i]?=some (sa,na,pw)∧l[i+1]?=some (sa+na,nb,kK)∧1≤na∧1≤nb∧lo≤sa∧sa+na+nb≤hi∧cj key arr sa (sa+na)∧cj key arr (sa+na) (sa+na+nb) ∧
  ∀aN,Rl arr aN sa (sa+na+nb)→cj key aN sa (sa+na+nb)→b8 key aN ((l.set i (sa,na+nb,pw)).eraseIdx (i+1)) lo hi
 | [],lo,hi,i,h,bh=>by simp at bh
 | [p],lo,hi,i,h,bh=>by simp at bh
 | p::q::r,lo,hi,0,h,_=>by
  obtain ⟨p1,p2,pw⟩:=p;obtain ⟨q1,q2,kK⟩:=q;obtain ⟨e1,n1,s1,e2,n2,s2,c⟩:=h;dsimp only at e1 n1 s1 e2 n2 s2 c;subst e1;subst e2;have:=c.le;refine ⟨p1,p2,pw,q2,kK,rfl,rfl,n1,n2,av _,by omega,s1,s2,fun aN rl sg=>?_⟩
  show b8 key aN ((p1,p2+q2,pw)::r) p1 hi;refine ⟨rfl,by show 1≤p2+q2;omega,by show cj key aN p1 (p1+(p2+q2));rw [←Nat.add_assoc];exact sg,?_⟩
  show b8 key aN r (p1+(p2+q2)) hi;rw [←Nat.add_assoc];exact c.bA rl (.inr (av _))
 | p::q::r,lo,hi,i+1,h,bh=>by
  obtain ⟨sa,na,pw,nb,kK,e1,e2,n1,n2,l1,l2,s1,s2,k⟩:=h.2.2.2.two (i:=i) (by simpa using bh)
  refine ⟨sa,na,pw,nb,kK,e1,e2,n1,n2,by omega,l2,s1,s2,fun aN rl sg=>?_⟩
  exact ⟨h.1,h.2.1,h.2.2.1.bA rl (.inl l1),k aN rl sg⟩
theorem b8.last:∀{l:List (Nat×Nat×Nat)} {lo hi pw:Nat},b8 key arr l lo hi→b8 key arr (l.modify (l.length-1) fun x=>(x.1,x.2.1,pw)) lo hi
 | [],lo,hi,pw,h=>h
 | [p],lo,hi,pw,h=>h
 | p::q::r,lo,hi,pw,h=>⟨h.1,h.2.1,h.2.2.1,h.2.2.2.last⟩
theorem b8.one{l:List (Nat×Nat×Nat)}(h:b8 key arr l 0 hi)(hl:l.length≤1):cj key arr 0 hi:=by
 match l,h,hl with
 | [],h,_=>have:0=hi:=h;exact fun i j h1 h2 h3=>by omega
 | [p],h,_=>have:=h.2.2.1;have e:0+p.2.1=hi:=h.2.2.2;rw [←e];exact this
 | p::q::r,_,hl=>simp at hl
end
section
variable {prog:Program} {w:World} {A:Around} {E:aI} {s:Shared} {κ:SortKind} {key:Keyed→Int} {Ok:Keyed→Prop} {arr:Array Keyed} {pend:Array (Nat×Nat×Nat)} {g:Nat}
theorem zr(h:iz prog w A s κ key Ok)(ok:eA Ok arr){hi:Nat}(c:b8 key arr pend.toList 0 hi)(hz:hi≤arr.size)(bh:i+1<pend.size){Q:Bool→SortSt→Prop}
  (k:∀aN zt g',Rl arr aN 0 hi→b8 key aN zt.toList 0 hi→zt.size+1=pend.size→Q true (aV κ aN zt g')):wpS (model prog w) A E s (mergeAt' i) Q (aV κ arr pend g):=by
 obtain ⟨sa,na,pw,nb,kK,e1,e2,n1,n2,l1,l2,s1,s2,kk⟩:=c.two (i:=i) (by simpa using bh)
 refine KY h ok (by simpa using e1) (by simpa using e2) n1 n2 (by omega) s1 s2 fun aN g' rl sg=>?_
 refine k _ _ _ (rl.wide (bD _) l2) ?_ ?_
 ·have:=kk aN rl sg
  simpa using this
 ·rw [←fb,Array.toList_eraseIdxIfInBounds,List.length_eraseIdx,ae (by simpa using bh)]
  simp;omega
theorem K9(h:iz prog w A s κ key Ok)(ok:eA Ok arr){Q:Unit→SortSt→Prop}
  (k:∀aN ar,aN.Perm arr→cj key aN 0 arr.size→arrOf ar=aN→failedOf ar=none→Q () ar):wpS (model prog w) A E s sortRuns' Q (aV κ arr #[] g):=by
 rw [sortRuns'_eq];refine aq (gN ?_);dsimp only;have es:(arrOf (aV κ arr #[] g)).size=arr.size:=rfl;rw [es]
 refine aq (eU (eE (I:=fun x c ar=>∃(aC:Array Keyed) (dB:Array (Nat×Nat×Nat)) (g2 lo:Nat),ar=aV κ aC dB g2∧c=(none,lo)∧aC.Perm arr∧b8 key aC dB.toList 0 lo∧lo≤arr.size∧x≤lo)
  (Q:=fun c ar=>∃(aC:Array Keyed) (dB:Array (Nat×Nat×Nat)) (g2:Nat),ar=aV κ aC dB g2∧c=(none,arr.size)∧aC.Perm arr∧b8 key aC dB.toList 0 arr.size) ?_ ?_ ⟨arr,#[],g,0,rfl,rfl,Array.Perm.refl _,rfl,bD _,av _⟩) ?_)
 ·rintro x c ar _ hx ⟨aC,dB,g2,lo,rfl,rfl,l7,nQ,l1,l2⟩
  have iG:=qb ok l7;have z2:=l7.size_eq;dsimp only;by_cases z:lo≥arr.size
  ·rw [ae z]
   obtain rfl:lo=arr.size:=by omega
   exact ao ⟨aC,dB,g2,rfl,rfl,l7,nQ⟩
  rw [aa z];refine aq (KI h iG (by omega) (by omega) fun n bW n1 nn jb sg=>?_)
  have dC:=jb.pm.trans l7;have Dt:=qb ok dC;have z3:=dC.size_eq;have gG:=nQ.bA jb (.inl (av _));dsimp only;by_cases y:n<minRun' arr.size arr.size 0
  ·rw [ae y]
   refine aq (wpS_lift (mR ⟨rfl,?_⟩));refine aq (KP h Dt (n:=min (arr.size-lo) (minRun' arr.size arr.size 0)) (by omega) n1 (by omega) sg fun aR bw e9=>?_)
   rw [aa (by simp)]
   have e_:=gG.bA bw (.inl (av _));have zu:=bw.pm.trans dC;clear gG dC Dt z3 sg jb bw;have f1:1≤min (arr.size-lo) (minRun' arr.size arr.size 0):=by omega
   have f2:lo+min (arr.size-lo) (minRun' arr.size arr.size 0)≤arr.size:=by omega
   generalize min (arr.size-lo) (minRun' arr.size arr.size 0)=fo at e9 f1 f2 ⊢
   revert e_ zu e9
   generalize aR=bW;intro gG dC e9;refine aq (gN ?_);have eb:(pendingOf (aV κ bW dB g2)).back?=dB.back?:=rfl;rw [eb];cases dB.back? with
   | none=>dsimp only;exact aq (iT (ao ⟨bW,dB.push (lo,fo,0),g2,lo+fo,rfl,rfl,dC,by rw [k8];exact gG.snoc f1 e9,f2,by have:=f1;omega⟩))
   | some p=>
    obtain ⟨K_,wq,La⟩:=p;dsimp only;have z3:=dC.size_eq
    refine aq (eU (eE (I:=fun y c ar=>∃(aR:Array Keyed) (bj:Array (Nat×Nat×Nat)) (g4:Nat),ar=aV κ aR bj g4∧c=(none,())∧Rl bW aR 0 lo∧b8 key aR bj.toList 0 lo)
     (Q:=fun c ar=>∃(aR:Array Keyed) (bj:Array (Nat×Nat×Nat)) (g4:Nat),ar=aV κ aR bj g4∧c=(none,())∧Rl bW aR 0 lo∧b8 key aR bj.toList 0 lo) ?_ (fun c ar hh=>hh) ⟨bW,dB,g2,rfl,rfl,Rl.refl ..,gG⟩) ?_)
    ·rintro y c ar _ hy ⟨aR,bj,g4,rfl,rfl,bw,e_⟩
     have z4:=bw.size;refine aq (gN ?_);have hx:∀o,o=(if (pendingOf (aV κ aR bj g4)).size>1 then (pendingOf (aV κ aR bj g4))[(pendingOf (aV κ aR bj g4)).size-2]? else none)→o.isSome=true→bj.size>1:=fun o ho hs=>by
      by_cases z:bj.size>1;·exact z
      ·rw [aa z] at ho
       rw [ho] at hs;cases hs
     generalize eo:(if (pendingOf (aV κ aR bj g4)).size>1 then (pendingOf (aV κ aR bj g4))[(pendingOf (aV κ aR bj g4)).size-2]? else none)=o
     cases o with
     | none=>exact ao ⟨aR,bj,g4,rfl,rfl,bw,e_⟩
     | some p=>
      have gt:=hx _ eo.symm rfl;obtain ⟨q1,q2,Lb⟩:=p;dsimp only;refine dP (fun _=>ao ⟨aR,bj,g4,rfl,rfl,bw,e_⟩) (fun _=>?_);refine aq (zr h (qb ok (bw.pm.trans dC)) e_ (by omega) (show bj.size-2+1<bj.size by omega) fun zv zw g5 zA zB _=>?_)
      rw [aa (by simp)]
      exact ao ⟨zv,zw,g5,rfl,rfl,bw.trans zA,zB⟩
    ·rintro c ar ⟨aR,bj,g4,rfl,rfl,bw,e_⟩
     dsimp only;refine aq (iT (aq (iT (ao ⟨aR,_,g4,lo+fo,rfl,rfl,bw.pm.trans dC,?_,f2,by have:=f1;omega⟩))))
     rw [k8];refine b8.snoc ?_ f1 (cj.bA e9 bw (.inr (av _)));rw [Array.toList_modify];exact e_.last
  ·rw [aa y]
   have f2:lo+n≤arr.size:=by omega
   refine aq (gN ?_);have eb:(pendingOf (aV κ bW dB g2)).back?=dB.back?:=rfl;rw [eb];cases dB.back? with
   | none=>dsimp only;exact aq (iT (ao ⟨bW,dB.push (lo,n,0),g2,lo+n,rfl,rfl,dC,by rw [k8];exact gG.snoc n1 sg,f2,by have:=n1;omega⟩))
   | some p=>
    obtain ⟨K_,wq,La⟩:=p;dsimp only;have z3:=dC.size_eq
    refine aq (eU (eE (I:=fun y c ar=>∃(aR:Array Keyed) (bj:Array (Nat×Nat×Nat)) (g4:Nat),ar=aV κ aR bj g4∧c=(none,())∧Rl bW aR 0 lo∧b8 key aR bj.toList 0 lo)
     (Q:=fun c ar=>∃(aR:Array Keyed) (bj:Array (Nat×Nat×Nat)) (g4:Nat),ar=aV κ aR bj g4∧c=(none,())∧Rl bW aR 0 lo∧b8 key aR bj.toList 0 lo) ?_ (fun c ar hh=>hh) ⟨bW,dB,g2,rfl,rfl,Rl.refl ..,gG⟩) ?_)
    ·rintro y c ar _ hy ⟨aR,bj,g4,rfl,rfl,bw,e_⟩
     have z4:=bw.size;refine aq (gN ?_);have hx:∀o,o=(if (pendingOf (aV κ aR bj g4)).size>1 then (pendingOf (aV κ aR bj g4))[(pendingOf (aV κ aR bj g4)).size-2]? else none)→o.isSome=true→bj.size>1:=fun o ho hs=>by
      by_cases z:bj.size>1;·exact z
      ·rw [aa z] at ho
       rw [ho] at hs;cases hs
     generalize eo:(if (pendingOf (aV κ aR bj g4)).size>1 then (pendingOf (aV κ aR bj g4))[(pendingOf (aV κ aR bj g4)).size-2]? else none)=o
     cases o with
     | none=>exact ao ⟨aR,bj,g4,rfl,rfl,bw,e_⟩
     | some p=>
      have gt:=hx _ eo.symm rfl;obtain ⟨q1,q2,Lb⟩:=p;dsimp only;refine dP (fun _=>ao ⟨aR,bj,g4,rfl,rfl,bw,e_⟩) (fun _=>?_);refine aq (zr h (qb ok (bw.pm.trans dC)) e_ (by omega) (show bj.size-2+1<bj.size by omega) fun zv zw g5 zA zB _=>?_)
      rw [aa (by simp)]
      exact ao ⟨zv,zw,g5,rfl,rfl,bw.trans zA,zB⟩
    ·rintro c ar ⟨aR,bj,g4,rfl,rfl,bw,e_⟩
     dsimp only;refine aq (iT (aq (iT (ao ⟨aR,_,g4,lo+n,rfl,rfl,bw.pm.trans dC,?_,f2,by have:=n1;omega⟩))))
     rw [k8];refine b8.snoc ?_ n1 (cj.bA sg bw (.inr (av _)));rw [Array.toList_modify];exact e_.last
 ·rintro c ar ⟨aC,dB,g2,lo,rfl,rfl,l7,nQ,l1,l2⟩
  obtain rfl:lo=arr.size:=by omega
  exact ⟨aC,dB,g2,rfl,rfl,l7,nQ⟩
 ·rintro c ar ⟨aC,dB,g2,rfl,rfl,l7,nQ⟩
  dsimp only;have pz:=nQ.le
  refine aq (eU (eE (I:=fun x c ar=>∃(bW:Array Keyed) (dD:Array (Nat×Nat×Nat)) (g3:Nat),ar=aV κ bW dD g3∧c=(none,())∧bW.Perm arr∧b8 key bW dD.toList 0 arr.size∧dD.size+x≤arr.size)
   (Q:=fun c ar=>∃(bW:Array Keyed) (dD:Array (Nat×Nat×Nat)) (g3:Nat),ar=aV κ bW dD g3∧c=(none,())∧bW.Perm arr∧b8 key bW dD.toList 0 arr.size∧dD.size≤1) ?_ ?_ ⟨aC,dB,g2,rfl,rfl,l7,nQ,show dB.size+0≤arr.size by simpa using pz⟩) ?_)
  ·rintro x c ar _ hx ⟨bW,dD,g3,rfl,rfl,dC,gG,l3⟩
   have z3:=dC.size_eq;refine aq (gN ?_);by_cases z:(pendingOf (aV κ bW dD g3)).size≤1
   ·rw [ae z]
    exact ao ⟨bW,dD,g3,rfl,rfl,dC,gG,z⟩
   ·rw [aa z]
    have z':1<dD.size:=Nat.lt_of_not_le z;have go:∀i,i+1<dD.size→wpS (model prog w) A E s (mergeAt' i) (fun b ar=>b=true∧∃(aR:Array Keyed) (bj:Array (Nat×Nat×Nat)) (g4:Nat),ar=aV κ aR bj g4∧aR.Perm arr∧b8 key aR bj.toList 0 arr.size∧bj.size+(x+1)≤arr.size) (aV κ bW dD g3):=fun i hi=>by refine zr h (qb ok dC) gG (by omega) hi fun aR bj g4 bw e_ sz=>⟨rfl,aR,bj,g4,rfl,bw.pm.trans dC,e_,by omega⟩
    refine aq (eU (go _ ?_) ?_)
    ·show (if _ then _ else _)+1<dD.size
     have e:(pendingOf (aV κ bW dD g3)).size=dD.size:=rfl;rw [e];have:∀c:Bool,(if c=true then dD.size-2-1 else dD.size-2)+1<dD.size:=fun c=>by cases c <;> simp <;> omega
     exact this _
    ·rintro b ar ⟨rfl,aR,bj,g4,rfl,zu,e_,l4⟩
     rw [aa (by simp)]
     exact ao ⟨aR,bj,g4,rfl,rfl,zu,e_,l4⟩
  ·rintro c ar ⟨bW,dD,g3,rfl,rfl,dC,gG,l3⟩
   exact ⟨bW,dD,g3,rfl,rfl,dC,gG,by omega⟩
  ·rintro c ar ⟨bW,dD,g3,rfl,rfl,dC,gG,l3⟩
   exact ao (k bW _ dC (gG.one (by simpa using l3)) rfl rfl)
end
end Tm
namespace My
open PySem PySem.W PyProof.Rows Tm
section
variable {prog:Program} {w:World} {A:Around} {E:aI} {s:Shared}
def dX(h:Heap)(v:Value)(x y:Int):Prop:=∃a o t u e,v=.ref a∧h.get? a=some o∧o.cls=.type "tuple"∧o.data=.seq #[.int x t,.int y u] e
variable {x y x' y':Int}
theorem Lc{v v':Value}(h1:dX s.heap v x y)(h2:dX s.heap v' x' y'){Q:Bool→Shared→Prop}(h:Q (decide (x<x'∨x=x'∧y<y')) s):wpAny (model prog w) A (keyLt' (tuples' true) v v') Q E s:=by
 obtain ⟨a,o,t,u,e,rfl,g,_,d⟩:=h1;obtain ⟨a',o',t',u',e',rfl,g',_,d'⟩:=h2;refine kat_lt g d g' d' ?_;show KatLex prog w A true (decide (2<2)) Q [(.int x t,.int x' t'),(.int y u,.int y' u')] 0 s;refine kat_cons (wpAny_eqBool_int ?_);by_cases z:x=x'
 ·subst z
  rw [show (x == x)=true by simp]
  refine kat_yes (kat_cons (wpAny_eqBool_int ?_));by_cases z2:y=y'
  ·subst z2
   rw [show (y == y)=true by simp]
   refine kat_yes (kat_nil ?_);rw [bX (by omega)] at h
   exact h
  ·rw [show (y == y')=false by simp [z2]]
   refine kat_no ?_;show wpAny (model prog w) A (oneLt' false (.int y u) (.int y' u')) Q _ s;refine kat_one _ _ (lt_int ?_);show Q (decide (y<y')) s;rw [show decide (y<y')=decide (x<x∨x=x∧y<y') from decide_eq_decide.mpr (by omega)]
   exact h
 ·rw [show (x == x')=false by simp [z]]
  refine kat_no ?_;show wpAny (model prog w) A (oneLt' true (.int x t) (.int x' t')) Q _ s;refine oneLt_int ?_;rw [show decide (x<x')=decide (x<x'∨x=x'∧y<y') from decide_eq_decide.mpr (by omega)]
  exact h
theorem Du{h:Heap}:∀{vs:List Value},(∀v∈vs,∃x y,dX h v x y)→∃fs:List Value,KatTups h vs fs∧fs.length=vs.length∧∀f∈fs,∃n t,f=.int n t
 | [],_=>⟨[],.nil,rfl,fun f hf=>by cases hf⟩
 | v::vs,hv=>by
  obtain ⟨fs,k,l,i⟩:=Du (vs:=vs) fun v h=>hv v (bJ _ h);obtain ⟨x,y,a,o,t,u,e,rfl,g,c,d⟩:=hv v cM;refine ⟨.int x t::fs,.cons g c d rfl k,by rw [d9,d9,l],fun f hf=>?_⟩
  rcases bE.mp hf with rfl | hf;·exact ⟨x,t,rfl⟩
  ·exact i f hf
theorem perm_back{α β:Type}{f:α→β}{l m:List β}(h:l.Perm m):∀q:List α,m=q.map f→∃p:List α,p.Perm q∧l=p.map f:=by
 induction h with
 | nil=>intro q e;exact ⟨q,List.Perm.refl _,e⟩
 | cons x _ ih=>
  intro q e
  match q,e with
  | a::q,e=>obtain ⟨rfl,e'⟩:=List.cons.inj e;obtain ⟨p,hp,rfl⟩:=ih q e';exact ⟨a::p,hp.cons a,rfl⟩
 | swap x y _=>
  intro q e
  match q,e with
  | a::b::q,e=>obtain ⟨rfl,e'⟩:=List.cons.inj e;obtain ⟨rfl,rfl⟩:=List.cons.inj e';exact ⟨b::a::q,List.Perm.swap ..,rfl⟩
 | trans _ _ Ld Le=>intro q e;obtain ⟨p,hp,e1⟩:=Le q e;obtain ⟨p',l8,e2⟩:=Ld p e1;exact ⟨p',l8.trans hp,e2⟩
variable {h:Heap}
theorem dX.uniq{v:Value}(h1:dX h v x y)(h2:dX h v x' y'):x=x'∧y=y':=by obtain ⟨a,o,t,u,e,rfl,g,_,d⟩:=h1;obtain ⟨a',o',t',u',e',ev,g',_,d'⟩:=h2;cases ev;rw [g] at g';cases g';rw [d] at d';simp at d';exact ⟨d'.1.1.1,d'.1.2.1⟩
open Classical in
noncomputable def zC (h:Heap) (k:Keyed):Int:=if e:∃z:Int×Int,dX h k.1 z.1 z.2 then (choose e).1*1000+(choose e).2 else 0
theorem wt{v u:Value}(p:dX h v x y):zC h (v,u)=x*1000+y:=by have e:∃z:Int×Int,dX h (v,u).1 z.1 z.2:=⟨(x,y),p⟩;unfold zC;rw [dif_pos e];obtain ⟨a,b⟩:=(Classical.choose_spec e).uniq p;rw [a,b]
variable {vs:List Value}
theorem Lf{x y:Nat→Int}(h2:2≤vs.length)(hv:∀i v,vs[i]?=some v→dX s.heap v (x i) (y i)∧0≤y i∧y i<1000){Q:SortSt→Shared→Prop}
  (hQ:∀(p:Array Nat) (st:SortSt),jS vs.length p→lY (fun i=>x i*1000+y i) p vs.length→(arrOf st).map (·.2)=List.toArray (p.toList.map fun i=>vs.getD i Value.none)→failedOf st=none→Q st s) :
  wpAny (model prog w) A (sortRuns'.run (SortSt.mk' (tuples' true) (vs.toArray.zip vs.toArray) #[] 7 none)) (fun r s'=>Q r.2 s') E s:=by
 have az:(vs.toArray.zip vs.toArray).size=vs.length:=by simp
 have ag:∀i,i<vs.length→(vs.toArray.zip vs.toArray).getD i nn=(vs.getD i Value.none,vs.getD i Value.none):=fun i hi=>by simp [Array.getD,hi]
 have ga:∀i (hi:i<vs.length),dX s.heap (vs.getD i Value.none) (x i) (y i)∧0≤y i∧y i<1000:=fun i hi=>by refine hv i _ ?_;simp [hi]
 have lt:iz prog w A s (tuples' true) (zC s.heap) (fun k=>∃a b,dX s.heap k.1 a b∧0≤b∧b<1000):=by
  rintro ⟨u,u'⟩ ⟨v,v'⟩ ⟨a,b,p1,b0,b1⟩ ⟨c,d,p2,d0,d1⟩ C hC;refine Lc p1 p2 ?_;rw [wt p1,wt p2] at hC;rw [show decide (a<c∨a=c∧b<d)=decide (a*1000+b<c*1000+d) from decide_eq_decide.mpr (by omega)]
  exact hC
 have ok:eA (fun k=>∃a b,dX s.heap k.1 a b∧0≤b∧b<1000) (vs.toArray.zip vs.toArray):=fun i hi=>by rw [az] at hi;rw [ag i hi];exact ⟨_,_,ga i hi⟩
 refine cy (K9 (E:=E) (Q:=fun _ st=>Q st s) (g:=7) lt ok fun aN st pm sg ha hf=>?_) (fun r s' h'=>by obtain ⟨rfl,h'⟩:=h';exact h') fun _ _ e=>e
 have el:(vs.toArray.zip vs.toArray).toList=(List.range vs.length).map fun i=>(vs.getD i Value.none,vs.getD i Value.none):=by
  refine gx (by simp) fun i h1 h2=>?_
  have hi:i<vs.length:=by simpa using h2
  simp [hi]
 obtain ⟨p,hp,ep⟩:=perm_back (mS.mp pm) _ el;have pl:p.length=vs.length:=by rw [hp.length_eq,dR]
 have Lg:∀i∈p,i<vs.length:=fun i hi=>cL.mp (hp.mem_iff.mp hi);have hsz:aN.size=vs.length:=by rw [pm.size_eq,az]
 have gd:∀i,i<vs.length→aN.getD i nn=(vs.getD (p.toArray.getD i 0) Value.none,vs.getD (p.toArray.getD i 0) Value.none)∧p.toArray.getD i 0<vs.length:=fun i hi=>by
  have e1:aN.getD i nn=aN.toList[i]'(by simp;omega):=by simp [Array.getD,show i<aN.size by omega]
  have e2:p.toArray.getD i 0=p[i]'(by omega):=by simp [Array.getD,show i<p.length by omega]
  rw [e1,e2];refine ⟨?_,Lg _ (cR _)⟩;simp [ep]
 refine hQ p.toArray st (mS.mpr (by simpa using hp)) (fun i j h1 h3=>?_) ?_ hf
 ·have:=sg i j (bD _) h1 (by rw [az];exact h3)
  unfold vA at this;obtain ⟨e1,l1⟩:=gd i (by omega)
  obtain ⟨e2,l2⟩:=gd j h3;rw [e1,e2,wt (ga _ l1).1,wt (ga _ l2).1] at this;exact this
 ·rw [ha]
  apply Array.toList_inj.mp;rw [Array.toList_map,ep,cH];rfl
theorem Lh{Q:SortKind→Shared→Prop}(h1:1≤vs.length)(hv:∀v∈vs,∃x y,dX s.heap v x y)(h:Q (tuples' true) s):wpAny (model prog w) A (keyKind' vs.toArray) Q E s:=by
 obtain ⟨fs,k,l,i⟩:=Du hv;refine kat_kind (T:=Value.type "int") k (by omega) (fun v hv=>?_) rfl h
 obtain ⟨n,t,rfl⟩:=i v hv;exact .now
theorem dX.mono{h':Heap}{v:Value}(k:∀b o,h.get? b=some o→h'.get? b=some o)(p:dX h v x y):dX h' v x y:=by obtain ⟨a,o,t,u,e,rfl,g,c,d⟩:=p;exact ⟨a,o,t,u,e,rfl,k _ _ g,c,d⟩
theorem Li{a:Addr}{n:Nat}{x y:Nat→Int}{P:PySem.Fin→Shared→Prop}(ho:s.heap.get? a=some (seqObj "list" vs.toArray n))(wu:vs.length<2000)(hv:∀i v,vs[i]?=some v→dX s.heap v (x i) (y i)∧0≤y i∧y i<1000)
  (h:∀(p:Array Nat),jS vs.length p→lY (fun i=>x i*1000+y i) p vs.length→P (.done (.ret .none)) {s with heap:=sortedHeap s.heap a vs (List.toArray (p.toList.map fun i=>vs.getD i Value.none))}) :
  wpAny (model prog w) A (Builtin.«list.sort» ⟨[.ref a],[]⟩) P E s:=by
 have sl:vs.length≤sizeLine:=by rw [mK];omega
 have lt:=aS ho
 obtain ⟨e1,g1⟩:∃e,(s.heap.update a (Obj.mapSeq fun _=>#[])).get? a=some (seqObj "list" #[] e):=⟨_,get?_update_seq ho fun _=>#[]⟩
 have z1:(s.heap.update a (Obj.mapSeq fun _=>#[])).objs.size=s.heap.objs.size:=Heap.size_update _ _ _
 have up:∀b u,b<s.heap.objs.size→(s.heap.update a (Obj.mapSeq fun _=>#[])).get? b=some u→(((s.heap.update a (Obj.mapSeq fun _=>#[])).push (seqObj "tuple" vs.toArray 0)).push (seqObj "list" #[] 0)).get? b=some u:=fun b u hb hu=>by
  rw [pE _ _ _ (bR (by rw [size_push',z1];exact rS hb)),pE _ _ _ (bR (by rw [z1];exact hb))]
  exact hu
 have g3:=up a _ lt g1
 have Dv:∀i v,vs[i]?=some v→dX (((s.heap.update a (Obj.mapSeq fun _=>#[])).push (seqObj "tuple" vs.toArray 0)).push (seqObj "list" #[] 0)) v (x i) (y i)∧0≤y i∧y i<1000:=fun i v hi=>by
  obtain ⟨⟨b,o,t,u,e,rfl,g,cc,d⟩,y0⟩:=hv i v hi
  have nb:b≠a:=fun q=>by
   rw [q,ho] at g
   cases g
   exact absurd (Value.type.inj cc) (by decide)
  refine ⟨⟨b,o,t,u,e,rfl,up b o (aS g) ?_,cc,d⟩,y0⟩
  rw [u9 _ _ _ _ nb]
  exact g
 rw [list_sort_plain]
 refine bf (listItems_at ho rfl (bf (listUpdate_at ho rfl ?_ (by rw [bS];omega) (bD _))))
 refine bf (seqEpoch_at g1 rfl (bf (wpAny_newTuple ?_ (by show vs.length≤_;omega))))
 refine bf (wpAny_newList (o4 ?_) (bD _))
 show wpAny (model prog w) A _ P E {s with heap:=((s.heap.update a (Obj.mapSeq fun _=>#[])).push (seqObj "tuple" vs.toArray 0)).push (seqObj "list" #[] 0)}
 dsimp only
 have fin:∀(st:SortSt) (p:Array Nat),jS vs.length p→lY (fun i=>x i*1000+y i) p vs.length→(arrOf st).map (·.2)=List.toArray (p.toList.map fun i=>vs.getD i Value.none)→failedOf st=none→
   wpAny (model prog w) A (do
    let touched:=(←seqEpoch a) != e1
    Builtin.List.listUpdate (.ref a) fun _=>(arrOf st).map (·.2)
    if let some e:=failedOf st then rule "list.sort.comparison-raised";throw e
    if touched then rule "list.sort.modified";raiseError "ValueError" "list modified during sort"
    ret .none) P E {s with heap:=((s.heap.update a (Obj.mapSeq fun _=>#[])).push (seqObj "tuple" vs.toArray 0)).push (seqObj "list" #[] 0)}:=fun st p hp hu ha hf=>by
  refine bf (seqEpoch_at g3 rfl (bf (listUpdate_at g3 rfl ?_ (bD _) ?_)))
  ·rw [hf,ha]
   simp only [bne_self_eq_false,Bool.false_eq_true,if_false]
   exact dm (h p hp hu)
  ·rw [ha,bS,aK,fb,hp.size]
   omega
 by_cases z:vs.toArray.size<2
 ·rw [ae z,ae z]
  refine bf (dm ?_)
  rw [StateT.run_pure]
  refine bf (dm ?_)
  have len:vs.length<2:=by simpa using z
  refine fin _ (List.toArray (List.range vs.length)) (Array.Perm.refl _) (fun a b h1 h2=>by
   obtain rfl:a=b:=by omega
   exact kd _) ?_ rfl
  match vs,len with
  | [],_=>
   show Array.map (·.2) ((#[]:Array Value).zip #[])=_
   simp
  | [v],_=>
   show Array.map (·.2) (#[v].zip #[v])=_
   simp
 ·rw [aa z,aa z]
  have len:2≤vs.length:=by simpa using z
  refine bf (Lh (by omega) (fun v hm=>?_) ?_)
  ·obtain ⟨i,hi,rfl⟩:=u5 hm
   exact ⟨_,_,(Dv i _ (by simp [hi])).1⟩
  ·refine bf (cy (Lf (Q:=fun st s'=>s'={s with heap:=((s.heap.update a (Obj.mapSeq fun _=>#[])).push (seqObj "tuple" vs.toArray 0)).push (seqObj "list" #[] 0)}∧∃p,jS vs.length p∧lY (fun i=>x i*1000+y i) p vs.length∧(arrOf st).map (·.2)=List.toArray (p.toList.map fun i=>vs.getD i Value.none)∧failedOf st=none) len Dv fun p st a1 a2 a3 a4=>⟨rfl,p,a1,a2,a3,a4⟩) ?_ fun _ _ e=>e)
   rintro ⟨⟨⟩,st⟩ s' ⟨rfl,p,a1,a2,a3,a4⟩
   exact fin st p a1 a2 a3 a4
end
open PySem PySem.W PyProof.Rows
section
variable {prog:Program} {w:World} {A:Around} {E:aI} {s:Shared}
theorem Lj{l:Addr}{vs:List Value}{x y:Nat→Int}{Q:aI}(hl:s.heap.IsList l vs.toArray)(wu:vs.length<2000)(hv:∀i v,vs[i]?=some v→dX s.heap v (x i) (y i)∧0≤y i∧y i<1000)
  (h:∀(p:Array Nat) (h':Heap) (c:Nat),jS vs.length p→lY (fun i=>x i*1000+y i) p vs.length→(∀b o,s.heap.get? b=some o→h'.get? b=some o)→h'.get? (s.heap.objs.size+1)=some (seqObj "list" (List.toArray (p.toList.map fun i=>vs.getD i Value.none)) c)→Q (.ref (s.heap.objs.size+1)) {s with heap:=h'}) :
  wpAny (model prog w) A (call (.builtin "sorted") [.ref l]) Q E s:=by
 have sl:vs.length≤sizeLine:=by rw [mK];omega
 refine Calls.call_function_entry kind_sorted plain_sorted entry_sorted (args_sorted1 _) ?_;unfold Builtin.«sorted»;refine bf (m:=checkCount "sorted" 1 1 _) (dm (bf (collect_list hl (bf (wpAny_newList ?_ sl)) sl)));have zz:((s.heap.push (seqObj "list" #[] 0)).update s.heap.objs.size (Obj.mapSeq (·++vs.toArray))).objs.size=s.heap.objs.size+1:=by rw [Heap.size_update,size_push']
 have kp:∀b o,s.heap.get? b=some o→(((s.heap.push (seqObj "list" #[] 0)).update s.heap.objs.size (Obj.mapSeq (·++vs.toArray))).push (seqObj "list" vs.toArray 0)).get? b=some o:=fun b o g=>by
  have lt:=aS g;rw [pE _ _ _ (bR (by rw [zz];exact rS lt)),u9 _ _ _ _ (bR lt),pE _ _ _ (bR lt)]
  exact g
 have gL:(((s.heap.push (seqObj "list" #[] 0)).update s.heap.objs.size (Obj.mapSeq (·++vs.toArray))).push (seqObj "list" vs.toArray 0)).get? (s.heap.objs.size+1)=some (seqObj "list" vs.toArray 0):=by rw [←zz];exact dQ _ rfl
 show wpAny _ _ _ _ _ {s with heap:=((s.heap.push (seqObj "list" #[] 0)).update s.heap.objs.size (Obj.mapSeq (·++vs.toArray))).push (seqObj "list" vs.toArray 0)};rw [zz];generalize ((s.heap.push (seqObj "list" #[] 0)).update s.heap.objs.size (Obj.mapSeq (·++vs.toArray))).push (seqObj "list" vs.toArray 0)=h1 at kp gL;refine bf (o4 (wpAny_call_entry slot_list_sort ⟨_,gL,rfl⟩ entry_list_sort (Li (s:={s with heap:=h1}) gL wu (fun i v hi=>⟨(hv i v hi).1.mono kp,(hv i v hi).2⟩) fun p hp hu=>⟨_,rfl,?_⟩) (args_list_sort _)));have Ll:=aS gL;have z1:(h1.update (s.heap.objs.size+1) (Obj.mapSeq fun _=>#[])).objs.size=h1.objs.size:=Heap.size_update _ _ _;obtain ⟨e1,g1⟩:∃e,(h1.update (s.heap.objs.size+1) (Obj.mapSeq fun _=>#[])).get? (s.heap.objs.size+1)=some (seqObj "list" #[] e):=⟨_,get?_update_seq gL fun _=>#[]⟩;have up:∀b u,b<h1.objs.size→(h1.update (s.heap.objs.size+1) (Obj.mapSeq fun _=>#[])).get? b=some u→(((h1.update (s.heap.objs.size+1) (Obj.mapSeq fun _=>#[])).push (seqObj "tuple" vs.toArray 0)).push (seqObj "list" #[] 0)).get? b=some u:=fun b u hb hu=>by
  rw [pE _ _ _ (bR (by rw [size_push',z1];exact rS hb)),pE _ _ _ (bR (by rw [z1];exact hb))]
  exact hu
 have g3:=up _ _ Ll g1;refine dm ⟨_,rfl,h p _ _ hp hu (fun b o g=>?_) (get?_update_seq g3 fun _=>List.toArray (p.toList.map fun i=>vs.getD i Value.none))⟩;have g':=kp b o g;have ne:b≠s.heap.objs.size+1:=bR (rS (aS g));show (Heap.update _ _ _).get? b=some o;rw [u9 _ _ _ _ ne];refine up b o (aS g') ?_;rw [u9 _ _ _ _ ne];exact g'
end
end My
namespace L2
open PySem PySem.W PyProof.Rows My
def Dw:List V→Hp→VK→Prop:=fun xs H Q=>∃(a:Addr) (vs:List V) (x y:Nat→Int),xs=[.ref a]∧H a=some (.lst vs)∧vs.length<2000∧(∀(i:Nat) (v:V),vs[i]?=some v→(∃b,v=.ref b∧H b=some (.tup [.int (x i),.int (y i)]))∧0≤y i∧y i<1000) ∧
 ∀(p:Array Nat) (l:Addr),jS vs.length p→lY (fun i=>x i*1000+y i) p vs.length→H l=none→Q (.ref l) (upd H l (.lst (p.toList.map fun i=>vs.getD i .aM)))
theorem Dx{xs:List V}{us:List Value}(r:Vals xs us):∀(ns:List Nat),(∀i∈ns,i<xs.length)→Vals (ns.map fun i=>xs.getD i .aM) (ns.map fun i=>us.getD i Value.none)
 | [],_=>.nil
 | i::ns,h=>by
  have hi:=h i cM;obtain ⟨u,e,ru⟩:=r.get (i:=i) (x:=xs[i]) (by simp [hi])
  refine .cons ?_ (Dx r ns fun j hj=>h j (bJ _ hj));dsimp only;rw [show xs.getD i .aM=xs[i] by simp [hi],show us.getD i Value.none=u by rw [dG,e];rfl]
  exact ru
theorem Dy{X:Cx}:fO X (.builtin "sorted") Dw:=by
 intro pins s σ H xs us Q I r h;obtain ⟨a,vs,x,y,rfl,ha,wu,hv,k⟩:=h;obtain ⟨u,rfl,ru⟩:=vals1 r;cases ru;obtain ⟨its,rv,pl,hz⟩:=I.list (.of ha);have hl:=rv.length;refine Lj (x:=x) (y:=y) pl.isList (by omega) (fun i v hi=>?_) fun p h' c hp hu kp g=>?_
 ·have bh:i<vs.length:=by have:=(bG.mp hi).1;omega
  have gi:vs[i]?=some vs[i]:=by simp [bh]
  obtain ⟨⟨b,eb,hb⟩,Lm⟩:=hv i _ gi;obtain ⟨u,eu,ru⟩:=rv.get gi;rw [hi] at eu;cases eu;rw [eb] at ru;cases ru;obtain ⟨_,lN,r2,o,g,cl,e,d⟩:=(show bu X.prog X.w H s.heap b (.tup [.int (x i),.int (y i)]) from I.ax b _ hb);obtain ⟨u1,u2,rfl,q1,q2⟩:=vals2 r2;obtain ⟨t1,rfl⟩:=q1;obtain ⟨t2,rfl⟩:=q2;exact ⟨⟨b,o,t1,t2,e,rfl,g,cl,d⟩,Lm⟩
 ·rw [←hl] at hp hu
  have sz:=hp.size;refine ⟨.ref (s.heap.objs.size+1),_,I.laid (t':=s.toks) (o:=.lst (p.toList.map fun i=>vs.getD i .aM)) kp (hU _) ⟨?_,p.toList.map fun i=>its.getD i Value.none,c,?_,g⟩,rfl,k p _ hp hu (I.ax.fresh (hU _))⟩
  ·rw [aK,fb,sz]
   exact hz
  ·refine Dx rv _ fun i hi=>?_
   have m:i∈List.toArray (List.range vs.length):=(Array.Perm.mem_iff hp).mp (Array.mem_toList_iff.mp hi);simpa using m
end L2
namespace My
open PySem L2
def Dz(K:aD):R2:=fun x y H Q=>∃a b xs,x=.ref a∧y=.ref b∧aU K H a xs∧H b=some (.lst [])∧Q (.bl (!xs.isEmpty)) H
theorem zD{X:Cx}(hu:X.A.units+64<cLine):b7 X (compareOp .NotEq) (Dz X.K):=by
 intro pins s σ H x y v u Q I rx ry h;obtain ⟨a,b,xs,rfl,rfl,h1,h2,q⟩:=h;cases rx;cases ry;obtain ⟨us,r1,t1,_⟩:=I.list h1;obtain ⟨vs,r2,t2,_⟩:=I.list (aU.of h2);have l1:=r1.length;have l2:=r2.length;cases xs with
 | nil=>
  refine SeqAt.RcNeAt.lists (e:=fun _=>true) t1.isList t2.isList (by simp at l1 l2 ⊢;omega) (by omega) (fun j z1 z2=>?_) _ _ _ _ ?_
  ·simp at l1
   have:us=[]:=List.length_eq_zero_iff.mp l1.symm;subst this;simp at z1
  ·rw [all_range]
   exact ⟨.bl false,H,I,rfl,q⟩
 | cons w ws=>
  refine SeqAt.RcNeAt.lists_lengths t1.isList t2.isList ?_ (by omega) _ _ _ _ ⟨.bl true,H,I,rfl,q⟩
  simp at l1 l2 ⊢;omega
variable {σ:St} {H:Hp}
theorem DA{c:TT}{t u:TS}{D:Ends}(M:St→Hp→Prop)(hM:∀σ H,M σ H→D.nx σ H)(k:∀R:St→Hp→Prop,(∀σ H,M σ H→R σ H)→yB c t u {D with nx:=R} σ H):yB c t u D σ H:=k D.nx hM
variable {wi:TI} {ρ:St→St} {te:TE} {Q:VK} {P a:Addr} {n:Nat}
theorem Ln(hn:n<sizeLine)
  (fV:∀R:It→Hp→Prop,(∀(H1:Hp),aB P H H1→ba H1 P a→R (ky 0 n) H1)→wi σ H R)
  (Pr:Addr→Nat→V→Hp→Prop) (mono:∀D i y Hc H' ys,Pr D i y Hc→Hc D=some (.lst ys)→D≠P→(∀b o,b≠D→b≠P→Hc b=some o→H' b=some o)→Pr D i y H')
  (step:∀(D:Addr) (i:Nat),i<n→∀(Hc:Hp) (R:VK),aB P H Hc→ba Hc P a→(∃ys,Hc D=some (.lst ys))→D≠P→(∀y H3,aB P Hc H3→ba H3 P a→Pr D i y H3→R y H3)→te (some (.int (0+(i:Int)))::ρ σ) Hc R)
  (fin:∀(D:Addr) (ys:List V) (Hc:Hp),D≠P→er P H D=none→aB P H Hc→ba Hc P a→ys.length=n→(∀(i:Nat) (y:V),ys[i]?=some y→Pr D i y Hc)→Hc D=some (.lst ys)→Q (.ref D) Hc):fw wi ρ (fun _ H Q=>Q true H) te σ H Q:=by
 refine fV _ fun H1 s1 p1=>?_;intro D nD;have nP:=p1.ne nD;refine ⟨fun i m ys Hc=>m=n-i∧i≤n∧Hc D=some (.lst ys)∧aB P H1 Hc∧ba Hc P a∧ys.length=i∧∀j y,ys[j]?=some y→Pr D j y Hc,⟨_,rfl,bD _,aw,(aB.refl H1).but nD,p1.upd nP,rfl,fun j y e=>by simp at e⟩,?_⟩
 rintro i m ys Hc ⟨rfl,hi,eD,sH,pc,el,hP⟩;refine ⟨eD,?_⟩;by_cases aZ:i<n
 ·refine .inr ⟨aZ,fun x H' hy=>?_⟩
  obtain ⟨rfl,rfl⟩:=hy;rw [ae rfl];refine step D i (by omega) _ _ (s1.trans sH) pc ⟨ys,eD⟩ nP fun y H3 s3 p3 hp=>?_
  have e3:=s3.at nP eD;refine ⟨e3,by omega,n-(i+1),by omega,rfl,aZ,aw,(sH.trans s3).but nD,p3.upd nP,by simp [el],fun j y' e=>?_⟩
  have bA:∀b o,b≠D→b≠P→H3 b=some o→upd H3 D (.lst (ys++[y])) b=some o:=fun b o nb _ e=>by rw [aE nb];exact e
  by_cases hj:j<i
  ·have e':ys[j]?=some y':=by rw [fG (by omega)] at e;exact e
   refine mono D j y' H' _ ys (hP j y' e') eD nP fun b o nb np e=>?_;exact bA b o nb np (s3.at np e)
  ·have hj:j=i:=by have:=(bG.mp e).1;simp at this;omega
   subst hj;have e':y'=y:=by rw [fF (by omega),el,pA] at e;simpa using e.symm
   subst e';exact mono D _ _ H3 _ ys hp e3 nP bA
 ·have e:i=n:=by omega
  subst e;exact .inl ⟨av _,fin D ys Hc nP (none_of s1 (by rw [dN nP];exact nD)) (s1.trans sH) pc el hP eD⟩
def Lo(K:aD):Sp:=fun vs H Q _=>∃(P a l:Addr) (ns:List Int) (xs:List V),vs=[.ref P,.ref l]∧ba H P a∧aU K (er P H) a (ns.map V.int)∧l≠P∧H l=some (.lst xs)∧xs.length≤100 ∧
 ∀(r:Addr) (ys:List V) (H':Hp),aB P H H'→ba H' P a→er P H r=none→r≠P→H' r=some (.lst ys)→ys.Perm xs→Q (.ref r) H'
def Lp(K:aD):Sp:=fun vs H Q _=>∃(P a:Addr) (ns:List Int) (way size wide i j:Int),vs=[.ref P,.int way,.int size,.int wide,.int i,.int j]∧ba H P a∧aU K (er P H) a (ns.map V.int) ∧
 ∀(b:Bool) (H':Hp),aB P H H'→ba H' P a→Q (.bl b) H'
theorem DB{α:Type}:∀(zs:List α) (k:Nat) (h:k<zs.length),(zs[k]::zs.eraseIdx k).Perm zs
 | _::_,0,_=>.refl _
 | z::zs,k+1,h=>(List.Perm.swap _ _ _).trans ((DB zs k (by simpa using h)).cons z)
def bb(H:Hp)(vs:List V)(L:ay):Prop:=vs.length=L.length∧∀(k:Nat) (v:V) (p:Int×Int),vs[k]?=some v→L[k]?=some p→∃b,v=.ref b∧H b=some (.tup [.int p.1,.int p.2])
theorem bb.nil(H:Hp):bb H [] []:=⟨rfl,fun k v p h=>by simp at h⟩
variable {H':Hp} {vs:List V} {L:ay}
theorem bb.mono(h:bb H vs L)(s:ak H H'):bb H' vs L:=⟨h.1,fun k v p h1 h2=>by obtain ⟨b,e,g⟩:=h.2 k v p h1 h2;exact ⟨b,e,s _ _ g⟩⟩
variable {r:Addr} {xs:List V}
theorem bb.bA(h:bb H vs L)(e:H r=some (.lst xs))(k:∀b o,b≠r→H b=some o→H' b=some o):bb H' vs L:=⟨h.1,fun i v p h1 h2=>by obtain ⟨b,eb,g⟩:=h.2 i v p h1 h2;refine ⟨b,eb,k b _ (fun z=>?_) g⟩;rw [z,e] at g;cases g⟩
variable {b:Addr} {p:Int×Int}
theorem bb.push(h:bb H vs L)(e:H b=some (.tup [.int p.1,.int p.2])):bb H (vs++[.ref b]) (L++[p]):=⟨by simp [h.1],fun k v q h1 h2=>by
 have hl:=h.1;by_cases z:k<vs.length
 ·rw [fG z] at h1
  rw [fG (by omega)] at h2
  exact h.2 k v q h1 h2
 ·have hk:=(bG.mp h1).1
  rw [dF,rQ] at hk;obtain rfl:k=vs.length:=by omega
  rw [fF (av _),pA] at h1;rw [fF (by omega),show vs.length-L.length=0 by omega] at h2
  cases h1;cases h2;exact ⟨b,rfl,e⟩⟩
structure iH (n:Nat) (L:ay):Prop where
 nd:L.Nodup
 lt:∀p∈L,0≤p.1∧p.1<p.2∧p.2<n
 di:L.length≤n*n / 2
def lexLt(p q:Int×Int):Prop:=p.1<q.1∨p.1=q.1∧p.2<q.2
variable {M:ay}
theorem Lq{p:Array Nat}(P:jS M.length p)(U:lY (fun i=>(M.getD i (0,0)).1*1000+(M.getD i (0,0)).2) p M.length)(nd:M.Nodup)(b:∀q∈M,0≤q.2∧q.2<1000) :
  (p.toList.map fun i=>M.getD i (0,0)).Perm M∧(p.toList.map fun i=>M.getD i (0,0)).Pairwise lexLt:=by
 have pm:p.toList.Perm (List.range M.length):=mS.mp P;have pn:p.toList.Nodup:=pm.nodup_iff.mpr rX;have lt:∀i∈p.toList,i<M.length:=fun i hi=>cL.mp (pm.mem_iff.mp hi);refine ⟨?_,?_⟩
 ·have e:((List.range M.length).map fun i=>M.getD i (0,0))=M:=by
   refine gx (by simp) fun i h1 h2=>?_
   rw [eV,kf,getD_at h2]
  have:=pm.map fun i=>M.getD i (0,0);rw [e] at this;exact this
 ·rw [pD]
  intro i j hi hj zh;rw [aK] at hi hj;rw [eV,eV];have sz:=P.size;have li:p.toList[i]<M.length:=lt _ (cR _);have lj:p.toList[j]<M.length:=lt _ (cR _);have u:=U i j (by omega) (by rw [←sz,←fb];exact hj)
  unfold vN at u;have gi:p.getD i 0=p.toList[i]:=by
   have:i<p.size:=by rw [←fb];exact hi
   simp [Array.getD,this]
  have gj:p.getD j 0=p.toList[j]:=by
   have:j<p.size:=by rw [←fb];exact hj
   simp [Array.getD,this]
  rw [gi,gj] at u;dsimp only at u;rw [getD_at li,getD_at lj] at u;rw [getD_at li,getD_at lj];have ne:M[p.toList[i]]≠M[p.toList[j]]:=fun e=>by have e1:=(uT nd).mp e;have e2:=(uT pn).mp e1;omega
  have b1:=b _ (cR li);have b2:=b _ (cR lj);generalize M[p.toList[i]]=x at u ne b1;generalize M[p.toList[j]]=y at u ne b2;obtain ⟨x1,x2⟩:=x;obtain ⟨y1,y2⟩:=y;unfold lexLt;dsimp only at u b1 b2 ⊢;by_cases z:x1<y1;·exact .inl z
  ·right
   have e1:x1=y1:=by omega
   subst e1;refine ⟨rfl,?_⟩;by_cases y:x2=y2
   ·subst y
    exact absurd rfl ne
   ·omega
theorem tX{α β:Type}{f:α→β}:∀{L:List α},L.Nodup→(∀p q,p∈L→q∈L→f p=f q→p=q)→(L.map f).Nodup
 | [],_,_=>jx
 | x::L,h,k=>by obtain ⟨h1,h2⟩:=hJ.mp h;refine hJ.mpr ⟨fun m=>?_,tX h2 fun p q hp hq=>k p q (bJ _ hp) (bJ _ hq)⟩;obtain ⟨y,hy,e⟩:=dr.mp m;have:=k y x (bJ _ hy) cM e;rw [this] at hy;exact h1 hy
def gg(nm:Nat→Int)(p:Int×Int):Int×Int:=(min (nm p.1.toNat) (nm p.2.toNat),max (nm p.1.toNat) (nm p.2.toNat))
structure zE (n:Nat) (nm:Nat→Int):Prop where
 lt:∀i,i<n→0≤nm i∧nm i<n
 inj:∀i j,i<n→j<n→nm i=nm j→i=j
theorem Lr{nm:Nat→Int}(h:iH n L)(N:zE n nm):iH n (L.map (gg nm)) where
 nd:=by
  refine tX h.nd fun p q hp hq e=>?_;have a:=h.lt p hp;have b:=h.lt q hq;obtain ⟨p1,p2⟩:=p;obtain ⟨q1,q2⟩:=q;obtain ⟨i,rfl⟩:=fh (show 0≤p1 by dsimp only at a;omega)
  obtain ⟨j,rfl⟩:=fh (show 0≤p2 by dsimp only at a;omega)
  obtain ⟨k,rfl⟩:=fh (show 0≤q1 by dsimp only at b;omega)
  obtain ⟨l,rfl⟩:=fh (show 0≤q2 by dsimp only at b;omega)
  dsimp only at a b;have e1:=cW Prod.fst e;have e2:=cW Prod.snd e;unfold gg at e1 e2;simp only [dH] at e1 e2;have ij:nm i≠nm j:=fun z=>by have:=N.inj i j (by omega) (by omega) z;omega
  have kl:nm k≠nm l:=fun z=>by have:=N.inj k l (by omega) (by omega) z;omega
  by_cases z:nm i=nm k
  ·have e3:nm j=nm l:=by omega
   have i1:=N.inj i k (by omega) (by omega) z
   have i2:=N.inj j l (by omega) (by omega) e3
   rw [i1,i2]
  ·have e3:nm i=nm l:=by omega
   have e4:nm j=nm k:=by omega
   have i1:=N.inj i l (by omega) (by omega) e3
   have i2:=N.inj j k (by omega) (by omega) e4
   omega
 lt:=fun p hp=>by
  obtain ⟨q,hq,rfl⟩:=dr.mp hp;have a:=h.lt q hq;have n1:=N.lt q.1.toNat (by omega)
  have n2:=N.lt q.2.toNat (by omega)
  have ne:nm q.1.toNat≠nm q.2.toNat:=fun z=>by have:=N.inj _ _ (by omega) (by omega) z;omega
  unfold gg;dsimp only;omega
 di:=by rw [aK];exact h.di
theorem iH.perm{L':ay}(h:iH n L)(p:L'.Perm L):iH n L':=⟨p.nodup_iff.mpr h.nd,fun q hq=>h.lt q (p.mem_iff.mp hq),by rw [p.length_eq];exact h.di⟩
def cE(H:Hp)(t:Addr)(n:Nat)(L:ay):Prop:=∃(lt:Addr) (us:List V),H t=some (.tup [.int (n:Int),.ref lt])∧H lt=some (.tup us)∧bb H us L
def Ls:Sp:=fun vs H Q _=>∃(l r:Addr) (n:Nat) (us ws:List V) (L:ay) (nm:Nat→Int),vs=[.int (n:Int),.ref l,.ref r]∧H l=some (.lst us)∧bb H us L∧iH n L∧n≤30∧H r=some (.lst ws)∧ws.length=n∧(∀i,i<n→ws[i]?=some (.int (nm i)))∧zE n nm ∧
 ∀(t:Addr) (L':ay) (H':Hp),ak H H'→H t=none→cE H' t n L'→iH n L'→L'.Pairwise lexLt→L'.Perm (L.map (gg nm))→Q (.ref t) H'
variable {us:List V}
theorem bb.pick(h:bb H us M)(ns:List Nat)(hn:∀i∈ns,i<M.length):bb H (ns.map fun i=>us.getD i .aM) (ns.map fun i=>M.getD i (0,0)):=⟨by simp,fun k v p h1 h2=>by
 have hl:=h.1;have hk:k<ns.length:=by have:=(bG.mp h1).1;simpa using this
 have hi:=hn ns[k] (cR hk);rw [bq,b9 hk] at h1 h2;cases h1;cases h2;dsimp only;have bh:ns[k]<us.length:=by omega
 rw [getD_at hi];have e:us.getD ns[k] .aM=us[ns[k]]:=by simp [bh]
 rw [e];exact h.2 ns[k] _ _ (by simp [bh]) (by simp [hi])⟩
variable {tt:TT}
theorem Lu{K:aD}{l:Addr}(hn:xs.length<sizeLine)(nl:l≠P)(el:H l=some (.lst xs))(pc:ba H P a)
  (fV:∀R:It→Hp→Prop,R (m9 K l) H→wi σ H R)
  (test:∀(i:Nat) (x:V),xs[i]?=some x→∀(Hc:Hp) (R:Bool→Hp→Prop),aB P H Hc→ba Hc P a→(∀b H3,aB P Hc H3→ba H3 P a→R b H3)→tt (some x::ρ σ) Hc R)
  (elem:∀(x:V) (Hc:Hp) (R:VK),R x Hc→te (some x::ρ σ) Hc R)
  (fin:∀(D:Addr) (ys:List V) (Hc:Hp),D≠P→er P H D=none→aB P H Hc→ba Hc P a→ys.Sublist xs→Hc D=some (.lst ys)→Q (.ref D) Hc):fw wi ρ tt te σ H Q:=by
 refine fV _ fun D nD=>?_;have nP:=pc.ne nD;have lD:l≠D:=fun e=>by rw [e,nD] at el;cases el
 refine ⟨fun i m ys Hc=>m=xs.length-i∧i≤xs.length∧Hc D=some (.lst ys)∧aB P H Hc∧ba Hc P a∧ys.Sublist (xs.take i),⟨_,rfl,bD _,aw,(aB.refl H).but nD,pc.upd nP,by simp⟩,?_⟩
 rintro i m ys Hc ⟨rfl,hi,eD,sH,DC,sub⟩;refine ⟨eD,?_⟩;have l9:=sH.at nl el;by_cases aZ:i<xs.length
 ·refine .inr ⟨⟨xs,xs[i],.of l9,by simp [aZ]⟩,fun x H' hy=>?_⟩
  obtain ⟨rfl,hx⟩:=hy;have ex:=hx xs (.of l9);refine test i x ex _ _ sH DC fun b H3 s3 p3=>?_;have tk:xs.take (i+1)=xs.take i++[x]:=by rw [k_,ex];rfl
  have e3:=s3.at nP eD;cases b with
  | true=>
   rw [ae rfl];refine elem x H3 _ ⟨e3,?_,xs.length-(i+1),by omega,rfl,aZ,aw,(sH.trans s3).but nD,p3.upd nP,?_⟩
   ·have:=sub.length_le
    rw [o9] at this;omega
   ·rw [tk]
    exact sub.append (List.Sublist.refl _)
  | false=>
   rw [aa (by simp)]
   refine ⟨xs.length-(i+1),by omega,rfl,aZ,e3,sH.trans s3,p3,?_⟩
   rw [tk];exact sub.trans (List.sublist_append_left _ _)
 ·have e:i=xs.length:=by omega
  subst e;rw [iS] at sub;exact .inl ⟨⟨xs,.of l9,by omega⟩,fin D ys Hc nP (by rw [dN nP];exact nD) sH DC sub eD⟩
def eL(k:Nat)(d:List Nat):Prop:=d.Pairwise (fun a b=>b<a)∧∀x∈d,x<k
theorem eL.len:∀{d:List Nat} {k:Nat},eL k d→d.length≤k
 | [],_,_=>bD _
 | x::d,k,h=>by obtain ⟨h1,h2⟩:=pF.mp h.1;have:=eL.len (k:=x) ⟨h2,fun y hy=>h1 y hy⟩;have:=h.2 x cM;rw [d9];omega
theorem eL.nil(k:Nat):eL k []:=⟨List.Pairwise.nil,fun x hx=>by cases hx⟩
variable {k:Nat} {d:List Nat}
theorem eL.sub{e:List Nat}(h:eL k d)(s:e.Sublist d):eL k e:=⟨h.1.sublist s,fun x hx=>h.2 x (s.subset hx)⟩
variable {j:Nat}
theorem eL.put(h:eL k d)(hk:k<j):eL j (k::d):=⟨pF.mpr ⟨h.2,h.1⟩,fun x hx=>by
 rcases bE.mp hx with rfl | hx;·exact hk
 ·have:=h.2 x hx
  omega⟩
theorem eL.nd(h:eL k d):d.Nodup:=h.1.imp fun h=>by omega
def dY(d:List Nat):List V:=d.map fun(x:Nat)=>V.int (x:Int)
theorem zF:∀{d:List Nat} {ys:List V},ys.Sublist (dY d)→∃e:List Nat,e.Sublist d∧ys=dY e
 | [],ys,h=>⟨[],List.Sublist.refl _,by have h:ys.Sublist []:=h;rw [List.sublist_nil.mp h];rfl⟩
 | x::d,ys,h=>by
  have h:ys.Sublist (V.int (x:Int)::dY d):=h;cases h with
  | cons _ h=>obtain ⟨e,h1,h2⟩:=zF h;exact ⟨e,h1.cons _,h2⟩
  | cons_cons _ h=>obtain ⟨e,h1,h2⟩:=zF h;exact ⟨x::e,.cons_cons _ h1,by rw [h2];rfl⟩
structure kL (j:Nat) (L:ay):Prop where
 nd:L.Nodup
 lt:∀p∈L,0≤p.1∧p.1<p.2∧p.2<j
 di:2*L.length≤j*(j-1)
theorem kL.nil:kL 1 []:=⟨jx,(fun p hp=>by cases hp),by simp⟩
theorem kL.ok(h:kL n L):iH n L:=⟨h.nd,h.lt,by
 have:=h.di;have:n*(n-1)≤n*n:=Nat.mul_le_mul_left _ (by omega)
 omega⟩
theorem kL.more(h:kL j L)(hd:eL j d):kL (j+1) (L++d.map fun(x:Nat)=>((x:Int),(j:Int))) where
 nd:=by
  refine kg.mpr ⟨h.nd,tX hd.nd fun p q _ _ e=>by have:=cW Prod.fst e;dsimp only at this;omega,fun p hp q hq e=>?_⟩
  obtain ⟨x,_,rfl⟩:=dr.mp hq;have:=h.lt p hp;rw [e] at this;dsimp only at this;omega
 lt:=fun p hp=>by
  rcases dw.mp hp with hp | hp
  ·have:=h.lt p hp
   omega
  ·obtain ⟨x,hx,rfl⟩:=dr.mp hp
   have:=hd.2 x hx;dsimp only;omega
 di:=by
  have a:=h.di;have b:=hd.len;rw [dF,aK,u_];cases j with
  | zero=>rw [Nat.zero_mul] at a;rw [Nat.mul_zero];omega
  | succ j=>
   rw [u_] at a;have e:(j+1+1)*(j+1)=(j+1)*j+2*(j+1):=by grind
   rw [e];omega
def Lv(K:aD):Sp:=fun vs H Q _=>∃(P a:Addr) (ns:List Int) (n:Nat),vs=[.ref P,.int (n:Int)]∧ba H P a∧aU K (er P H) a (ns.map V.int)∧1≤n∧n≤30 ∧
 ∀(r:Addr) (us:List V) (L:ay) (H':Hp),aB P H H'→ba H' P a→er P H r=none→r≠P→H' r=some (.lst us)→bb (er P H') us L→iH n L→Q (.ref r) H'
def Lw(H:Hp)(vs:List V)(j:Nat)(D:Nat→List Nat):Prop:=vs.length=j∧∀k,k<j→eL k (D k)∧∃b,vs[k]?=some (.ref b)∧H b=some (.lst (dY (D k)))
theorem zG{o:HO}:∀b o',b≠r→er P H b=some o'→er P (upd H r o) b=some o':=fun b o' nb e=>by
 by_cases z:b=P
 ·subst z
  unfold er at e;rw [ae rfl] at e;cases e
 ·rw [dN z] at e ⊢
  rw [aE nb];exact e
theorem bb.cat{zs:List V}(h:bb H us L)(g:bb H zs M):bb H (us++zs) (L++M):=⟨by simp [h.1,g.1],fun k v p h1 h2=>by
 have hl:=h.1;by_cases z:k<us.length
 ·rw [fG z] at h1
  rw [fG (by omega)] at h2
  exact h.2 k v p h1 h2
 ·rw [fF (by omega)] at h1
  rw [fF (by omega),show k-L.length=k-us.length by omega] at h2
  exact g.2 _ v p h1 h2⟩
variable {i:Nat}
theorem Lx{x:V}(h:(dY d)[i]?=some x):∃y,d[i]?=some y∧x=.int (y:Int):=by
 unfold dY at h;rw [bq] at h;cases e:d[i]? with
 | none=>rw [e] at h;cases h
 | some y=>rw [e] at h;cases h;exact ⟨y,rfl,rfl⟩
theorem tY(p:ba H P a)(e:H b=some (.tup xs)):er P H b=some (.tup xs):=by refine tK (fun z=>?_) e;obtain ⟨x,y,eP,_⟩:=p;rw [z,eP] at e;cases e
structure fB (j i:Nat) (L:ay):Prop where
 nd:L.Nodup
 lt:∀p∈L,0≤p.1∧p.1<p.2∧(p.2<j∨p.2=j∧p.1<i)
 di:2*L.length≤j*(j-1)+2*i
theorem fB.start:fB 0 0 []:=⟨jx,(fun p hp=>by cases hp),by simp⟩
theorem fB.skip(h:fB j i L):fB j (i+1) L:=⟨h.nd,fun p hp=>by
 have:=h.lt p hp;omega,by
 have:=h.di;omega⟩
theorem fB.push(h:fB j i L)(hi:i<j):fB j (i+1) (L++[((i:Int),(j:Int))]) where
 nd:=by
  refine kg.mpr ⟨h.nd,by simp,fun p hp q hq e=>?_⟩
  rw [dq.mp hq] at e;have:=h.lt p hp;rw [e] at this;dsimp only at this;omega
 lt:=fun p hp=>by
  rcases dw.mp hp with hp | hp
  ·have:=h.lt p hp
   omega
  ·rw [dq.mp hp]
   dsimp only;omega
 di:=by have:=h.di;rw [dF,rQ];omega
theorem fB.next(h:fB j j L):fB (j+1) 0 L:=⟨h.nd,fun p hp=>by
 have:=h.lt p hp;omega,by
 have a:=h.di;rw [u_];cases j with
 | zero=>omega
 | succ j=>
  rw [u_] at a;have e:(j+1+1)*(j+1)=(j+1)*j+2*(j+1):=by grind
  rw [e];omega⟩
theorem fB.ok(h:fB n 0 L):iH n L:=⟨h.nd,fun p hp=>by
 have:=h.lt p hp;omega,by
 have:=h.di;have:n*(n-1)≤n*n:=Nat.mul_le_mul_left _ (by omega)
 omega⟩
theorem Ly(n:Nat):(cg n).Nodup:=tX rX fun p q _ _ e=>by have:=V.int.inj e;omega
theorem Lz{ys:List V}(h:ys.Perm (cg n)):∃nm:Nat→Int,ys.length=n∧(∀i,i<n→ys[i]?=some (.int (nm i)))∧zE n nm:=by
 have ln:ys.length=n:=by rw [h.length_eq];unfold cg;simp
 have nd:ys.Nodup:=h.nodup_iff.mpr (Ly n);have each:∀i,∃x:Int,i<n→ys[i]?=some (.int x)∧0≤x∧x<n:=fun i=>by
  by_cases hi:i<n
  ·have bh:i<ys.length:=by omega
   have m:ys[i]∈cg n:=h.mem_iff.mp (cR bh);obtain ⟨k,hk,e⟩:=dr.mp m;have:=cL.mp hk;exact ⟨(k:Int),fun _=>⟨by rw [e];simp [bh],by omega,by omega⟩⟩
  ·exact ⟨0,fun z=>absurd z hi⟩
 obtain ⟨nm,hn⟩:=Classical.axiomOfChoice each;refine ⟨nm,ln,fun i hi=>(hn i hi).1,fun i hi=>(hn i hi).2,fun i j hi hj e=>?_⟩;have a:=(hn i hi).1;have b:=(hn j hj).1;rw [e] at a;have bh:i<ys.length:=by omega
 have dO:j<ys.length:=by omega
 rw [b9 bh] at a;rw [b9 dO] at b;exact (uT nd).mp ((Option.some.inj a).trans (Option.some.inj b).symm)
def LA(K:aD):Sp:=fun vs H Q _=>∃(P a:Addr) (ns:List Int) (most:Nat),vs=[.ref P,.int (most:Int)]∧ba H P a∧aU K (er P H) a (ns.map V.int)∧1≤most∧most≤30 ∧
 ∀(t:Addr) (n:Nat) (L:ay) (H':Hp),aB P H H'→ba H' P a→er P H t=none→t≠P→cE (er P H') t n L→iH n L→L.Pairwise lexLt→1≤n→n≤most→Q (.ref t) H'
theorem bb.er(h:bb H us L)(p:ba H P a):bb (er P H) us L:=⟨h.1,fun k v q h1 h2=>by obtain ⟨b,e,g⟩:=h.2 k v q h1 h2;exact ⟨b,e,tY p g⟩⟩
variable {t:Addr}
theorem cE.er(h:cE H t n L)(p:ba H P a):cE (er P H) t n L:=by obtain ⟨lt,us,h1,h2,h3⟩:=h;exact ⟨lt,us,tY p h1,tY p h2,h3.er p⟩
theorem cE.mono(h:cE H t n L)(s:ak H H'):cE H' t n L:=by obtain ⟨lt,us,h1,h2,h3⟩:=h;exact ⟨lt,us,s _ _ h1,s _ _ h2,h3.mono s⟩
theorem LB(pr:Nat→Bool)(fV:∀R:It→Hp→Prop,(∀J,jQ J xs H→R J H)→wi σ H R)(hn:xs.length<sizeLine)
  (P:Addr→Nat→V→Hp→Prop) (mono:∀D i y H H' ys,P D i y H→H D=some (.lst ys)→(∀b o,b≠D→H b=some o→H' b=some o)→P D i y H')
  (test:∀(i:Nat) (x:V),xs[i]?=some x→∀(Hc:Hp) (R:Bool→Hp→Prop),ak H Hc→R (pr i) Hc→tt (some x::ρ σ) Hc R)
  (step:∀D (i:Nat) (x:V),xs[i]?=some x→∀(Hc:Hp) (R:VK),ak H Hc→(∃ys,Hc D=some (.lst ys))→(∀y H3,ak Hc H3→P D i y H3→R y H3)→te (some x::ρ σ) Hc R)
  (fin:∀D ys Hc,H D=none→ak H Hc→ys.length=((List.range xs.length).filter pr).length→(∀(k i:Nat) (y:V),ys[k]?=some y→((List.range xs.length).filter pr)[k]?=some i→P D i y Hc)→Hc D=some (.lst ys)→Q (.ref D) Hc):fw wi ρ tt te σ H Q:=by
 refine fV _ fun J js=>?_;intro D nD;refine ⟨fun i m ys Hc=>m=xs.length-i∧i≤xs.length∧Hc D=some (.lst ys)∧ak H Hc∧ys.length=((List.range i).filter pr).length∧∀(k i':Nat) (y:V),ys[k]?=some y→((List.range i).filter pr)[k]?=some i'→P D i' y Hc,⟨_,rfl,bD _,aw,eZ (ak.refl H) nD,rfl,fun k i y h=>by simp at h⟩,?_⟩
 rintro i m ys Hc ⟨rfl,hi,eD,sH,ly,hP⟩;refine ⟨eD,?_⟩;by_cases aZ:i<xs.length
 ·refine .inr ⟨js.go i Hc sH aZ,fun x H' hy=>?_⟩
  obtain ⟨rfl,hx⟩:=js.en i Hc x H' sH hy;refine test i x (hx aZ) _ _ sH ?_;have fs:(List.range (i+1)).filter pr=(List.range i).filter pr++(if pr i=true then [i] else []):=by
   rw [pB,lh]
   congr 1
   cases e:pr i <;> simp [e]
  have fl:((List.range i).filter pr).length≤i:=bI (rY _ _) (by simp)
  cases e:pr i with
  | true=>
   rw [ae rfl];refine step D i x (hx aZ) _ _ sH ⟨_,eD⟩ fun y H3 s3 hp=>?_;have e3:=s3 _ _ eD;have bA:∀b o,b≠D→H3 b=some o→upd H3 D (.lst (ys++[y])) b=some o:=fun b o nb e=>by rw [aE nb];exact e
   refine ⟨e3,by omega,xs.length-(i+1),by omega,rfl,aZ,aw,eZ (sH.trans s3) nD,?_,fun k i' y' h1 h2=>?_⟩
   ·rw [fs,e,ae rfl,dF,dF,ly]
    rfl
   ·rw [fs,e,ae rfl] at h2
    by_cases z:k<ys.length
    ·rw [fG z] at h1
     rw [fG (by omega)] at h2
     refine mono D i' y' H' _ ys (hP k i' y' h1 h2) eD fun b o nb e=>bA b o nb (s3 _ _ e)
    ·have hk:=(bG.mp h1).1
     rw [dF,rQ] at hk;obtain rfl:k=ys.length:=by omega
     rw [fF (av _),pA] at h1;rw [fF (by omega),show ys.length-((List.range i).filter pr).length=0 by omega] at h2
     cases h1;cases h2;exact mono D _ _ H3 _ ys hp e3 bA
  | false=>
   rw [aa (by simp)]
   refine ⟨xs.length-(i+1),by omega,rfl,aZ,eD,sH,?_,fun k i' y' h1 h2=>?_⟩
   ·rw [fs,e,aa (by simp),j8]
    exact ly
   ·rw [fs,e,aa (by simp),j8] at h2
    exact hP k i' y' h1 h2
 ·have e:i=xs.length:=by omega
  subst e;exact .inl ⟨js.stop _ Hc sH (av _),fin D ys Hc nD sH ly hP eD⟩
def zH(n:Nat)(f:Nat→Nat→Bool)(i:Nat):List (Int×Int):=((List.range (n-(i+1))).filter fun k=>f i (i+1+k)).map fun k=>((i:Int),((i+1+k:Nat):Int))
def tZ(n:Nat)(f:Nat→Nat→Bool):Nat→List (Int×Int)
 | 0=>[]
 | i+1=>tZ n f i++zH n f i
variable {f:Nat→Nat→Bool}
theorem DD(h:p∈zH n f i):∃j,i<j∧j<n∧f i j=true∧p=((i:Int),(j:Int)):=by obtain ⟨k,hk,rfl⟩:=dr.mp h;obtain ⟨h1,h2⟩:=gJ.mp hk;have:=cL.mp h1;exact ⟨i+1+k,by omega,by omega,h2,rfl⟩
theorem LC(h1:i<j)(h2:j<n)(h3:f i j=true):((i:Int),(j:Int))∈zH n f i:=by
 refine dr.mpr ⟨j-(i+1),gJ.mpr ⟨cL.mpr (by omega),?_⟩,?_⟩
 ·show f i (i+1+(j-(i+1)))=true
  rw [show i+1+(j-(i+1))=j by omega]
  exact h3
 ·rw [show i+1+(j-(i+1))=j by omega]
theorem mem_of{n:Nat}{f:Nat→Nat→Bool}{p:Int×Int}:∀{k:Nat},p∈tZ n f k→∃i j,i<k∧i<j∧j<n∧f i j=true∧p=((i:Int),(j:Int))
 | 0,h=>by cases h
 | k+1,h=>by
  rcases dw.mp h with h | h
  ·obtain ⟨i,j,h1,h2⟩:=mem_of h
   exact ⟨i,j,by omega,h2⟩
  ·obtain ⟨j,h1⟩:=DD h
   exact ⟨k,j,by omega,h1⟩
theorem DE{n:Nat}{f:Nat→Nat→Bool}{i j:Nat}(h1:i<j)(h2:j<n)(h3:f i j=true):∀{k:Nat},i<k→((i:Int),(j:Int))∈tZ n f k
 | k+1,h=>by
  by_cases z:i=k
  ·subst z
   exact d8 _ (LC h1 h2 h3)
  ·exact mG _ (DE h1 h2 h3 (by omega))
theorem DF{n:Nat}{f:Nat→Nat→Bool}:∀k,(tZ n f k).Pairwise lexLt
 | 0=>List.Pairwise.nil
 | k+1=>by
  refine List.pairwise_append.mpr ⟨DF k,?_,fun p hp q hq=>?_⟩
  ·refine va.mpr ((yl.sublist List.filter_sublist).imp fun h=>?_)
   right;dsimp only;omega
  ·obtain ⟨i,j,h1,_,_,_,rfl⟩:=mem_of hp
   obtain ⟨j',_,_,_,rfl⟩:=DD hq;left;dsimp only;omega
theorem DG:¬lexLt p p:=fun h=>by unfold lexLt at h;omega
theorem LD{q:Int×Int}(h1:lexLt p q)(h2:lexLt q p):False:=by unfold lexLt at h1 h2;omega
theorem DH:∀{A B:ay},A.Pairwise lexLt→B.Pairwise lexLt→(∀p,p∈A↔p∈B)→A=B
 | [],[],_,_,_=>rfl
 | [],b::B,_,_,h=>absurd ((h b).mpr cM) (by simp)
 | a::A,[],_,_,h=>absurd ((h a).mp cM) (by simp)
 | a::A,b::B,ha,hb,h=>by
  obtain ⟨a1,a2⟩:=pF.mp ha;obtain ⟨b1,b2⟩:=pF.mp hb;have e:a=b:=by
   rcases bE.mp ((h a).mp cM) with z | z;·exact z
   ·rcases bE.mp ((h b).mpr cM) with y | y
    ·exact y.symm
    ·exact (LD (b1 a z) (a1 b y)).elim
  subst e;rw [DH a2 b2 fun p=>⟨fun m=>?_,fun m=>?_⟩]
  ·rcases bE.mp ((h p).mp (bJ _ m)) with z | z
   ·subst z
    exact (DG (a1 _ m)).elim
   ·exact z
  ·rcases bE.mp ((h p).mpr (bJ _ m)) with z | z
   ·subst z
    exact (DG (b1 _ m)).elim
   ·exact z
end My
namespace L2
open PySem PySem.Spec PyProof.Rows
end L2
namespace My
open PySem L2
def zI(n:Nat)(L:ay):Tr:=.tp [.fl (.int (n:Int)),.tp (L.map fun p=>.tp [.fl (.int p.1),.fl (.int p.2)])]
theorem DI{H:Hp}{t:Addr}{n:Nat}{L:ay}(h:cE H t n L):i7 H (zI n L) (.ref t):=by
 obtain ⟨lt,us,e1,e2,h3⟩:=h;refine .tp e1 rfl fun i v tr h1 h2=>?_
 match i,h1,h2 with
 | 0,h1,h2=>cases h1;cases h2;exact .fl rfl
 | 1,h1,h2=>
  cases h1;cases h2;refine .tp e2 (by rw [aK];exact h3.1) fun k v tr g1 g2=>?_
  have hk:k<L.length:=by have:=(bG.mp g2).1;simpa using this
  rw [bq,b9 hk] at g2;cases g2;obtain ⟨b,rfl,eb⟩:=h3.2 k v L[k] g1 (by simp [hk])
  refine .tp eb rfl fun m v tr f1 f2=>?_
  match m,f1,f2 with
  | 0,f1,f2=>cases f1;cases f2;exact .fl rfl
  | 1,f1,f2=>cases f1;cases f2;exact .fl rfl
  | m+2,f1,_=>cases f1
 | i+2,h1,_=>cases h1
theorem LF(n:Nat)(L:ay):(zI n L).In 3:=fun t ht=>by
 rcases bE.mp ht with rfl | ht;·trivial
 ·rw [dq.mp ht]
  intro u hu;obtain ⟨p,_,rfl⟩:=dr.mp hu;intro w hw;rcases bE.mp hw with rfl | hw;·trivial
  ·rw [dq.mp hw];trivial
end My
namespace L2
open PySem PySem.Spec PyProof.Rows
section
variable (P:Program) (w:World)
end
section
variable {P:Program} {w:World} {H H':Hp} {h h':Heap} {a:Addr} {o:HO}
end
section
variable {P:Program} {w:World} {H:Hp} {h h':Heap} {x e:Addr} {o':HO}
end
section
variable {fs yp ex mW:List Addr} {H H1 H2:Hp} {h h1 h2 h':Heap} {a x e:Addr} {o:HO}
end
section
variable {X:Cx} {pins:aG} {σ:List (Option V)} {H H':Hp} {s:Shared} {h':Heap}
end
section
variable {X:Cx}
variable {a b:Expr} {ta tb:TE} {pos:Pos}
variable {tA su:TT} {rest:List Expr}
end
section
variable {X:Cx} {pins:aG} {σ:St} {H:Hp} {s:Shared} {a:Addr} {xs ys:List V}
end
section
variable {X:Cx} {pins:aG} {σ:St} {H:Hp} {s:Shared} {E:aI}
end
section
variable {X:Cx} {st:Stmt} {rest:List Stmt} {t u:TS} {e:Expr} {te:TE} {pos:Pos}
end
section
variable {X:Cx} {pos:Pos}
end
section
variable {X:Cx} {pos:Pos}
end
section
variable {X:Cx} {tg:Expr}
end
section
variable {X:Cx} {a b c:Expr} {ta tb tc:TE} {pos:Pos}
end
section
variable {X:Cx} {a b c:Expr} {ta tb tc:TE} {pos:Pos}
end
section
variable {prog:Program} {w:World} {A:Around} {E:aI} {s:Shared} {K:aD} {x dx C f:Addr} {mA:bV} {name:Str} {v:Value}
end
section
variable {P:Program} {w:World} {H H':Hp} {h h':Heap} {a C dx:Addr} {fs yp:List (Str×V)}
end
section
variable {X:Cx} {pins:aG} {σ:St} {H:Hp} {s:Shared} {a C dx:Addr} {fs:List (Str×V)} {f:Str} {v:V} {A:Around} {E:aI}
end
section
variable {X:Cx} {o e value:Expr} {f:Str} {pos pos' pM:Pos} {ta tv:TE}
end
section
variable {X:Cx} {pins:aG} {σ:St} {H:Hp} {s:Shared} {A:Around} {E:aI} {Q:aI} {c:Value} {b:Bool}
end
section
variable {X:Cx} {e:Expr} {es:List Expr} {te:TE} {t:TA} {pos:Pos}
end
section
variable {X:Cx} {pins:aG} {σ:St} {H:Hp} {s s':Shared}
end
section
variable {X:Cx} {CX:gy} {k:Nat} {f C:Addr} {fd:FuncData} {ps:List Str} {sp:Sp} {jM:List V} {ds:List Value} {E:XK} {x m:Str} {p pos apos:Pos} {e o:Expr} {es:List Expr} {ta:TE} {t:TA}
end
section
variable {X:Cx} {CX:gy} {k:Nat} {f C:Addr} {fd:FuncData} {ps ks:List Str} {sp:Sp} {E:XK} {x m:Str} {p pos apos Co:Pos} {e o:Expr} {es:List Expr} {Iq:List Keyword} {te ta:TE} {t tk:TA} {nm:Option Str}
variable {g:List Value→List Value→List Value} {gV:List V→List V→List V}
end
section
variable {X:Cx} {x:Str} {p pos:Pos} {e:Expr} {es:List Expr} {t:TA} {id T:String} {r:List V→Hp→VK→Prop}
end
section
variable {κ:Type} [DecidableEq κ]
def nS(kvs:List (κ×V))(k:κ):Option V:=(kvs.find? fun kv=>decide (kv.1=k)).map (·.2)
def putK(kvs:List (κ×V))(k:κ)(v:V):List (κ×V):=
 if (kvs.any fun kv=>decide (kv.1=k))=true then kvs.map (fun kv=>if kv.1=k then (kv.1,v) else kv) else kvs++[(k,v)]
variable {p:κ×V} {r:List (κ×V)} {k:κ}
theorem DJ(e:p.1=k):nS (p::r) k=some p.2:=by simp [nS,vb,e]
theorem DK(e:¬p.1=k):nS (p::r) k=nS r k:=by simp [nS,vb,e]
theorem DL(k:κ):∀kvs:List (κ×V),(kvs.any fun kv=>decide (kv.1=k))=(nS kvs k).isSome
 | []=>rfl
 | p::r=>by
  rw [rO];by_cases e:p.1=k;·simp only [DJ e,bF e,Bool.true_or,Option.isSome_some]
  ·rw [DK e,bX e,Bool.false_or];exact DL k r
theorem DM(kvs:List (κ×V))(k:κ)(v:V):(putK kvs k v).length≤kvs.length+1:=by
 unfold putK
 split
 ·rw [aK];omega
 ·rw [dF,d9,List.length_nil];omega
theorem pK.LG{o:Option V}{u:Option Value}(r:pK o u):o.isSome=u.isSome:=by
 cases o with
 | none=>cases u with
  | none=>rfl
  | some _=>exact (show False from r).elim
 | some _=>cases u with
  | none=>exact (show False from r).elim
  | some _=>rfl
variable {kvs:List (κ×V)} {vs:List (κ×Value)}
theorem KV.any(r:KV kvs vs)(k:κ):(kvs.any fun kv=>decide (kv.1=k))=vs.any fun kv=>decide (kv.1=k):=by
 unfold KV at r
 induction r with
 | nil=>rfl
 | cons h t ih=>rw [rO,rO,ih,h.1]
variable {y:V} {u:Value}
theorem KV.zJ(r:KV kvs vs)(k:κ)(ry:RelV y u) :
  KV (kvs.map fun kv=>if kv.1=k then (kv.1,y) else kv) (vs.map fun kv=>if kv.1=k then (kv.1,u) else kv):=by
 unfold KV at r ⊢
 induction r with
 | nil=>exact .nil
 | @cons p q ps qs h t ih=>
  rw [cQ,cQ];refine .cons ?_ ih;obtain ⟨h1,h2⟩:=h;by_cases e:p.1=k;·rw [ae e,ae (h1.symm.trans e)];exact ⟨h1,ry⟩
  ·rw [aa e,aa (fun z=>e (h1.trans z))];exact ⟨h1,h2⟩
theorem KV.put(r:KV kvs vs)(k:κ)(ry:RelV y u):KV (putK kvs k y) (stored vs k u):=by
 unfold putK stored;rw [r.any k];by_cases e:(vs.any fun kv=>decide (kv.1=k))=true;·rw [ae e,ae e];exact r.zJ k ry
 ·rw [aa e,aa e];exact Paired.snoc r ⟨rfl,ry⟩
theorem KV.length(r:KV kvs vs):kvs.length=vs.length:=Paired.length r
end
variable {P:Program} {w:World} {u:Value}
theorem DN{k:Key}(r:RelV (kV k) u):(fi P w).is k u=true:=by
 cases k with
 | inl i=>obtain ⟨t,e⟩:=(show ∃t,u=Value.int i t from r);subst e;exact GQ P w i t
 | inr x=>obtain ⟨t,e⟩:=(show ∃t,u=Value.str x t from r);subst e;exact GR P w x t
theorem DO{P:Program}{w:World}:∀{ks:List Key} {us:List Value},Vals (ks.map kV) us→ItemsAre (fi P w) ks us
 | [],_,r=>by rw [List.map_nil] at r;cases r;exact .nil
 | k::ks,_,r=>by
  rw [cQ] at r;cases r with
  | cons h t=>exact .cons (DN h) (DO t)
abbrev KT (H:Hp):List (List Key×V)→List (List Key×Addr×Value)→Prop:=Paired fun p q=>p.1=q.1∧H q.2.1=some (.tup (p.1.map kV))∧RelV p.2 q.2.2
variable {H:Hp} {kvs:List (List Key×V)} {xs:List (List Key×Addr×Value)}
theorem KT.val(r:KT H kvs xs)(k:List Key):pK (nS kvs k) ((atKey xs k).map (·.2)):=by
 induction r with
 | nil=>exact True.intro
 | @cons p q ps qs h t ih=>
  obtain ⟨h1,_,h2⟩:=h;by_cases e:p.1=k
  ·have e':q.1=k:=h1.symm.trans e
   have b:atKey (q::qs) k=some q.2:=by simp [atKey,vb,e']
   rw [DJ e,b];exact h2
  ·have e':¬q.1=k:=fun z=>e (h1.trans z)
   have b:atKey (q::qs) k=atKey qs k:=by simp [atKey,vb,e']
   rw [DK e,b];exact ih
variable {y:V}
theorem KT.zJ(r:KT H kvs xs)(k:List Key)(ry:RelV y u) :
  KT H (kvs.map fun kv=>if kv.1=k then (kv.1,y) else kv) (xs.map (putAt k u)):=by
 induction r with
 | nil=>exact .nil
 | @cons p q ps qs h t ih=>
  rw [cQ,cQ];refine .cons ?_ ih;obtain ⟨h1,h2,h3⟩:=h;unfold putAt;by_cases e:p.1=k;·rw [ae e,ae (h1.symm.trans e)];exact ⟨h1,h2,ry⟩
  ·rw [aa e,aa (fun z=>e (h1.trans z))];exact ⟨h1,h2,h3⟩
theorem KT.put(r:KT H kvs xs)(k:List Key){b:Addr}(hb:H b=some (.tup (k.map kV)))(ry:RelV y u) :
  KT H (putK kvs k y) (storedH xs k b u):=by
 have e:(kvs.any fun kv=>decide (kv.1=k))=(atKey xs k).isSome:=by rw [DL,(r.val k).LG,Option.isSome_map]
 unfold putK storedH;rw [e];by_cases q:(atKey xs k).isSome=true;·rw [ae q,ae q];exact r.zJ k ry
 ·rw [aa q,aa q];exact Paired.snoc r ⟨rfl,hb,ry⟩
theorem KT.keeps{H':Hp}(r:KT H kvs xs)(ht:∀b ys,H b=some (.tup ys)→H' b=some (.tup ys)):KT H' kvs xs:=
 Paired.yo r fun _ _ z=>⟨z.1,ht _ _ z.2.1,z.2.2⟩
section
variable {P:Program} {w:World} {H:Hp} {h:Heap} {a:Addr}
theorem DQ{u:HO}(ok:bQ P w H h)(e:Rd H a u):bu P w H h a u:=e.ok ok
theorem LH{kvs:List (Key×V)}(ok:bQ P w H h)(e:Rd H a (.dK kvs)):kvs.length≤sizeLine∧(a == sysModules)=false∧∃vs,KV kvs vs∧h.DictOf (fi P w) a vs:=
 show bu P w H h a (.dK kvs) from DQ ok e
theorem LI{kvs:List (Key×V)}(ok:bQ P w H h)(e:H a=some (.dK kvs)):kvs.length≤sizeLine∧(a == sysModules)=false∧∃vs,KV kvs vs∧h.DictOf (fi P w) a vs:=LH ok (.inl e)
theorem DR{ks:List Key}(ok:bQ P w H h)(e:H a=some (.tup (ks.map kV))):(tupleKind (fi P w)).is h ks a:=by obtain ⟨_,its,r,o,h1,h2,n,h3⟩:=(show bu P w H h a (.tup (ks.map kV)) from ok a _ e);exact ⟨o,its.toArray,n,h1,h2,h3,by simpa using DO r⟩
theorem LJ(ok:bQ P w H h)(e:Rd H a (.dT kvs)):kvs.length≤sizeLine∧(a == sysModules)=false ∧
  ∃xs,KT H kvs xs∧h.DictOfH (tupleKind (fi P w)) a xs:=by
 obtain ⟨z,y,xs,r,o,es,ep,h1,h2,h3,h4,h5⟩:=(show bu P w H h a (.dT kvs) from DQ ok e);refine ⟨z,y,xs,r,o,es,ep,h1,h2,h3,h4,fun x hx=>?_,h5⟩;have all:∀{l:List (List Key×V)} {m:List (List Key×Addr×Value)},KT H l m→∀x∈m,(tupleKind (fi P w)).is h x.1 x.2.1:=by
  intro l m q
  induction q with
  | nil=>intro x hx;exact nomatch hx
  | @cons p q ps qs hq t ih=>
   intro x hx;rcases bE.mp hx with e | hx
   ·subst e
    exact DR ok (by rw [←hq.1];exact hq.2.1)
   ·exact ih x hx
 exact all r x hx
theorem LK(ok:bQ P w H h)(e:H a=some (.dT kvs)):kvs.length≤sizeLine∧(a == sysModules)=false ∧
  ∃xs,KT H kvs xs∧h.DictOfH (tupleKind (fi P w)) a xs:=LJ ok (.inl e)
end
def zK(H:Hp)(a:Addr)(y v:V)(H':Hp):Prop:=
 (∃kvs k,H a=some (.dK kvs)∧y=kV k∧kvs.length<sizeLine∧H'=upd H a (.dK (putK kvs k v))) ∨
 ∃kvs k b,H a=some (.dT kvs)∧y=.ref b∧H b=some (.tup (k.map kV))∧kvs.length<sizeLine∧H'=upd H a (.dT (putK kvs k v))
section
variable {X:Cx} {pins:aG} {σ:St} {H:Hp} {s:Shared} {a:Addr} {y v:V} {u r:Value} {o:Option V} {A:Around} {E:aI}
theorem Inv.big(I:Inv X pins σ H s):sysModules<s.heap.objs.size:=by have h:mainGlobals<s.heap.objs.size:=(I.mod.glob.keeps I.bk).lt;exact Nat.lt_trans (by decide) h
variable {h':Heap}
theorem DS{t':Nat}{ob:HO}(I:Inv X pins σ H s)(mu:r_ (H a))(hs:Heap.SameBut a s.heap h')(he:∃q,h'.get? a=some q)(new:bu X.prog X.w (upd H a ob) h' a ob) :
  Inv X pins σ (upd H a ob) {s with heap:=h',toks:=t'}:=
 I.write (x:=a) (e:=a) mu (.inl rfl) (fun b q hb z=>(hs.2 b hb).trans z) he new
variable {H':Hp}
theorem LL{kvs:List (Key×V)}{vs:List (Key×Value)}(z:kvs.length≤sizeLine)(hd:(a == sysModules)=false)(rel:KV kvs vs)(dd:h'.DictOf (fi P w) a vs) :
  bu P w H' h' a (.dK kvs):=⟨z,hd,vs,rel,dd⟩
theorem LM{Q:Unit→Shared→Prop}(hu:A.units+1<cLine)(I:Inv X pins σ H s)(g:zK H a y v H')(ry:RelV y u)(rv:RelV v r)(h:∀s',Inv X pins σ H' s'→Q () s') :
  wpAny (model X.prog X.w) A (setItem (.ref a) u r) Q E s:=by
 rcases g with ⟨kvs,k,e,ey,l,eH⟩ | ⟨kvs,k,b,e,ey,eb,l,eH⟩
 ·subst ey eH
  obtain ⟨z,hd,vs,rel,dd⟩:=LI I.ax e;have hz:vs.length≤sizeLine:=by rw [←rel.length];exact z
  have hl:(putK kvs k v).length≤sizeLine:=by have:=DM kvs k v;omega
  refine wpAny_setItem_pairs (hsz:=hz) (DN ry) dd fun h' sX hs=>h _ ?_;have he:∃q,h'.get? a=some q:=let ⟨q,_,_,hq,_⟩:=sX;⟨q,hq⟩
  exact DS I (by rw [e];exact True.intro) hs he (LL hl hd (rel.put k rv) sX)
 ·subst ey eH
  cases (show u=Value.ref b from ry);obtain ⟨z,hd,xs,rel,dd⟩:=LK I.ax e;have hz:xs.length≤sizeLine:=by rw [←Paired.length rel];exact z
  have hl:(putK kvs k v).length≤sizeLine:=by have:=DM kvs k v;omega
  refine wpAny_setItem_heap (hsz:=hz) (tupleKind_room_in1 hu) (DR I.ax eb) dd fun h' sX hs=>h _ ?_;obtain ⟨q,es,ep,hq,h2,h3,h4,_,h5⟩:=sX;refine DS I (by rw [e];exact True.intro) hs ⟨q,hq⟩ ⟨hl,hd,_,(rel.put k eb rv).keeps fun c ys ec=>?_,q,es,ep,hq,h2,h3,h4,h5⟩
  rw [aE (GS ec e (fun z=>nomatch z))];exact ec
end
section
variable {X:Cx} {pins:aG} {σ:St} {H:Hp} {s:Shared} {a:Addr} {kvs:List (Key×V)} {k:Key} {u:Value} {A:Around} {E:aI}
end
def LN(td ty tv:TE):TS:=fun D σ H=>tv σ H fun v H1=>td σ H1 fun x H2=>ty σ H2 fun y H3=>∃a H4,x=.ref a∧zK H3 a y v H4∧D.nx σ H4
section
variable {X:Cx} {o i e value:Expr} {pos pos' pM:Pos} {td ty tv:TE}
theorem zL(hu:X.A.units+1<cLine)(ho:PE X o td)(hi:PE X i ty)(hv:PE X value tv)(hs:swapsWith value (some (.Subscript o i pos')) pos.line X.env=pure false) :
  PS X (.Assign [.Subscript o i pos'] value pos) (LN td ty tv):=by
 intro pins s σ H D I h;refine wpAny_Assign_Subscript (aJ (hv pins s σ H _ I h) fun r s1 ⟨v,H1,I1,rv,q1⟩=>aJ (ho pins s1 σ H1 _ I1 q1) fun u s2 ⟨x,H2,I2,rx,q2⟩=>aJ (hi pins s2 σ H2 _ I2 q2) fun iv s3 ⟨y,H3,I3,ry,a,H4,ex,g,q3⟩=>?_) hs;subst ex;obtain rfl:u=Value.ref a:=rx;exact LM hu I3 g ry rv fun s4 I4=>⟨σ,H4,I4,q3⟩
end
theorem LO(h:Heap)(hb:sysModules<h.objs.size):bu P w H (h.push {cls:=.type "dict",data:=.dict #[]}) h.objs.size (.dK []):=
 ⟨bD _,rJ.mpr (Ne.symm (bR hb)),[],.nil,Heap.DictOf.new h⟩
def LP:TE:=fun _ H Q=>∀p,H p=none→Q (.ref p) (upd H p (.dK []))
section
variable {X:Cx} {pos:Pos}
theorem LQ:PE X (.Dict [] [] pos) LP:=fun pins s σ H Q I h=>wpAny_Dict_empty ⟨.ref s.heap.objs.size,_,I.laid (a:=s.heap.objs.size) (o:=.dK []) (t':=s.toks) (fun _ _ q=>bO _ q) (av _) (LO s.heap I.big),rfl,h _ (I.ax.fresh (av _))⟩
end
section
variable {X:Cx} {pins:aG} {σ:St} {H:Hp} {s:Shared} {a:Addr} {y d:V} {u r:Value} {o:Option V} {A:Around} {E:aI}
end
section
variable {X:Cx} {o e f:Expr} {apos gW:Pos} {td ty tx:TE}
end
section
variable {X:Cx} {pins:aG} {σ:St} {H:Hp} {s:Shared} {a:Addr} {kvs:List (Key×V)} {A:Around} {E:aI}
end
section
variable {X:Cx} {pins:aG} {σ:St} {H:Hp} {s:Shared} {a:Addr} {y:V} {u:Value} {A:Around} {E:aI}
end
end L2
namespace Att
open PySem PySem.W PySem.Calls PyProof.Rows
section
variable {prog:Program} {w:World} {A:Around} {E:aI} {s:Shared} {K:Frag}
end
end Att
namespace L2
open PySem PySem.Spec PyProof.Rows
section
variable {P:Program} {w:World} {K:aD} {mg:bV} {base:Heap}
end
section
variable {X:Cx}
end
section
variable {κ:Type} [DecidableEq κ]
end
def zM(o:Obj):Nat:=match o.data with
 | .dict _ ep=>ep
 | _=>0
def g7(a:Addr)(o:Obj)(kvs:List (Key×V)):It:=
 ⟨fun i H=>H a=some (.bg o (.dK kvs))∧i<kvs.length,fun i H x H'=>H'=H∧∃kv,kvs[i]?=some kv∧x=kV kv.1,fun i H=>H a=some (.bg o (.dK kvs))∧kvs.length≤i⟩
theorem LR{k:Key}{v:Value}(h:mU k v=true):RelV (kV k) v:=by
 rcases jE h with ⟨i,t,rfl,rfl⟩ | ⟨x,t,rfl,rfl⟩;·exact ⟨t,rfl⟩
 ·exact ⟨t,rfl⟩
theorem DT{kvs:List (Key×V)}{vs:List (Key×Value)}:∀{i:Nat} {kv:Key×V},KV kvs vs→kvs[i]?=some kv→∃v,vs[i]?=some (kv.1,v)
 | _,_,.nil,h=>by simp at h
 | 0,kv,.cons (b:=b) r _,h=>by simp at h;subst h;obtain ⟨k,v⟩:=b;have e:_=k:=r.1;exact ⟨v,by rw [e];rfl⟩
 | i+1,kv,.cons _ t,h=>by simp at h;obtain ⟨v,e⟩:=DT t h;exact ⟨v,by simpa using e⟩
section
variable {X:Cx} {pins:aG} {σ:St} {H:Hp} {s:Shared}
theorem Inv.zN{a:Addr}{o:Obj}{kvs:List (Key×V)}(I:Inv X pins σ H s)(h:H a=some (.bg o (.dK kvs))):∃vs,KV kvs vs∧s.heap.DictAt (fi X.prog X.w) a vs (zM o):=by obtain ⟨g,_,_,vs,r,o',es,ep,g',c,d,rest⟩:=(show bu X.prog X.w H s.heap a (.bg o (.dK kvs)) from I.ax a _ h);rw [g] at g';cases g';refine ⟨vs,r,o,es,g,c,?_,rest⟩;rw [d];unfold zM;rw [d]
end
theorem LS{P:Program}{w:World}{K:aD}{tg:Expr}(a it:Addr)(o:Obj)(kvs:List (Key×V)):Turn P w K tg (g7 a o kvs) [it] it (fun i h=>h.IsKeyIter it a i kvs.length (zM o)) where
 mem:=by simp
 obj:=fun i h st b hb=>by
  have e:b=it:=by simpa using hb
  subst e;obtain ⟨o,e,c,d⟩:=st;exact ⟨o,e,fun v z=>by rw [d] at z;cases z⟩
 keep:=fun i h h' st k=>by obtain ⟨o,e,c,d⟩:=st;exact ⟨o,k it (by simp) o e,c,d⟩
 item:=by
  intro X hP hw hK hc i pins s σ H E I hf st hg;subst hP hw hK;obtain ⟨eH,hi⟩:=hg;obtain ⟨vs,r,hm⟩:=I.zN eH;have lr:kvs.length=vs.length:=Paired.length r;have ek:kvs[i]?=some kvs[i]:=by simp [hi]
  obtain ⟨v,ev⟩:=DT r ek;obtain ⟨f0,f1,f2,f3,f4,f5⟩:=hf it (by simp)
  rw [lr] at st;refine wpAny_pyNext_dict_item st hm ev fun key h' hk ar sb=>?_;have I1:Inv X pins σ H {s with heap:=h'}:=I.turned (t':=s.toks) (fun b o hb e=>(sb.2 b hb).trans e) f0 f1 f3 f4 f5;obtain ⟨o',e,c,d⟩:=id ar;rw [←lr] at ar;exact ⟨key,rfl,vv (s:={s with heap:=h'}) e c d (by decide) ⟨kV kvs[i].1,H,I1,LR hk,⟨rfl,_,ek,rfl⟩,ar,fun b hb=>(hf b hb).1⟩⟩
 done:=by
  intro X hP hw hK hc i pins s σ H E I hf st hg;subst hP hw hK;obtain ⟨eH,hi⟩:=hg;obtain ⟨vs,r,hm⟩:=I.zN eH;have lr:kvs.length=vs.length:=Paired.length r;obtain ⟨f0,f1,f2,f3,f4,f5⟩:=hf it (by simp)
  rw [lr] at st;exact wpAny_pyNext_dict_end (I.ok.hd hc) st hm (by simp;omega) fun h' eb=>⟨rfl,I.turned (t':=s.toks) (fun b o hb e=>eb b o hb e) f0 f1 f3 f4 f5⟩
 self:=fun _ _ _ _ _ st h=>wpAny_pyIter_keyiter st h
section
variable {X:Cx} {tg:Expr}
def DU(tl:TE):TI:=fun σ H R=>tl σ H fun x H1=>∃a kvs,x=.ref a∧((H1 a=some (.dK kvs)∧∀o,R (g7 a o kvs) (upd H1 a (.bg o (.dK kvs))))∨∃o,H1 a=some (.bg o (.dK kvs))∧R (g7 a o kvs) H1)
theorem DV{l:Expr}{tl:TE}(hl:PE X l tl):PI X tg l (DU tl):=by
 intro pins s σ H R I h;refine aJ (hl pins s σ H _ I h) fun v s1 ⟨x,H1,I1,r1,q1⟩=>?_;obtain ⟨a,kvs,e,q⟩:=q1;subst e;cases r1;have main:∀{H2:Hp} {o:Obj},Inv X pins σ H2 s1→H2 a=some (.bg o (.dK kvs))→R (g7 a o kvs) H2→wpAny (model X.prog X.w) X.A (pyIter (.ref a)) (yF X pins σ tg R) X.xe s1:=fun{H2 o} I2 eH q=>by
  obtain ⟨vs,r,hm⟩:=I2.zN eH;obtain ⟨_,_,sys,_⟩:=(show bu X.prog X.w H2 s1.heap a (.bg o (.dK kvs)) from I2.ax a _ eH);have lr:kvs.length=vs.length:=Paired.length r;refine wpAny_pyIter_dict sys hm ?_;refine ⟨s1.heap.objs.size,[s1.heap.objs.size],_,_,H2,rfl,I2.kept (t':=s1.toks) fun b o e=>bO _ e,LS a _ o kvs,⟨_,dQ _ rfl,rfl,by rw [lr];rfl⟩,fun b hb=>?_,q⟩
  have e:b=s1.heap.objs.size:=by simpa using hb
  subst e;exact I2.sI (av _) (I2.ax.fresh (av _))
 rcases q with ⟨eH,q⟩ | ⟨o,eH,q⟩
 ·obtain ⟨hz,sys,vs,r,o,es,ep,g,c,d,rest⟩:=(show bu X.prog X.w H1 s1.heap a (.dK kvs) from I1.ax a _ eH)
  refine main (H2:=upd H1 a (.bg o (.dK kvs))) ?_ aw (q o);exact I1.write (t':=s1.toks) (x:=a) (e:=a) (by rw [eH];exact trivial) (.inl rfl) (fun b u _ e=>e) ⟨o,g⟩ ⟨g,hz,sys,vs,r,o,es,ep,g,c,d,rest⟩
 ·exact main I1 eH q
end
theorem DW:∀{us:List Value} {ns:List Int},IntsAre us ns→Vals (ns.map V.int) us
 | _,_,.nil=>.nil
 | _,_,.cons a u r=>.cons ⟨u,rfl⟩ (DW r)
def LU:List V→Hp→VK→Prop:=fun xs H Q=>∃(a:Addr) (zs:List Int),xs=[.ref a]∧H a=some (.lst (zs.map V.int))∧zs.length<64∧∀(ws:List Int) (D:Addr),ws.Perm zs→ws.Pairwise (·≤·)→H D=none→Q (.ref D) (upd H D (.lst (ws.map V.int)))
theorem DX{X:Cx}:fO X (.builtin "sorted") LU:=by
 intro pins s σ H xs us Q I r h;obtain ⟨a,zs,rfl,ha,wu,k⟩:=h;obtain ⟨u,rfl,ru⟩:=vals1 r;cases ru;obtain ⟨its,rv,pl,hz⟩:=I.list (.of ha);have hl:=rv.length;rw [aK] at hl;refine sorted_ints pl.isList (intsAre_of rv) (by omega) fun out DY a1 a2 a3=>?_
 obtain ⟨e,he⟩:=sortedAll_at s.heap its out;refine ⟨.ref (s.heap.objs.size+1),_,I.laid (t':=s.toks) (o:=.lst (DY.map .int)) (fun _ _=>sortedAll_old) (hU _) ⟨?_,out.toList,e,DW a1,?_⟩,rfl,k DY _ a2 a3 (I.ax.fresh (hU _))⟩
 ·rw [aK,a2.length_eq]
  rw [mK];omega
 ·simpa using he
end L2
namespace My
open PySem L2
def dk(ks:List Nat):List (Key×V):=ks.map fun k:Nat=>((Sum.inl (k:Int):Key),V.bl true)
def dZ(ks:List Nat)(k:Nat):List Nat:=if k∈ks then ks else ks++[k]
theorem LV{a b:Nat}:((Sum.inl (a:Int):Key)=Sum.inl (b:Int))↔a=b:=by
 constructor
 ·intro h
  have:=Sum.inl.inj h;omega
 ·rintro rfl;rfl
theorem zO(ks:List Nat):(dk ks).length=ks.length:=aK _
theorem LW(ks:List Nat)(k:Nat):((dk ks).any fun kv=>decide (kv.1=(Sum.inl (k:Int):Key)))=decide (k∈ks):=by
 rw [mJ,List.any_eq_true,lp];constructor
 ·rintro ⟨kv,h1,h2⟩
  obtain ⟨j,hj,rfl⟩:=dr.mp h1;have:=LV.mp (hV h2);subst this;exact hj
 ·intro h
  exact ⟨_,dr.mpr ⟨k,h,rfl⟩,bF rfl⟩
theorem LX(ks:List Nat)(k:Nat):putK (dk ks) (Sum.inl (k:Int):Key) (V.bl true)=dk (dZ ks k):=by
 unfold putK dZ;rw [LW];by_cases h:k∈ks
 ·rw [ae (bF h),ae h]
  unfold dk;rw [cH];refine gM fun j _=>?_;show (if _ then _ else _)=_
  split <;> rfl
 ·rw [aa (by rw [lp];exact h),aa h]
  unfold dk;rw [j_];rfl
variable {ks:List Nat} {k j:Nat}
theorem wx:j∈dZ ks k↔j∈ks∨j=k:=by
 unfold dZ;by_cases h:k∈ks
 ·rw [ae h]
  constructor;·exact .inl
  ·rintro (e | rfl)
   ·exact e
   ·exact h
 ·rw [aa h,dw,dq]
theorem LY(h:ks.Nodup):(dZ ks k).Nodup:=by
 unfold dZ;by_cases m:k∈ks;·rw [ae m];exact h
 ·rw [aa m]
  refine kg.mpr ⟨h,(by simp),fun a ha b hb=>?_⟩
  rw [dq] at hb;subst hb;rintro rfl;exact m ha
def jW(n:Nat)(ks:List Nat):Prop:=ks.Nodup∧∀k∈ks,k<n
theorem jW.nil(n:Nat):jW n []:=⟨jx,fun _ h=>by cases h⟩
variable {n:Nat}
theorem jW.add(h:jW n ks)(hk:k<n):jW n (dZ ks k):=⟨LY h.1,fun j hj=>by
 rcases wx.mp hj with e | rfl;·exact h.2 j e
 ·exact hk⟩
theorem zP:∀{n:Nat} {ks:List Nat},ks.Nodup→(∀k∈ks,k<n)→ks.length≤n
 | 0,ks,_,h=>by
  cases ks with
  | nil=>exact av _
  | cons a r=>exact absurd (h a (cM ..)) (mL _)
 | n+1,ks,nd,h=>by
  have e:=zP (n:=n) (ks:=ks.erase n) (nd.erase n) (fun k hk=>by have m:=(List.Nodup.mem_erase_iff nd).mp hk;have:=h k m.2;have:=m.1;omega)
  by_cases hm:n∈ks
  ·have:=ym hm
   omega
  ·rw [List.erase_of_not_mem hm] at e
   omega
theorem jW.len(h:jW n ks):ks.length≤n:=zP h.1 h.2
structure cU (H:Hp) (D:Addr) (n:Nat) (ds:Nat→Addr) (un:Nat→Prop) (f:Nat→List Nat):Prop where
 lst:H D=some (.lst ((List.range n).map fun i=>V.ref (ds i)))
 inj:∀i j,i<n→j<n→ds i=ds j→i=j
 ne:∀i,i<n→ds i≠D
 at':∀i,i<n→un i→H (ds i)=some (.dK (dk (f i)))
 pl:∀i,i<n→jW n (f i)
def cY(f:Nat→List Nat)(i:Nat)(ks:List Nat):Nat→List Nat:=fun j=>if j=i then ks else f j
variable {H:Hp} {D:Addr} {ds:Nat→Addr} {f:Nat→List Nat} {i:Nat}
theorem cU.put{un:Nat→Prop}(h:cU H D n ds un f)(hi:i<n)(hj:j<n)(ui:un i)(hn:n≤1000) :
  zK H (ds i) (.int (j:Int)) (.bl true) (upd H (ds i) (.dK (dk (dZ (f i) j))))∧cU (upd H (ds i) (.dK (dk (dZ (f i) j)))) D n ds un (cY f i (dZ (f i) j)):=by
 refine ⟨.inl ⟨dk (f i),Sum.inl (j:Int),h.at' i hi ui,rfl,?_,by rw [LX]⟩,?_,h.inj,h.ne,fun k hk uk=>?_,fun k hk=>?_⟩
 ·rw [zO]
  have:=(h.pl i hi).len;exact ph this (ph hn (by rw [mK];decide))
 ·rw [aE (Ne.symm (h.ne i hi))]
  exact h.lst
 ·unfold cY
  by_cases e:k=i
  ·subst e
   rw [ae rfl,aw]
  ·rw [aa e,aE (fun z=>e (h.inj k i hk hi z))]
   exact h.at' k hk uk
 ·unfold cY
  by_cases e:k=i;·rw [ae e];exact (h.pl i hi).add hj
  ·rw [aa e];exact h.pl k hk
theorem cU.ix{un:Nat→Prop}(h:cU H D n ds un f)(hi:i<n):fQ ((List.range n).map fun i=>V.ref (ds i)) (i:Int)=some (V.ref (ds i)):=
 lJ (by rw [bq,j9 hi];rfl)
def jX(n:Nat)(L:ay):Prop:=∀p∈L,0≤p.1∧p.1<(n:Int)∧0≤p.2∧p.2<(n:Int)
def eO(n:Nat)(L:ay)(f:Nat→List Nat):Prop:=∀i j:Nat,i<n→(j∈f i↔((i:Int),(j:Int))∈L∨((j:Int),(i:Int))∈L)
theorem eO.nil(n:Nat):eO n [] (fun _=>[]):=fun i j _=>by simp
theorem eO.more{L:ay}(h:eO n L f)(hi:i<n)(hj:j<n):eO n (L++[((i:Int),(j:Int))]) (cY (cY f i (dZ (f i) j)) j (dZ (cY f i (dZ (f i) j) j) i)):=fun a b ha=>by
 have e1:∀x y:Nat,y∈cY f i (dZ (f i) j) x↔y∈f x∨(x=i∧y=j):=fun x y=>by
  unfold cY;by_cases e:x=i
  ·subst e
   rw [ae rfl,wx];simp
  ·rw [aa e]
   simp [e]
 have e2:b∈cY (cY f i (dZ (f i) j)) j (dZ (cY f i (dZ (f i) j) j) i) a↔b∈cY f i (dZ (f i) j) a∨(a=j∧b=i):=by
  unfold cY;by_cases e:a=j
  ·subst e
   rw [ae rfl,wx];simp
  ·rw [aa e]
   simp [e]
 rw [e2,e1,h a b ha];simp only [dw,dq,Prod.mk.injEq];constructor
 ·rintro ((e | e) | ⟨rfl,rfl⟩)
  ·rcases e with e | e
   ·exact .inl (.inl e)
   ·exact .inr (.inl e)
  ·exact .inl (.inr ⟨by omega,by omega⟩)
  ·exact .inr (.inr ⟨rfl,rfl⟩)
 ·rintro ((e | ⟨e1,e2⟩) | (e | ⟨e1,e2⟩))
  ·exact .inl (.inl (.inl e))
  ·exact .inl (.inr ⟨by omega,by omega⟩)
  ·exact .inl (.inl (.inr e))
  ·exact .inr ⟨by omega,by omega⟩
def LZ:Sp:=fun vs H Q _=>∃(t:Addr) (n:Nat) (L:ay),vs=[.ref t]∧cE H t n L∧jX n L∧n≤1000 ∧
 ∀(H':Hp) (D:Addr) (ds:Nat→Addr) (f:Nat→List Nat),ak H H'→H D=none→(∀i,i<n→H (ds i)=none)→cU H' D n ds (fun _=>True) f→eO n L f→Q (.ref D) H'
end My
namespace L2
open PySem PySem.Spec PyProof.Rows
def L0(K:aD):R2:=fun x y H Q=>∃(a b:Addr) (xs ys:List Int),x=.ref a∧y=.ref b∧aU K H a (xs.map V.int)∧aU K H b (ys.map V.int)∧Q (.bl (decide (xs=ys))) H
theorem zQ{X:Cx}(hu:X.A.units+64<cLine):b7 X (compareOp .Eq) (L0 X.K):=by
 intro pins s σ H x y v u Q I rx ry h;obtain ⟨a,b,xs,ys,rfl,rfl,h1,h2,q⟩:=h;cases rx;cases ry;obtain ⟨us,r1,t1,_⟩:=I.list h1;obtain ⟨vs,r2,t2,_⟩:=I.list h2;have l1:=r1.length;have l2:=r2.length;rw [aK] at l1 l2;by_cases hl:xs.length=ys.length
 ·refine SeqAt.RcAt.lists (e:=fun j=>dU (.int (xs.getD j 0)) (.int (ys.getD j 0))) t1.isList t2.isList (by simp;omega) (by omega) (fun j z1 z2=>?_) _ _ _ _ ?_
  ·have tS:j<us.length:=by simpa using z1
   have L3:j<vs.length:=by simpa using z2
   have ex:(xs.map V.int)[j]?=some (.int (xs.getD j 0)):=by rw [bq,dG];simp [show j<xs.length by omega]
   have ey:(ys.map V.int)[j]?=some (.int (ys.getD j 0)):=by rw [bq,dG];simp [show j<ys.length by omega]
   obtain ⟨x',mW,rx⟩:=r1.get ex;obtain ⟨y',tN,ry⟩:=r2.get ey;have e1:us.toArray[j]=x':=by simpa using (bG.mp mW).2
   have e2:vs.toArray[j]=y':=by simpa using (bG.mp tN).2
   rw [e1,e2];exact nB rx ry rfl rfl
  ·rw [show us.toArray.size=xs.length by simp;omega,Kr hl]
   exact ⟨.bl (decide (xs=ys)),H,I,rfl,q⟩
 ·rw [bX (fun e=>hl (by rw [e]))] at q
  refine SeqAt.RcAt.lists_lengths t1.isList t2.isList ?_ (by omega) _ _ _ _ ⟨.bl false,H,I,rfl,q⟩
  simp;omega
end L2
namespace My
open PySem L2
def iN(k:Nat):Int:=(k:Int)
def iI(zs:List Int)(n:Nat):Prop:=zs.Perm ((List.range n).map iN)
instance (zs:List Int) (n:Nat):Decidable (iI zs n):=by unfold iI;exact inferInstance
theorem L4(n:Nat):((List.range n).map iN).Pairwise (·≤·):=by rw [va];exact u6 (fun h=>by unfold iN;omega) yl
variable {ws zs:List Int} {n:Nat}
theorem L5(p:ws.Perm zs)(o:ws.Pairwise (·≤·)):decide (ws=(List.range n).map iN)=decide (iI zs n):=by
 by_cases h:iI zs n
 ·rw [bF h]
  refine bF ?_;exact (p.trans h).eq_of_pairwise (fun a b _ _ h1 h2=>by omega) o (L4 n)
 ·rw [bX h]
  refine bX fun e=>h ?_;subst e;exact p.symm
def L6:Sp:=fun vs H Q _=>∃(a:Addr) (zs:List Int) (n:Nat),vs=[.ref a,.int (n:Int)]∧H a=some (.lst (zs.map V.int))∧zs.length<64∧n≤1000∧(∀H',ak H H'→Q (.bl (decide (iI zs n))) H')
def L7(N:Addr):Sp:=fun vs H Q E=>∃(a:Addr) (zs:List Int) (n:Nat),vs=[.ref a,.int (n:Int)]∧H a=some (.lst (zs.map V.int))∧zs.length<64∧n≤1000 ∧
 (¬iI zs n→∀H',ak H H'→E (.ref N) none H')∧(iI zs n→∀H',ak H H'→Q .aM H')
def L8(H:Hp)(a:Addr)(n:Nat)(o:List Nat):Prop:=H a=some (.lst (o.map fun k:Nat=>V.int (k:Int)))∧o.Perm (List.range n)
def L9:Sp:=fun vs H Q _=>∃(a:Addr) (n:Nat) (o:List Nat),vs=[.ref a]∧L8 H a n o∧n≤1000 ∧
 ∀(r:Addr) (H':Hp),ak H H'→H r=none→H' r=some (.lst ((List.range n).map fun p=>V.int (o.idxOf p:Int)))→Q (.ref r) H'
variable {H H1:Hp} {D:Addr}
theorem L_(s:ak H H1)(e:H1 D=none):H D=none:=by
 cases z:H D with
 | none=>rfl
 | some o=>rw [s _ _ z] at e;cases e
theorem wA(s:ak H H1){o:HO}(e:H1 D=none):ak H (upd H1 D o):=eZ s (L_ s e)
variable {k:Nat}
theorem DZ(h:k<n):ie n (k:Int)=some k:=by unfold ie;rw [ae (by omega),ae (by omega),dH]
def iJ(o:List Nat)(k p:Nat):Int:=if o.idxOf p<k then (o.idxOf p:Int) else 0
variable {o:List Nat}
theorem nU(h:o.Perm (List.range n)):o.Nodup:=h.nodup_iff.mpr rX
theorem qc(h:o.Perm (List.range n)):o.length=n:=by rw [h.length_eq,dR]
variable {p:Nat}
theorem gh(h:o.Perm (List.range n)):p∈o↔p<n:=by rw [h.mem_iff,cL]
theorem wB(nd:o.Nodup)(hk:k<o.length):o.idxOf o[k]=k:=nd.idxOf_getElem k hk
theorem t8(h:p∈o):∃hk:o.idxOf p<o.length,o[o.idxOf p]=p:=⟨iU h,rZ _⟩
theorem Ma(h:o.Perm (List.range n))(hk:k<o.length):((List.range n).map fun p=>V.int (iJ o k p)).set o[k] (.int (k:Int))=(List.range n).map fun p=>V.int (iJ o (k+1) p):=by
 have nd:=nU h;refine gx (by simp) fun q h1 h2=>?_
 have hq:q<n:=by simpa using h2
 rw [List.getElem_set];by_cases e:o[k]=q
 ·rw [ae e]
  simp only [eV,kf];unfold iJ;rw [←e,wB nd hk,ae (Nat.lt_succ_self k)]
 ·rw [aa e]
  simp only [eV,kf];unfold iJ;have ne:o.idxOf q≠k:=fun z=>by obtain ⟨hz,ez⟩:=t8 ((gh h).mpr hq);subst z;exact e ez
  by_cases z:o.idxOf q<k;·rw [ae z,ae (by omega)]
  ·rw [aa z,aa (by omega)]
theorem Mb(n:Nat)(o:List Nat):(List.replicate n [V.int 0]).flatten=(List.range n).map fun p=>V.int (iJ o 0 p):=by
 have e:∀n:Nat,(List.replicate n [V.int 0]).flatten=List.replicate n (V.int 0):=fun n=>by
  induction n with
  | zero=>rfl
  | succ n ih=>rw [k6,pb,ih];rfl
 rw [e];refine gx (by simp) fun q h1 h2=>?_
 simp [iJ]
theorem Mc(h:o.Perm (List.range n)):(List.range n).map (fun p=>V.int (iJ o o.length p))=(List.range n).map fun p=>V.int (o.idxOf p:Int):=by refine gM fun p hp=>?_;unfold iJ;rw [ae (iU ((gh h).mpr (cL.mp hp)))]
def l_(n:Nat)(ds:Nat→Addr)(un:Nat→Prop)(H H':Hp):Prop:=∀b o,H b=some o→(∀i,i<n→un i→b≠ds i)→H' b=some o
variable {ds:Nat→Addr}
theorem l_.refl{un:Nat→Prop}:l_ n ds un H H:=fun _ _ h _=>h
variable {i:Nat}
theorem l_.put{un:Nat→Prop}(h:l_ n ds un H H1)(hi:i<n)(ui:un i){o:HO}:l_ n ds un H (upd H1 (ds i) o):=fun b u e k=>by rw [aE (k i hi ui)];exact h b u e k
theorem take_snoc{α:Type}{xs:List α}{x:α}(h:xs[i]?=some x):xs.take (i+1)=xs.take i++[x]:=by rw [k_,h];rfl
def fD(n:Nat)(f:Nat→List Nat)(ps:List Nat)(i j:Nat)(g:Nat→List Nat):Prop:=∀a b:Nat,a<n→(b∈g a↔b∈f a∨(a≠b∧(a∈ps.take i∧b∈ps∨ps[i]?=some a∧b∈ps.take j)))
theorem fD.start(n:Nat)(f:Nat→List Nat)(ps:List Nat):fD n f ps 0 0 f:=fun a b _=>by simp
variable {f g:Nat→List Nat} {ps:List Nat}
theorem fD.row(h:fD n f ps i ps.length g):fD n f ps (i+1) 0 g:=fun a b ha=>by
 rw [h a b ha,iS];cases e:ps[i]? with
 | none=>
  have:ps.length≤i:=yc.mp e;rw [yk this,yk (by omega)]
  simp
 | some x=>
  rw [take_snoc e];simp only [dw,dq,r0,List.take_zero,mM,and_false,or_false];constructor
  ·rintro (z | ⟨z,z1 | z1⟩)
   ·exact .inl z
   ·exact .inr ⟨z,.inl z1.1,z1.2⟩
   ·exact .inr ⟨z,.inr z1.1.symm,z1.2⟩
  ·rintro (z | ⟨z,z1 | z1,z2⟩)
   ·exact .inl z
   ·exact .inr ⟨z,.inl ⟨z1,z2⟩⟩
   ·exact .inr ⟨z,.inr ⟨z1.symm,z2⟩⟩
variable {j:Nat}
theorem fD.same{x:Nat}(h:fD n f ps i j g)(hi:ps[i]?=some x)(hj:ps[j]?=some x):fD n f ps i (j+1) g:=fun a b ha=>by
 rw [h a b ha,take_snoc hj];simp only [dw,dq,hi,r0];constructor
 ·rintro (z | ⟨z,z1 | z1⟩)
  ·exact .inl z
  ·exact .inr ⟨z,.inl z1⟩
  ·exact .inr ⟨z,.inr ⟨z1.1,.inl z1.2⟩⟩
 ·rintro (z | ⟨z,z1 | ⟨z1,z2 | z2⟩⟩)
  ·exact .inl z
  ·exact .inr ⟨z,.inl z1⟩
  ·exact .inr ⟨z,.inr ⟨z1,z2⟩⟩
  ·exact absurd (z1.symm.trans z2.symm) z
theorem fD.put{x y:Nat}(h:fD n f ps i j g)(hi:ps[i]?=some x)(hj:ps[j]?=some y)(ne:x≠y):fD n f ps i (j+1) (cY g x (dZ (g x) y)):=fun a b ha=>by
 have e1:b∈cY g x (dZ (g x) y) a↔b∈g a∨(a=x∧b=y):=by
  unfold cY;by_cases e:a=x
  ·subst e
   rw [ae rfl,wx];simp
  ·rw [aa e]
   simp [e]
 rw [e1,h a b ha,take_snoc hj];simp only [dw,dq,hi,r0];constructor
 ·rintro ((z | ⟨z,z1 | z1⟩) | ⟨rfl,rfl⟩)
  ·exact .inl z
  ·exact .inr ⟨z,.inl z1⟩
  ·exact .inr ⟨z,.inr ⟨z1.1,.inl z1.2⟩⟩
  ·exact .inr ⟨ne,.inr ⟨rfl,.inr rfl⟩⟩
 ·rintro (z | ⟨z,z1 | ⟨z1,z2 | z2⟩⟩)
  ·exact .inl (.inl z)
  ·exact .inl (.inr ⟨z,.inl z1⟩)
  ·exact .inl (.inr ⟨z,.inr ⟨z1,z2⟩⟩)
  ·exact .inr ⟨z1.symm,z2⟩
theorem fD.done(h:fD n f ps ps.length 0 g):∀a b:Nat,a<n→(b∈g a↔b∈f a∨(a≠b∧a∈ps∧b∈ps)):=fun a b ha=>by rw [h a b ha,iS];simp
def Md:Sp:=fun vs H Q _=>∃(D pl:Addr) (n:Nat) (ds:Nat→Addr) (un:Nat→Prop) (f:Nat→List Nat) (ps:List Nat),vs=[.ref D,.ref pl]∧cU H D n ds un f∧H pl=some (.lst (ps.map fun k:Nat=>V.int (k:Int)))∧(∀p∈ps,p<n∧un p)∧n≤1000 ∧
 ∀(H':Hp) (g:Nat→List Nat),l_ n ds un H H'→cU H' D n ds un g→(∀a b:Nat,a<n→(b∈g a↔b∈f a∨(a≠b∧a∈ps∧b∈ps)))→Q .aM H'
theorem cU.mono{H':Hp}{un:Nat→Prop}(h:cU H D n ds un f)(s:ak H H'):cU H' D n ds un f:=⟨s _ _ h.lst,h.inj,h.ne,fun i hi ui=>s _ _ (h.at' i hi ui),h.pl⟩
theorem cU.less{un D3:Nat→Prop}(h:cU H D n ds un f)(k:∀i,i<n→D3 i→un i):cU H D n ds D3 f:=⟨h.lst,h.inj,h.ne,fun i hi ui=>h.at' i hi (k i hi ui),h.pl⟩
variable {x:Addr}
theorem cU.upd{un:Nat→Prop}(h:cU H D n ds un f){o:HO}(n1:x≠D)(n2:∀i,i<n→un i→ds i≠x):cU (upd H x o) D n ds un f:=⟨by rw [aE (Ne.symm n1)];exact h.lst,h.inj,h.ne,fun i hi ui=>by rw [aE (n2 i hi ui)];exact h.at' i hi ui,h.pl⟩
variable {a:Addr}
theorem Me{o:Obj}{kvs:List (Key×V)}(h:H1 a=some (.bg o (.dK kvs))):jQ (g7 a o kvs) (kvs.map fun kv=>kV kv.1) H1 where
 go:=fun i Hc s hi=>⟨s _ _ h,by simpa using hi⟩
 en:=fun i Hc x H' s y=>⟨y.1,fun _=>by obtain ⟨kv,e,rfl⟩:=y.2;rw [bq,e];rfl⟩
 stop:=fun i Hc s hi=>⟨s _ _ h,by simpa using hi⟩
theorem Mf(ks:List Nat):(dk ks).map (fun kv=>kV kv.1)=ks.map fun k:Nat=>V.int (k:Int):=by unfold dk;rw [cH];rfl
theorem Mg(ks:List Nat):(List.range ks.length).map (fun i=>ks.getD i 0)=ks:=by
 refine gx (by simp) fun i h1 h2=>?_
 simp [dG,h2]
theorem Mh(ks:List Nat)(pr:Nat→Bool):((List.range ks.length).filter fun i=>pr (ks.getD i 0)).map (fun i=>ks.getD i 0)=ks.filter pr:=by have e:=List.filter_map (f:=fun i=>ks.getD i 0) (l:=List.range ks.length) (p:=pr);rw [Mg] at e;exact e.symm
variable {ρ:St→St} {tt:TT} {te:TE} {σ:St} {Q:VK} {ks:List Nat}
theorem Mi{ob:Obj}(h:H a=some (.bg ob (.dK (dk ks))))(pr:Nat→Bool)(hl:ks.length<sizeLine)
  (test:∀k∈ks,∀(Hc:Hp) (R:Bool→Hp→Prop),ak H Hc→R (pr k) Hc→tt (some (.int (k:Int))::ρ σ) Hc R)
  (step:∀k∈ks,∀(Hc:Hp) (R:VK),R (.int (k:Int)) Hc→te (some (.int (k:Int))::ρ σ) Hc R)
  (fin:∀D Hc,H D=none→ak H Hc→Hc D=some (.lst ((ks.filter pr).map fun k:Nat=>V.int (k:Int)))→Q (.ref D) Hc):fw (fun _ H R=>R (g7 a ob (dk ks)) H) ρ tt te σ H Q:=by
 have at':∀{i:Nat} {x:V},(ks.map fun k:Nat=>V.int (k:Int))[i]?=some x→i<ks.length∧x=.int ((ks.getD i 0:Nat):Int)∧ks.getD i 0∈ks:=fun{i x} hx=>by
  have hi:i<ks.length:=by have:=(bG.mp hx).1;simpa using this
  rw [bq] at hx;simp [hi] at hx;rw [getD_at hi];exact ⟨hi,hx.symm,cR hi⟩
 refine LB (xs:=ks.map fun k:Nat=>V.int (k:Int)) (fun i=>pr (ks.getD i 0)) (fun R k=>k _ (by rw [←Mf];exact Me h)) (by rw [aK];exact hl) (fun _ i y _=>y=.int ((ks.getD i 0:Nat):Int)) (fun _ _ _ _ _ _ h _ _=>h) ?_ ?_ ?_
 ·intro i x hx Hc R sc hR
  obtain ⟨_,rfl,m⟩:=at' hx;exact test _ m Hc R sc hR
 ·intro D i x hx Hc R sc _ kc
  obtain ⟨_,rfl,m⟩:=at' hx;exact step _ m Hc R (kc _ Hc (ak.refl _) rfl)
 ·intro D ys Hc nD sc ly hP eD
  refine fin D Hc nD sc ?_;rw [eD,←Mh ks pr,cH];rw [aK] at ly hP
  congr 2
  refine gx (by simpa using ly) fun k h1 h2=>?_
  have h3:k<((List.range ks.length).filter fun i=>pr (ks.getD i 0)).length:=by simpa using h2
  rw [eV];exact hP k _ _ (b9 h1) (b9 h3)
theorem D4(p:ws.Perm (ks.map iN)):∃ms:List Nat,ws=ms.map iN∧ms.Perm ks:=by
 refine ⟨ws.map Int.toNat,?_,?_⟩
 ·rw [cH]
  conv=>lhs;rw [←pG ws]
  refine gM fun z hz=>?_
  obtain ⟨k,_,rfl⟩:=dr.mp (p.mem_iff.mp hz)
  show iN k=iN (Int.toNat (iN k))
  unfold iN
  rw [dH]
 ·have:=p.map Int.toNat
  rw [cH] at this
  have e:ks.map (Int.toNat ∘ iN)=ks:=by
   conv=>rhs;rw [←pG ks]
   exact gM fun k _=>dH k
  rw [e] at this
  exact this
structure jd (n:Nat) (o:List Nat) (p:Nat) (ms:List Nat):Prop where
 up:ms.Pairwise (· < ·)
 lt:∀q∈ms,q<n
 la:∀q∈ms,o.idxOf p<o.idxOf q
theorem Mj{ms:List Nat}(hk:jW n ks)(h:ms.Perm (ks.filter fun q=>decide (o.idxOf p<o.idxOf q)))(s:(ms.map iN).Pairwise (·≤·)):jd n o p ms:=by
 have m:∀q∈ms,q∈ks∧o.idxOf p<o.idxOf q:=fun q hq=>by have:=gJ.mp (h.mem_iff.mp hq);exact ⟨this.1,by simpa using this.2⟩
 refine ⟨?_,fun q hq=>hk.2 q (m q hq).1,fun q hq=>(m q hq).2⟩;have nd:ms.Nodup:=h.nodup_iff.mpr (hk.1.filter _);rw [va] at s;refine List.Pairwise.imp₂ (fun a b h1 h2=>?_) s nd;have h1:(a:Int)≤(b:Int):=h1;have h2:a≠b:=h2;omega
def D5(H:Hp)(D:Addr)(n:Nat)(rs:Nat→Addr)(g:Nat→List Nat):Prop:=H D=some (.lst ((List.range n).map fun p=>V.ref (rs p)))∧∀p,p<n→H (rs p)=some (.lst ((g p).map fun k:Nat=>V.int (k:Int)))
theorem Mk(h:iI zs n):∃o:List Nat,zs=o.map iN∧o.Perm (List.range n):=D4 h
def iK(rs:Nat→Addr)(p:Nat)(x:Addr):Nat→Addr:=fun q=>if q=p then x else rs q
theorem Ml(n:Nat)(rs:Nat→Addr)(p:Nat)(x:Addr):((List.range n).map fun q=>V.ref (rs q)).set p (.ref x)=(List.range n).map fun q=>V.ref (iK rs p x q):=by
 refine gx (by simp) fun q h1 h2=>?_
 rw [List.getElem_set,eV,kf,eV,kf];unfold iK;by_cases e:p=q
 ·subst e
  rw [ae rfl,ae rfl]
 ·rw [aa e,aa (Ne.symm e)]
variable {rs:Nat→Addr}
theorem D6:iK rs p x p=x:=ae rfl
variable {q:Nat}
theorem Mm(h:q≠p):iK rs p x q=rs q:=aa h
theorem Mn{x:List Nat}:cY f p x p=x:=ae rfl
theorem Mo{x:List Nat}(h:q≠p):cY f p x q=f q:=aa h
theorem ma{g:Nat→V}(h:p<n):fQ ((List.range n).map g) (p:Int)=some (g p):=lJ (by rw [bq,j9 h];rfl)
theorem Mp(o ks:List Nat)(p:Nat):(ks.filter fun q=>decide ((o.idxOf p:Int)<(o.idxOf q:Int)))=ks.filter fun q=>decide (o.idxOf p<o.idxOf q):=by refine List.filter_congr fun q _=>?_;rw [mJ,lp,lp];omega
theorem je(h:o.Perm (List.range n))(hp:p<n)(hq:q<n)(ne:p≠q):o.idxOf p≠o.idxOf q:=fun z=>by
 obtain ⟨h1,e1⟩:=t8 ((gh h).mpr hp);obtain ⟨h2,e2⟩:=t8 ((gh h).mpr hq);refine ne ?_;rw [←e1,←e2]
 congr 1
theorem zR{wi:TI}(h:wi σ H fun J H1=>fw (fun _ H R=>R J H) ρ tt te σ H1 Q):fw wi ρ tt te σ H Q:=h
end My
namespace L2
open PySem PySem.Spec PyProof.Rows
section
variable {X:Cx} {pins:aG} {σ:St} {H:Hp} {s:Shared}
end
end L2
namespace My
open PySem L2
variable {n p:Nat}
theorem zS{o:List Nat}(h:o.Perm (List.range n)){ms:List Nat}(k:jd n o p ms):ms.length≤n-1-o.idxOf p:=by
 have nd:(ms.map fun q=>o.idxOf q-(o.idxOf p+1)).Nodup:=by rw [List.nodup_iff_pairwise_ne,va];refine List.Pairwise.imp_of_mem (fun{a b} ha hb lt=>?_) k.up;have h1:=k.la a ha;have h2:=k.la b hb;have ne:=je h (k.lt a ha) (k.lt b hb) (bR lt);omega
 have:=zP (n:=n-1-o.idxOf p) nd (fun x hx=>by obtain ⟨q,hq,rfl⟩:=dr.mp hx;have h1:=k.la q hq;have h2:=(t8 ((gh h).mpr (k.lt q hq))).1;rw [qc h] at h2;omega)
 rwa [aK] at this
theorem D7{f g:Nat→Nat}:∀{l:List Nat},(∀p∈l,f p≤g p)→(l.map f).sum≤(l.map g).sum
 | [],_=>av _
 | a::r,h=>by have h1:=h a (cM ..);have h2:=D7 (l:=r) fun p hp=>h p (bJ _ hp);simp only [cQ,d_];omega
def cZ(p q:Nat):Int×Int:=(if (q:Int)<(p:Int) then (q:Int) else (p:Int),if (q:Int)>(p:Int) then (q:Int) else (p:Int))
theorem Mq{q:Nat}(hp:p<n)(hq:q<n):0≤(cZ p q).2∧(cZ p q).2<(n:Int):=by
 unfold cZ;dsimp only
 split <;> omega
theorem bb.app{H:Hp}{xs ys:List V}{M N:ay}(h:bb H xs M)(h':bb H ys N):bb H (xs++ys) (M++N):=by
 have l1:=h.1;have l2:=h'.1;refine ⟨by simp [l1,l2],fun k v p h1 h2=>?_⟩
 by_cases e:k<xs.length
 ·rw [fG e] at h1
  rw [fG (by omega)] at h2
  exact h.2 k v p h1 h2
 ·rw [fF (by omega)] at h1
  rw [fF (by omega),←l1] at h2
  exact h'.2 _ v p h1 h2
theorem Mr{g:Nat→Nat}{k:Nat}(h:k≤n):((List.range k).map g).sum≤((List.range n).map g).sum:=by
 induction n with
 | zero=>rw [Nat.le_zero.mp h];exact av _
 | succ n ih=>
  by_cases e:k=n+1;·subst e;exact av _
  ·have:=ih (by omega)
   rw [pB,j_,List.sum_append];omega
end My
namespace L2
open PySem PySem.Spec PyProof.Rows
theorem Ms{X:Cx}{E:XK}(L:pS X E):PassesOwn (model X.prog X.w) X.A X.env X.xe:=by rw [L.xe];exact PassesOwn.leaving
end L2
namespace My
open PySem L2
def Mt:Sp:=fun vs H Q _=>∃m:Nat,vs=[.int (m:Int)]∧m≤1000∧Q (.int ((m:Int)*m+3*m+1)) H
end My
namespace L2
open PySem PySem.Spec PyProof.Rows
end L2
namespace My
open PySem L2
end My
namespace L2
open PySem PySem.Spec PyProof.Rows
end L2
namespace My
open PySem L2
end My
namespace L2
open PySem PySem.Spec PyProof.Rows
theorem Mu{X:Cx}{K:aD}(hk:X.K=K:=by rfl):b7 X (compareOp .In) (vF K false):=by subst hk;exact IJ
end L2
namespace My
open PySem L2
def kM:V→Nat
 | .int i=>i.toNat
 | _=>0
theorem Mv{ys:List V}{n:Nat}(p:ys.Perm (cg n)):∃o:List Nat,ys=o.map (fun k:Nat=>V.int (k:Int))∧o.Perm (List.range n):=by
 refine ⟨ys.map kM,?_,?_⟩
 ·rw [cH]
  conv=>lhs;rw [←pG ys]
  refine gM fun y hy=>?_
  obtain ⟨k,_,rfl⟩:=dr.mp (p.mem_iff.mp hy)
  show V.int (k:Int)=V.int (((k:Int).toNat:Nat):Int)
  rw [dH]
 ·have:=p.map kM
  unfold cg at this
  rw [cH] at this
  have e:(List.range n).map (kM ∘ fun i:Nat=>V.int (i:Int))=List.range n:=by
   conv=>rhs;rw [←pG (List.range n)]
   exact gM fun k _=>dH k
  rw [e] at this
  exact this
variable {n:Nat} {dv:Nat→Nat→Prop} {dE:Nat→Prop} {s:Nat}
end My
namespace L2
open PySem PySem.Spec PyProof.Rows
theorem Mw{X:Cx}{K:aD}(hk:X.K=K:=by rfl):b7 X (compareOp .NotIn) (vF K true):=by subst hk;exact IK
end L2
namespace My
open PySem L2
variable {a:Addr} {σ:St} {H:Hp}
theorem Mx{ob:Obj}{ks:List Nat}{g:TG}{tb:TS}{D:Ends}(Pv:Nat→St→Hp→Prop)(h0:Pv 0 σ H)(hl:∀i σ H,i≤ks.length→Pv i σ H→H a=some (.bg ob (.dK (dk ks))))
  (hs:∀(i k:Nat) σ H,ks[i]?=some k→Pv i σ H→g (.int (k:Int)) σ H fun σ2 H2=>tb {D with nx:=Pv (i+1),ct:=Pv (i+1),bk:=D.nx} σ2 H2) (hd:∀σ H,Pv ks.length σ H→D.nx σ H) :
  ∃W:Nat→Nat→St→Hp→Prop,(∃m,W 0 m σ H)∧∀i m σ H,W i m σ H→
   ((g7 a ob (dk ks)).stop i H∧D.nx σ H)∨((g7 a ob (dk ks)).go i H∧∃N:St→Hp→Prop,(∀σ' H',N σ' H'→∃m',m'<m∧W (i+1) m' σ' H')∧∀x H',(g7 a ob (dk ks)).en i H x H'→g x σ H' fun σ2 H2=>tb {D with nx:=N,ct:=N,bk:=D.nx} σ2 H2):=by
 refine ⟨fun i m σ H=>m=ks.length-i∧i≤ks.length∧Pv i σ H,⟨ks.length,by simp,bD _,h0⟩,?_⟩
 rintro i m σ H ⟨rfl,hi,p⟩;have q:=hl i σ H hi p;by_cases aZ:i<ks.length
 ·refine .inr ⟨⟨q,by rw [zO];exact aZ⟩,Pv (i+1),fun σ' H' p'=>⟨ks.length-(i+1),by omega,rfl,aZ,p'⟩,fun x H' y=>?_⟩
  obtain ⟨e,kv,ek,rfl⟩:=y;subst e;unfold dk at ek;rw [bq,b9 aZ] at ek;cases ek;exact hs i _ σ _ (b9 aZ) p
 ·have e:i=ks.length:=by omega
  subst e;exact .inl ⟨⟨q,by rw [zO];exact av _⟩,hd σ H p⟩
structure jY (H:Hp) (D:Addr) (n:Nat) (ds:Nat→Addr) (f:Nat→List Nat):Prop where
 lst:H D=some (.lst ((List.range n).map fun i=>V.ref (ds i)))
 at':∀i,i<n→H (ds i)=some (.dK (dk (f i)))∨∃ob,H (ds i)=some (.bg ob (.dK (dk (f i))))
variable {D:Addr} {n:Nat} {ds:Nat→Addr} {f:Nat→List Nat}
theorem cU.fr(h:cU H D n ds (fun _=>True) f):jY H D n ds f:=⟨h.lst,fun i hi=>.inl (h.at' i hi trivial)⟩
theorem D8(done:List Nat)(k:Nat):pR (.int (k:Int)) (done.map fun k:Nat=>V.int (k:Int))=decide (k∈done):=by
 unfold pR;rw [mJ,List.any_eq_true,lp];constructor
 ·rintro ⟨y,hy,e⟩
  obtain ⟨j,hj,rfl⟩:=dr.mp hy;have e:((j:Int) == (k:Int))=true:=e;rw [beq_iff_eq] at e;have:j=k:=by omega
  subst this;exact hj
 ·intro h
  exact ⟨_,dr.mpr ⟨k,h,rfl⟩,vS rfl⟩
theorem D9(done:List Nat):(done.map fun k:Nat=>V.int (k:Int)).all iq=true:=by rw [pj];intro x hx;obtain ⟨j,_,rfl⟩:=dr.mp hx;rfl
variable {kvs:List (Key×V)} {R:It→Hp→Prop}
theorem Mz(h:H a=some (.dK kvs)∨∃ob,H a=some (.bg ob (.dK kvs)))(k:∀(ob:Obj) (Hf:Hp),Hf a=some (.bg ob (.dK kvs))→(∀b u,b≠a→H b=some u→Hf b=some u)→R (g7 a ob kvs) Hf) :
  (H a=some (.dK kvs)∧∀o,R (g7 a o kvs) (upd H a (.bg o (.dK kvs))))∨∃o,H a=some (.bg o (.dK kvs))∧R (g7 a o kvs) H:=by
 rcases h with e | ⟨ob,e⟩;·exact .inl ⟨e,fun o=>k o _ aw fun b u ne hb=>by rw [aE ne];exact hb⟩
 ·exact .inr ⟨ob,e,k ob H e fun _ _ _ h=>h⟩
theorem jY.keep{H':Hp}(h:jY H D n ds f)(k:∀b u,b≠a→H b=some u→H' b=some u)(nD:a≠D)(nd:∀i,i<n→ds i≠a):jY H' D n ds f:=⟨k _ _ (Ne.symm nD) h.lst,fun i hi=>by
 rcases h.at' i hi with e | ⟨ob,e⟩;·exact .inl (k _ _ (nd i hi) e)
 ·exact .inr ⟨ob,k _ _ (nd i hi) e⟩⟩
theorem jY.bg{H H':Hp}{D:Addr}{n:Nat}{ds:Nat→Addr}{f:Nat→List Nat}(h:jY H D n ds f){j:Nat}{ob:Obj}(k:∀b u,b≠ds j→H b=some u→H' b=some u)(hj:j<n)(e:H' (ds j)=some (.bg ob (.dK (dk (f j)))))(inj:∀i j,i<n→j<n→ds i=ds j→i=j)(nD:ds j≠D):jY H' D n ds f:=⟨k _ _ (Ne.symm nD) h.lst,fun i hi=>by
 by_cases z:i=j;·subst z;exact .inr ⟨ob,e⟩
 ·rcases h.at' i hi with e | ⟨ob,e⟩
  ·exact .inl (k _ _ (fun q=>z (inj i j hi hj q)) e)
  ·exact .inr ⟨ob,k _ _ (fun q=>z (inj i j hi hj q)) e⟩⟩
theorem MA{tl:TE}(hp:∀Q:VK,Q (.ref a) H→tl σ H Q)(h:H a=some (.dK kvs)∨∃ob,H a=some (.bg ob (.dK kvs)))(k:∀(ob:Obj) (Hf:Hp),Hf a=some (.bg ob (.dK kvs))→(∀b u,b≠a→H b=some u→Hf b=some u)→R (g7 a ob kvs) Hf):DU tl σ H R:=hp _ ⟨a,kvs,rfl,Mz h k⟩
def gm(g:Nat→List Nat)(i j:Nat):Nat→List Nat:=cY g i (g i++[j])
variable {g:Nat→List Nat} {i j:Nat}
theorem D_{a b:Nat}:b∈gm g i j a↔b∈g a∨(a=i∧b=j):=by
 unfold gm cY;by_cases e:a=i
 ·subst e
  rw [ae rfl,dw,dq];simp
 ·rw [aa e]
  simp [e]
theorem zT{a:Nat}:(gm g i j a).length≤(g a).length+1:=by
 unfold gm cY;by_cases e:a=i
 ·subst e
  rw [ae rfl,dF];exact av _
 ·rw [aa e];omega
theorem eO.snoc{L:ay}(h:eO n L g):eO n (L++[((i:Int),(j:Int))]) (gm (gm g i j) j i):=fun a b ha=>by
 rw [D_,D_,h a b ha];simp only [dw,dq,Prod.mk.injEq];constructor
 ·rintro (((e | e) | ⟨rfl,rfl⟩) | ⟨rfl,rfl⟩)
  ·exact .inl (.inl e)
  ·exact .inr (.inl e)
  ·exact .inl (.inr ⟨rfl,rfl⟩)
  ·exact .inr (.inr ⟨rfl,rfl⟩)
 ·rintro ((e | ⟨e1,e2⟩) | (e | ⟨e1,e2⟩))
  ·exact .inl (.inl (.inl e))
  ·exact .inl (.inr ⟨by omega,by omega⟩)
  ·exact .inl (.inl (.inr e))
  ·exact .inr ⟨by omega,by omega⟩
structure md (H:Hp) (D:Addr) (n:Nat) (rs:Nat→Addr) (g:Nat→List Nat):Prop where
 lst:H D=some (.lst ((List.range n).map fun i=>V.ref (rs i)))
 inj:∀i j,i<n→j<n→rs i=rs j→i=j
 ne:∀i,i<n→rs i≠D
 at':∀i,i<n→H (rs i)=some (.lst ((g i).map fun k:Nat=>V.int (k:Int)))
theorem md.snoc{rs:Nat→Addr}(h:md H D n rs g)(j:Nat)(hi:i<n):md (upd H (rs i) (.lst (((g i).map fun k:Nat=>V.int (k:Int))++[V.int (j:Int)]))) D n rs (gm g i j):=by
 refine ⟨by rw [aE (Ne.symm (h.ne i hi))];exact h.lst,h.inj,h.ne,fun a ha=>?_⟩
 unfold gm cY;by_cases e:a=i
 ·subst e
  rw [ae rfl,aw,j_];rfl
 ·rw [aa e,aE (fun z=>e (h.inj a i ha hi z))]
  exact h.at' a ha
end My
namespace L2
open PySem PySem.Spec PyProof.Rows
end L2
namespace My
open PySem L2
theorem MB{X:Cx}{pins:aG}{σ:St}{H:Hp}{s:Shared}(I:Inv X pins σ H s){A:Around}(hu:A.units<cLine){p q:Addr}{x y:Int×Int}(e:H p=some (.tup [.int x.1,.int x.2]))(e':H q=some (.tup [.int y.1,.int y.2])):SeqAt.EqAt A s (.ref p) (.ref q) (decide (x=y)):=by
 by_cases pq:p=q
 ·subst pq
  rw [e] at e';cases x;cases y;simp only [r0,HO.tup.injEq,List.cons.injEq,V.int.injEq,and_true] at e';rw [bF (Prod.ext e'.1 e'.2)];exact SeqAt.EqAt.same _
 obtain ⟨us,r1,t1,_⟩:=I.tuple (.of e);obtain ⟨vs,r2,t2,_⟩:=I.tuple (.of e');obtain ⟨a1,a2,rfl,zU,zV⟩:=vals2 r1;obtain ⟨b1,b2,rfl,zW,zX⟩:=vals2 r2;have z:=SeqAt.RcAt.tuples (A:=A) (e:=fun j=>if j=0 then dU (.int x.1) (.int y.1) else dU (.int x.2) (.int y.2)) t1 t2 hu (fun j z1 z2=>by
  have:j<2:=z1
  match j with
  | 0=>exact nB zU zW rfl rfl
  | 1=>exact nB zV zX rfl rfl)
 have ec:decide (x=y)=((List.range (min ([a1,a2]:List Value).toArray.size ([b1,b2]:List Value).toArray.size)).all (fun j=>if j=0 then dU (.int x.1) (.int y.1) else dU (.int x.2) (.int y.2)) && ([a1,a2]:List Value).toArray.size == ([b1,b2]:List Value).toArray.size):=by cases x;cases y;simp only [Prod.mk.injEq];show _=((List.range 2).all _ && true);simp [pB,dU];rfl
 rw [ec];exact pC pq z
end My
namespace L2
open PySem PySem.Spec PyProof.Rows My
end L2
namespace My
open PySem L2
def wC(p q:Int×Int):Prop:=p.1*1000+p.2≤q.1*1000+q.2
variable {M:ay}
theorem MC{p:Array Nat}(P:jS M.length p)(U:lY (fun i=>(M.getD i (0,0)).1*1000+(M.getD i (0,0)).2) p M.length) :
  (p.toList.map fun i=>M.getD i (0,0)).Perm M∧(p.toList.map fun i=>M.getD i (0,0)).Pairwise wC:=by
 have pm:p.toList.Perm (List.range M.length):=mS.mp P;have lt:∀i∈p.toList,i<M.length:=fun i hi=>cL.mp (pm.mem_iff.mp hi);refine ⟨?_,?_⟩
 ·have e:((List.range M.length).map fun i=>M.getD i (0,0))=M:=by
   refine gx (by simp) fun i h1 h2=>?_
   rw [eV,kf,getD_at h2]
  have:=pm.map fun i=>M.getD i (0,0);rw [e] at this;exact this
 ·rw [pD]
  intro i j hi hj zh;rw [aK] at hi hj;rw [eV,eV];have sz:=P.size;have u:=U i j (by omega) (by rw [←sz,←fb];exact hj)
  unfold vN at u;have gi:p.getD i 0=p.toList[i]:=by
   have:i<p.size:=by rw [←fb];exact hi
   simp [Array.getD,this]
  have gj:p.getD j 0=p.toList[j]:=by
   have:j<p.size:=by rw [←fb];exact hj
   simp [Array.getD,this]
  rw [gi,gj] at u;exact u
theorem MD{H:Hp}{l:Addr}{us:List V}{Q:VK}(el:H l=some (.lst us))(hM:bb H us M)(Tx:M.length<1000)(b:∀q∈M,0≤q.2∧q.2<1000)
  (k:∀(l':Addr) (ws:List V) (N:ay) (H':Hp),ak H H'→H l'=none→H' l'=some (.lst ws)→bb H' ws N→N.Perm M→N.Pairwise wC→Q (.ref l') H'):Dw [.ref l] H Q:=by
 have lX:=hM.1;refine ⟨l,us,fun i=>(M.getD i (0,0)).1,fun i=>(M.getD i (0,0)).2,rfl,el,by omega,fun i v hv=>?_,fun p l' hp hu nV=>?_⟩
 ·have hi:i<M.length:=by rw [←lX];exact (bG.mp hv).1
  obtain ⟨c,rfl,ec⟩:=hM.2 i v M[i] hv (by simp [hi])
  dsimp only;rw [getD_at hi];exact ⟨⟨c,rfl,ec⟩,b _ (cR hi)⟩
 ·rw [lX] at hp hu
  obtain ⟨pm,pw⟩:=MC hp hu;have hP:bb H (p.toList.map fun i=>us.getD i .aM) (p.toList.map fun i=>M.getD i (0,0)):=hM.pick _ fun i hi=>by have:p.toList.Perm (List.range M.length):=mS.mp hp;exact cL.mp (this.mem_iff.mp hi)
  exact k l' _ _ _ (aX nV) nV aw (hP.mono (aX nV)) pm pw
end My
namespace L2
open PySem PySem.Spec PyProof.Rows My
end L2
namespace My
open PySem L2
variable {xs:List V}
theorem ME{v:V}(h1:1≤xs.length)(h:xs[xs.length-1]?=some v):fQ xs (-1)=some v:=by
 unfold fQ;have e:ie xs.length (-1)=some (xs.length-1):=by
  unfold ie
  split
  ·rename_i hh;omega
  ·split
   ·congr 1
    omega
   ·rename_i h2 h3
    omega
 rw [e];exact h
inductive Wk (dv:Nat→Nat→Prop) (dE:Nat→Prop) (s:Nat):Nat→Prop where
 | one {b:Nat}:dv s b→Wk dv dE s b
 | more {a b:Nat}:Wk dv dE s a→dE a→dv a b→Wk dv dE s b
section
variable {dv:Nat→Nat→Prop} {dE t_:Nat→Prop} {s t:Nat}
theorem Wk.mono(h:Wk dv dE s t)(k:∀x,dE x→t_ x):Wk dv t_ s t:=by
 induction h with
 | one ab=>exact .one ab
 | more _ o ab ih=>exact .more ih (k _ o) ab
theorem Wk.cons{a:Nat}(ab:dv s a)(ta:dE a)(h:Wk dv dE a t):Wk dv dE s t:=by
 induction h with
 | one e=>exact .more (.one ab) ta e
 | more _ o e ih=>exact .more ih o e
theorem Wk.symm(sy:∀a b,dv a b→dv b a)(h:Wk dv dE s t):Wk dv dE t s:=by
 induction h with
 | one ab=>exact .one (sy _ _ ab)
 | more _ o ab ih=>exact ih.cons (sy _ _ ab) o
variable {p:Nat}
theorem Wk.trans(h:Wk dv dE s p)(tp:dE p)(h':Wk dv dE p t):Wk dv dE s t:=by
 induction h' with
 | one ab=>exact .more h tp ab
 | more _ o ab ih=>exact .more ih o ab
theorem Wk.step(k:∀x,t_ x↔dE x∨x=p):Wk dv t_ s t↔Wk dv dE s t∨(Wk dv dE s p∧Wk dv dE p t):=by
 constructor
 ·intro h
  induction h with
  | one ab=>exact .inl (.one ab)
  | more _ o ab ih=>
   rcases (k _).mp o with o | rfl
   ·rcases ih with ih | ⟨i1,i2⟩
    ·exact .inl (.more ih o ab)
    ·exact .inr ⟨i1,.more i2 o ab⟩
   ·rcases ih with ih | ⟨i1,_⟩
    ·exact .inr ⟨ih,.one ab⟩
    ·exact .inr ⟨i1,.one ab⟩
 ·have m:∀x,dE x→t_ x:=fun x h=>(k x).mpr (.inl h)
  rintro (h | ⟨h,h'⟩);·exact h.mono m
  ·exact (h.mono m).trans ((k p).mpr (.inr rfl)) (h'.mono m)
end
def aL(n:Nat)(L:ay)(a b:Nat):Prop:=a<n∧b<n∧(((a:Int),(b:Int))∈L∨((b:Int),(a:Int))∈L)
variable {n:Nat} {L:ay}
theorem jg(a b:Nat)(h:aL n L a b):aL n L b a:=⟨h.2.1,h.1,h.2.2.symm⟩
def kO(L:ay):Prop:=∀p∈L,p.1≠p.2
def eQ(n:Nat)(o:List Nat)(k x:Nat):Prop:=x<n∧o.idxOf x<k
def nW(n:Nat)(L:ay)(o:List Nat)(k:Nat)(f:Nat→List Nat):Prop:=∀a b:Nat,a<n→b<n→k≤o.idxOf a→k≤o.idxOf b→(b∈f a↔a≠b∧Wk (aL n L) (eQ n o k) a b)
variable {o:List Nat} {f:Nat→List Nat}
theorem nW.start(nb:eO n L f)(ns:kO L):nW n L o 0 f:=fun a b ha hb _ _=>by
 rw [nb a b ha];constructor
 ·intro h
  refine ⟨fun e=>?_,.one ⟨ha,hb,h⟩⟩;subst e;rcases h with h | h <;> exact ns _ h rfl
 ·rintro ⟨_,h⟩
  cases h with
  | one ab=>exact ab.2.2
  | more _ o _=>exact absurd o.2 (mL _)
variable {k p:Nat} {g:Nat→List Nat}
theorem nW.step(ho:o.Perm (List.range n)){ms:List Nat}(h:nW n L o k f)(hp:p<n)(ip:o.idxOf p=k)(hm:∀q,q∈ms↔q∈f p∧k<o.idxOf q)(ml:∀q∈ms,q<n)
  (con:∀a b:Nat,a<n→(b∈g a↔b∈f a∨(a≠b∧a∈ms∧b∈ms))):nW n L o (k+1) g:=fun a b ha hb ka kb=>by
 have th:∀x,eQ n o (k+1) x↔eQ n o k x∨x=p:=fun x=>by
  unfold eQ;constructor
  ·rintro ⟨h1,h2⟩
   by_cases e:o.idxOf x=k
   ·right
    by_cases z:x=p;·exact z
    ·exact absurd (e.trans ip.symm) (je ho h1 hp z)
   ·exact .inl ⟨h1,by omega⟩
  ·rintro (⟨h1,h2⟩ | rfl)
   ·exact ⟨h1,by omega⟩
   ·exact ⟨hp,by omega⟩
 have ap:a≠p:=fun e=>by subst e;omega
 have bp:b≠p:=fun e=>by subst e;omega
 have ea:=h p a hp ha (by omega) (by omega)
 have eb:=h p b hp hb (by omega) (by omega)
 rw [con a b ha,h a b ha hb (by omega) (by omega),hm a,hm b,ea,eb,Wk.step th]
 constructor
 ·rintro (⟨h1,h2⟩ | ⟨h1,⟨⟨_,h2⟩,_⟩,⟨_,h3⟩,_⟩)
  ·exact ⟨h1,.inl h2⟩
  ·exact ⟨h1,.inr ⟨h2.symm jg,h3⟩⟩
 ·rintro ⟨h1,h2 | ⟨h2,h3⟩⟩
  ·exact .inl ⟨h1,h2⟩
  ·exact .inr ⟨h1,⟨⟨Ne.symm ap,h2.symm jg⟩,by omega⟩,⟨Ne.symm bp,h3⟩,by omega⟩
def me(n:Nat)(L:ay)(o:List Nat)(p:Nat)(ms:List Nat):Prop:=∀q,q∈ms↔q<n∧o.idxOf p<o.idxOf q∧Wk (aL n L) (eQ n o (o.idxOf p)) p q
def MF(N:Addr):Sp:=fun vs H Q E=>∃(t a:Addr) (n:Nat) (L:ay) (zs:List Int),vs=[.ref t,.ref a]∧cE H t n L∧jX n L∧kO L∧n≤60∧H a=some (.lst (zs.map V.int))∧zs.length<64 ∧
 (¬iI zs n→∀H',ak H H'→E (.ref N) none H') ∧
 ∀o:List Nat,zs=o.map iN→o.Perm (List.range n)→∀(H':Hp) (D:Addr) (rs:Nat→Addr) (g:Nat→List Nat),ak H H'→H D=none→(∀p,p<n→H (rs p)=none)→D5 H' D n rs g→(∀p,p<n→jd n o p (g p)∧me n L o p (g p))→Q (.ref D) H'
theorem zY{q p' q':Nat}(h:cZ p q=cZ p' q'):(p=p'∧q=q')∨(p=q'∧q=p'):=by
 unfold cZ at h;have h1:=cW Prod.fst h;have h2:=cW Prod.snd h;dsimp only at h1 h2
 split at h1 <;> split at h1 <;> split at h2 <;> split at h2 <;> omega
def ck(n:Nat)(L:ay)(o:List Nat)(M:ay):Prop:=M.Pairwise lexLt∧∀z,z∈M↔∃p q:Nat,p<n∧q<n∧o.idxOf p<o.idxOf q∧Wk (aL n L) (eQ n o (o.idxOf p)) p q∧z=cZ p q
variable {M N:ay}
theorem ck.uniq(h:ck n L o M)(h':ck n L o N):M=N:=DH h.1 h'.1 fun z=>by rw [h.2 z,h'.2 z]
theorem ck.lt(h:ck n L o M):∀z∈M,0≤z.1∧z.1<z.2∧z.2<(n:Int):=fun z hz=>by
 obtain ⟨p,q,hp,hq,hi,_,rfl⟩:=(h.2 z).mp hz;have ne:p≠q:=fun e=>by subst e;omega
 unfold cZ;dsimp only
 split <;> split <;> omega
theorem MG(h:N.Pairwise wC)(nd:N.Nodup)(b:∀q∈N,0≤q.2∧q.2<1000):N.Pairwise lexLt:=by
 have:=List.Pairwise.and h nd;refine List.Pairwise.imp_of_mem (fun{x y} hx hy MJ=>?_) this;obtain ⟨h1,h2⟩:=MJ;have b1:=b x hx;have b2:=b y hy;obtain ⟨x1,x2⟩:=x;obtain ⟨y1,y2⟩:=y;unfold wC at h1;unfold lexLt;dsimp only at *;by_cases z:x1<y1;·exact .inl z
 ·right
  have e1:x1=y1:=by omega
  subst e1;refine ⟨rfl,?_⟩;by_cases y:x2=y2
  ·subst y
   exact absurd rfl h2
  ·omega
theorem MK(h:o.Perm (List.range n))(n9:n≤30)(k:∀p,p<n→jd n o p (g p)):((List.range n).map fun p=>(g p).length).sum≤435:=by
 have a:=D7 (l:=List.range n) (f:=fun p=>(g p).length) (g:=fun p=>n-1-o.idxOf p) fun p hp=>zS h (k p (cL.mp hp));have b:((List.range n).map fun p=>n-1-o.idxOf p).sum=(o.map fun p=>n-1-o.idxOf p).sum:=((h.map _).symm).sum_nat;have c:(o.map fun p=>n-1-o.idxOf p)=(List.range n).map fun k=>n-1-k:=by
  have nd:=nU h;refine gx (by simp [qc h]) fun i h1 h2=>?_
  rw [eV,eV,kf,wB nd (by simpa using h1)]
 have d:∀n:Nat,n≤30→((List.range n).map fun k=>n-1-k).sum≤435:=by decide
 rw [c] at b;have:=d n n9;omega
structure wD (H:Hp) (g:Nat→List Nat) (k:Nat) (xs:List V) (M:ay):Prop where
 at':bb H xs M
 len:M.length=((List.range k).map fun p=>(g p).length).sum
 mem:∀z,z∈M↔∃p q:Nat,p<k∧q∈g p∧z=cZ p q
 nd:M.Nodup
variable {H:Hp} {ys:List V}
theorem wD.more{H':Hp}(h:wD H g k xs M)(s:bb H xs M→bb H' xs M)(hk:k<n)(hg:∀p,p<n→jd n o p (g p))(hy:bb H' ys ((g k).map (cZ k))):wD H' g (k+1) (xs++ys) (M++(g k).map (cZ k)):=by
 have gk:=hg k hk;refine ⟨(s h.at').app hy,by rw [dF,h.len,aK,pB,j_,List.sum_append];simp,fun z=>?_,?_⟩
 ·rw [dw,h.mem,dr]
  constructor
  ·rintro (⟨p,q,h1,h2,h3⟩ | ⟨q,h1,rfl⟩)
   ·exact ⟨p,q,by omega,h2,h3⟩
   ·exact ⟨k,q,by omega,h1,rfl⟩
  ·rintro ⟨p,q,h1,h2,rfl⟩
   by_cases e:p=k
   ·subst e
    exact .inr ⟨q,h2,rfl⟩
   ·exact .inl ⟨p,q,by omega,h2,rfl⟩
 ·refine kg.mpr ⟨h.nd,?_,fun a ha b hb e=>?_⟩
  ·refine tX (u6 (fun h=>bR h) gk.up) fun q q' hq vP e=>?_
   rcases zY e with ⟨_,e⟩ | ⟨e1,e2⟩;·exact e
   ·omega
  ·subst e
   obtain ⟨p,q,h1,h2,rfl⟩:=(h.mem a).mp ha;obtain ⟨q',vP,e⟩:=dr.mp hb;rcases zY e with ⟨e1,e2⟩ | ⟨e1,e2⟩;·omega
   ·have l1:=(hg p (by omega)).la q h2
    have l2:=gk.la q' vP;subst e1;subst e2;omega
def ML(N:Addr):Sp:=fun vs H Q E=>∃(t a:Addr) (n:Nat) (L:ay) (zs:List Int),vs=[.ref t,.ref a]∧cE H t n L∧jX n L∧kO L∧n≤30∧H a=some (.lst (zs.map V.int))∧zs.length<64 ∧
 (¬iI zs n→∀H',ak H H'→E (.ref N) none H') ∧
 ∀o:List Nat,zs=o.map iN→o.Perm (List.range n)→∀(H':Hp) (t':Addr) (M:ay),ak H H'→H t'=none→cE H' t' n M→ck n L o M→M.length≤435→Q (.ref t') H'
def MM:R2:=fun x y H Q=>∃(a b:Addr) (n:Nat) (L M:ay),x=.ref a∧y=.ref b∧cE H a n L∧cE H b n M∧Q (.bl (decide (L=M))) H
variable {X:Cx}
theorem MN{pins:aG}{σ:St}{s:Shared}(I:L2.Inv X pins σ H s){A:Around}(hu:A.units<cLine){us vs:List Value}(k1:bb H xs L)(k2:bb H ys M)(r1:Vals xs us)(r2:Vals ys vs):∀j (z1:j<us.toArray.size) (z2:j<vs.toArray.size),SeqAt.EqAt A s us.toArray[j] vs.toArray[j] (decide (L.getD j (0,0)=M.getD j (0,0))):=fun j z1 z2=>by
 have l1:=r1.length;have l2:=r2.length;have m1:=k1.1;have m2:=k2.1;have tS:j<us.length:=by simpa using z1
 have L3:j<vs.length:=by simpa using z2
 obtain ⟨p,ep,hp⟩:=k1.2 j xs[j] (L.getD j (0,0)) (by simp) (by simp [dG,show j<L.length by omega])
 obtain ⟨p',h_,l8⟩:=k2.2 j ys[j] (M.getD j (0,0)) (by simp) (by simp [dG,show j<M.length by omega])
 obtain ⟨x',mW,rx⟩:=r1.get (i:=j) (x:=xs[j]) (by simp)
 obtain ⟨y',tN,ry⟩:=r2.get (i:=j) (x:=ys[j]) (by simp)
 have e1:us.toArray[j]=x':=by simpa using (bG.mp mW).2
 have e2:vs.toArray[j]=y':=by simpa using (bG.mp tN).2
 rw [e1,e2];rw [ep] at rx;rw [h_] at ry;cases rx;cases ry;exact MB I hu hp l8
theorem MO:((List.range (min L.length M.length)).all (fun j=>decide (L.getD j (0,0)=M.getD j (0,0))) && L.length == M.length)=decide (L=M):=by
 by_cases e:L=M
 ·subst e
  simp
 ·rw [bX e,Bool.eq_false_iff]
  intro h;rw [o_,pj] at h;obtain ⟨h1,h2⟩:=h;have hl:L.length=M.length:=by simpa using h2
  refine e (gx hl fun j g1 g2=>?_);have:=h1 j (cL.mpr (by omega))
  simpa [dG,g1,g2] using this
theorem MP(hu:X.A.units+64<cLine):b7 X (compareOp .Eq) MM:=by
 intro pins s σ H x y v u Q I rx ry h;obtain ⟨a,b,n,L,M,rfl,rfl,⟨la,ua,MQ,Ea,k1⟩,⟨lb,ub,MR,zZ,k2⟩,q⟩:=h;cases rx;cases ry;obtain ⟨us,r1,t1,_⟩:=I.tuple (.of MQ);obtain ⟨vs,r2,t2,_⟩:=I.tuple (.of MR);obtain ⟨a1,a2,rfl,zU,zV⟩:=vals2 r1;obtain ⟨b1,b2,rfl,zW,zX⟩:=vals2 r2;cases zV;cases zX;have inner:SeqAt.EqAt X.A.in1 s (.ref la) (.ref lb) (decide (L=M)):=by
  by_cases pq:la=lb
  ·subst pq
   rw [Ea] at zZ;cases zZ;have:L=M:=by
    have m1:=k1.1;have m2:=k2.1;refine gx (by omega) fun j g1 g2=>?_
    obtain ⟨p,ep,hp⟩:=k1.2 j (ua[j]'(by omega)) L[j] (by simp) (by simp [g1])
    obtain ⟨p',h_,l8⟩:=k2.2 j (ua[j]'(by omega)) M[j] (by simp) (by simp [g2])
    rw [ep] at h_;cases h_;rw [hp] at l8;simp only [r0,HO.tup.injEq,List.cons.injEq,V.int.injEq,and_true] at l8;exact Prod.ext l8.1 l8.2
   rw [bF this];exact SeqAt.EqAt.same _
  ·obtain ⟨us,r1,t1,_⟩:=I.tuple (.of Ea)
   obtain ⟨vs,r2,t2,_⟩:=I.tuple (.of zZ);have z:=SeqAt.RcAt.tuples (A:=X.A.in1) t1 t2 (by rw [mO];omega) (MN I (by rw [mO,mO];omega) k1 k2 r1 r2)
   have e1:us.toArray.size=L.length:=by rw [bS,←r1.length];exact k1.1
   have e2:vs.toArray.size=M.length:=by rw [bS,←r2.length];exact k2.1
   rw [e1,e2,MO] at z;exact pC pq z
 refine SeqAt.eq_tupleAt (e:=fun j=>if j=0 then dU (.int (n:Int)) (.int (n:Int)) else decide (L=M)) t1 t2 (by omega) (fun j z1 z2=>?_) ⟨.bl (decide (L=M)),H,I,?_,q⟩
 ·have:j<2:=z1
  match j with
  | 0=>exact nB zU zW rfl rfl
  | 1=>exact inner
 ·show RelV _ _
  have e:((List.range 2).all (fun j=>if j=0 then dU (.int (n:Int)) (.int (n:Int)) else decide (L=M)) && true)=decide (L=M):=by simp [pB,dU]
  exact cW Value.bool e.symm▸rfl
def MS(N:Addr):Sp:=fun vs H Q E=>∃(t a:Addr) (n:Nat) (L:ay) (zs:List Int),vs=[.ref t,.ref a]∧cE H t n L∧jX n L∧kO L∧n≤30∧H a=some (.lst (zs.map V.int))∧zs.length<64 ∧
 (¬iI zs n→∀H',ak H H'→E (.ref N) none H') ∧
 ∀o:List Nat,zs=o.map iN→o.Perm (List.range n)→∀(H':Hp) (M:ay),ak H H'→ck n L o M→Q (.bl (decide (M=L))) H'
end My
namespace L2
open PySem PySem.Spec PyProof.Rows
section
variable {X:Cx} {a b:Expr} {rest:List Expr} {pos:Pos} {ta tb:TE}
def MT:V→List V→Hp→VK→Prop:=fun x vs H Q=>∃(l:Addr) (zs:List Int) (j:Nat) (z:Int),x=.ref l∧vs=[.int z]∧H l=some (.lst (zs.map V.int))∧zs[j]?=some z∧(∀m,m<j→zs[m]?≠some z)∧Q .aM (upd H l (.lst ((zs.map V.int).eraseIdx j)))
theorem Eb:vG X "list.remove" MT:=by
 intro pins s σ H x vs v us Q I rx rv h;obtain ⟨l,zs,j,z,rfl,rfl,hH,hj,MU,q⟩:=h;cases rx;obtain ⟨u,rfl,ru⟩:=rv.one;obtain ⟨t,rfl⟩:=ru;obtain ⟨sz,its,n,r,hl,e⟩:=I.lK hH;have Tz:j<zs.length:=(bG.mp hj).1;rw [aK] at hl sz;have at':∀m (hm:m<its.toArray.size),∃t',its.toArray[m]=.int (zs.getD m 0) t':=fun m hm=>by
  have dt:m<zs.length:=by simp at hm;omega
  obtain ⟨w,hw,kA⟩:=r.get (i:=m) (x:=.int (zs.getD m 0)) (by rw [bq,dG,b9 dt];rfl)
  obtain ⟨t',rfl⟩:=kA;exact ⟨t',by simpa using (bG.mp hw).2⟩
 have zj:zs.getD j 0=z:=by rw [dG,hj];rfl
 refine call_meets F.slot_list_remove ⟨_,e,rfl⟩ F.entry_list_remove (F.args_list_remove_2 _ _) (MeetsSeq.list_remove l its.toArray n (.int z t) (fun v=>numOf v == z) (fun y hy=>?_) j (by rw [bS];omega) ?_ (fun m hm MV=>?_) (by rw [bS];omega)) ⟨e,?_⟩
 ·obtain ⟨m,hm,rfl⟩:=Array.getElem_of_mem hy
  obtain ⟨t',e'⟩:=at' m hm;rw [e'];exact MeetsSeq.EqGives.int _ _ _ _
 ·obtain ⟨t',e'⟩:=at' j (by rw [bS];omega)
  rw [e',zj];exact u0 z
 ·obtain ⟨t',e'⟩:=at' m hm
  rw [e'];have dt:m<zs.length:=by simp at hm;omega
  have:=MU m MV;rw [b9 dt] at this;have ne:zs.getD m 0≠z:=fun q=>this (by rw [←q,dG,b9 dt];rfl)
  show (zs.getD m 0 == z)=false;simpa using ne
 ·refine ⟨.aM,_,I.vH (its':=its.eraseIdx j) hH e ?_ (r.eraseIdx j) ?_,rfl,q⟩
  ·show its.toArray.eraseIdxIfInBounds j=(its.eraseIdx j).toArray
   rw [List.eraseIdxIfInBounds_toArray]
  ·have:=yS (zs.map V.int) j
   rw [aK] at this;omega
end
end L2
namespace My
open PySem L2
theorem MW{X:Cx}{K:aD}(hu:X.A.units+64<cLine)(hk:X.K=K:=by rfl):b7 X (compareOp .NotEq) (Dz K):=by subst hk;exact zD hu
theorem z5:∀{zs:List Nat} {j m:Nat},m<zs.idxOf j→zs[m]?≠some j
 | [],_,_,h=>by simp at h
 | z::zs,j,m,h=>by
  by_cases e:z=j
  ·subst e
   simp [vc] at h
  ·rw [List.idxOf_cons,show (z == j)=false by simpa using e] at h
   dsimp only [cond_false] at h;cases m with
   | zero=>simpa using e
   | succ m=>rw [List.getElem?_cons_succ];exact z5 (by omega)
theorem z6{α β:Type}(f:α→β):∀(l:List α) (i:Nat),(l.map f).eraseIdx i=(l.eraseIdx i).map f
 | [],_=>rfl
 | _::_,0=>rfl
 | x::l,i+1=>by show f x::(l.map f).eraseIdx i=f x::(l.eraseIdx i).map f;rw [z6 f l i]
end My
namespace L2
open PySem PySem.Spec PyProof.Rows
section
variable {prog:Program} {w:World} {A:Around} {E:aI} {s:Shared}
end
section
variable {prog:Program} {w:World} {A:Around} {E:aI} {s:Shared}
end
section
variable {X:Cx}
end
section
variable {prog:Program} {w:World} {A:Around} {E:aI} {s:Shared}
end
end L2
namespace My
open PySem L2
end My
namespace L2
open PySem PySem.Spec PyProof.Rows
end L2
namespace My
open PySem L2
end My
namespace L2
open PySem PySem.Spec PyProof.Rows
section
variable {X:Cx}
end
end L2
namespace My
open PySem L2
def p2(g:Nat→Nat→Nat):List Nat→Nat
 | []=>0
 | x::l=>(l.map (g x)).sum+p2 g l
def p3(f:Nat→Nat→Nat→Nat):List Nat→Nat
 | []=>0
 | x::l=>p2 (f x) l+p3 f l
variable {g:Nat→Nat→Nat} {l l':List Nat}
theorem z7(sy:∀x y,g x y=g y x)(p:l.Perm l'):p2 g l=p2 g l':=by
 induction p with
 | nil=>rfl
 | cons x p ih=>simp only [p2,ih];rw [(p.map (g x)).sum_nat]
 | swap x y l=>simp only [p2,cQ,d_];rw [sy x y];omega
 | trans _ _ h1 h2=>exact h1.trans h2
theorem MX{f:Nat→Nat→Nat→Nat}(s1:∀x y z,f x y z=f y x z)(s2:∀x y z,f x y z=f x z y)(p:l.Perm l'):p3 f l=p3 f l':=by
 induction p with
 | nil=>rfl
 | cons x p ih=>simp only [p3,ih];rw [z7 (s2 x) p]
 | swap x y l=>simp only [p3,p2];rw [show l.map (f y x)=l.map (f x y) from gM fun z _=>s1 y x z];omega
 | trans _ _ h1 h2=>exact h1.trans h2
variable {f:Nat→Nat}
theorem qd{g:Nat→Nat}(h:∀x∈l,f x=g x):(l.map f).sum=(l.map g).sum:=cW List.sum (gM h)
theorem wF(h:∀x∈l,f x=0):(l.map f).sum=0:=by
 induction l with
 | nil=>rfl
 | cons x l ih=>rw [cQ,d_,h x cM,ih fun y hy=>h y (bJ _ hy)]
theorem MY{g:Nat→Nat}(h:∀x∈l,f x≤g x):(l.map f).sum≤(l.map g).sum:=by
 induction l with
 | nil=>exact av _
 | cons x l ih=>rw [cQ,d_,cQ,d_];have:=h x cM;have:=ih fun y hy=>h y (bJ _ hy);omega
theorem MZ{g:Nat→Nat}:(l.map fun x=>f x+g x).sum=(l.map f).sum+(l.map g).sum:=by
 induction l with
 | nil=>rfl
 | cons x l ih=>simp only [cQ,d_,ih];omega
variable {b c:Nat}
theorem M0(nd:l.Nodup)(hb:b∈l):(l.map fun y=>if y=b then c else 0).sum=c:=by
 induction l with
 | nil=>cases hb
 | cons x l ih=>
  rw [cQ,d_];obtain ⟨n1,n2⟩:=hJ.mp nd;rcases bE.mp hb with rfl | h
  ·rw [ae rfl,wF fun y hy=>aa (fun e:y=b=>n1 (e▸hy))]
   omega
  ·rw [aa (fun e:x=b=>n1 (e▸h)),ih n2 h]
   omega
variable {g':Nat→Nat→Nat}
theorem Ec(nd:l.Nodup)(h:∀x∈l,∀y∈l,x≠y→g x y=g' x y):p2 g l=p2 g' l:=by
 induction l with
 | nil=>rfl
 | cons x l ih=>obtain ⟨n1,n2⟩:=hJ.mp nd;show (l.map (g x)).sum+p2 g l=(l.map (g' x)).sum+p2 g' l;rw [qd fun y hy=>h x cM y (bJ _ hy) fun e=>n1 (e▸hy),ih n2 fun a ha b hb=>h a (bJ _ ha) b (bJ _ hb)]
theorem z8(h:∀x∈l,∀y∈l,g x y≤g' x y):p2 g l≤p2 g' l:=by
 induction l with
 | nil=>exact av _
 | cons x l ih=>show (l.map (g x)).sum+p2 g l≤(l.map (g' x)).sum+p2 g' l;exact Nat.add_le_add (MY fun y hy=>h x cM y (bJ _ hy)) (ih fun a ha b hb=>h a (bJ _ ha) b (bJ _ hb))
theorem M1{f f':Nat→Nat→Nat→Nat}(h:∀x∈l,∀y∈l,∀z∈l,f x y z≤f' x y z):p3 f l≤p3 f' l:=by
 induction l with
 | nil=>exact av _
 | cons x l ih=>show p2 (f x) l+p3 f l≤p2 (f' x) l+p3 f' l;exact Nat.add_le_add (z8 fun y hy z hz=>h x cM y (bJ _ hy) z (bJ _ hz)) (ih fun a ha b hb c hc=>h a (bJ _ ha) b (bJ _ hb) c (bJ _ hc))
theorem M3:p2 (fun x y=>g x y+g' x y) l=p2 g l+p2 g' l:=by
 induction l with
 | nil=>rfl
 | cons x l ih=>simp only [p2,ih,MZ];omega
theorem Ed(h:∀x∈l,∀y,g x y=0):p2 g l=0:=by
 induction l with
 | nil=>rfl
 | cons x l ih=>show (l.map (g x)).sum+p2 g l=0;rw [wF fun y _=>h x cM y,ih fun a ha=>h a (bJ _ ha)]
variable {a:Nat}
theorem M4(pw:l.Pairwise (· < ·))(ha:a∈l)(hb:b∈l)(ab:a<b):p2 (fun i j=>if i=a∧j=b then c else 0) l=c:=by
 induction l with
 | nil=>cases ha
 | cons x l ih=>
  obtain ⟨n1,n2⟩:=pF.mp pw;have nd:l.Nodup:=n2.imp fun h=>bR h;show (l.map fun j=>if x=a∧j=b then c else 0).sum+p2 _ l=c
  rcases bE.mp ha with rfl | h
  ·have jh:b∈l:=by
    rcases bE.mp hb with rfl | h;·omega
    ·exact h
   rw [show (l.map fun j=>if a=a∧j=b then c else 0).sum=(l.map fun y=>if y=b then c else 0).sum from qd fun y _=>by simp,M0 nd jh,Ed fun i hi j=>aa fun e=>by have:=n1 i hi;omega]
   omega
  ·have xa:=n1 a h
   have jh:b∈l:=by
    rcases bE.mp hb with rfl | h;·omega
    ·exact h
   rw [wF fun y _=>aa fun e=>by omega,ih n2 h jh]
   omega
theorem Ee(pw:l.Pairwise (· < ·)):p2 g l=(l.map fun y=>(l.map fun z=>if y<z then g y z else 0).sum).sum:=by
 induction l with
 | nil=>rfl
 | cons x l ih=>
  obtain ⟨n1,n2⟩:=pF.mp pw;show (l.map (g x)).sum+p2 g l=_;rw [cQ,d_,cQ,d_,aa (d7 x),ih n2];rw [show (l.map fun z=>if x<z then g x z else 0).sum=(l.map (g x)).sum from qd fun z hz=>ae (n1 z hz)]
  rw [show (l.map fun y=>((x::l).map fun z=>if y<z then g y z else 0).sum).sum=(l.map fun y=>(l.map fun z=>if y<z then g y z else 0).sum).sum from qd fun y hy=>by
   rw [cQ,d_,aa (by have:=n1 y hy;omega)]
   omega]
  omega
theorem z9(n:Nat):(List.range n).Pairwise (· < ·):=yl
theorem Ef{n:Nat}{W:Nat→Nat→Nat}:∀{M:ay},M.Nodup→(∀z∈M,0≤z.1∧z.1<z.2∧z.2<(n:Int))→(M.map fun z=>W z.1.toNat z.2.toNat).sum=p2 (fun i j=>if ((i:Int),(j:Int))∈M then W i j else 0) (List.range n)
 | [],_,_=>by rw [Ed fun i _ j=>aa fun h=>nomatch h];rfl
 | z::M,nd,lt=>by
  obtain ⟨n1,n2⟩:=hJ.mp nd;obtain ⟨z0,z1,z2⟩:=lt z cM;rw [cQ,d_,Ef n2 fun y hy=>lt y (bJ _ hy)];have d:=M4 (c:=W z.1.toNat z.2.toNat) (z9 n) (a:=z.1.toNat) (b:=z.2.toNat) (cL.mpr (by omega)) (cL.mpr (by omega)) (by omega)
  rw [←d,←M3];refine Ec rX fun i _ j _ _=>?_;by_cases e:i=z.1.toNat∧j=z.2.toNat
  ·have ez:((i:Int),(j:Int))=z:=by obtain ⟨e1,e2⟩:=e;subst e1;subst e2;rw [Int.toNat_of_nonneg z0,Int.toNat_of_nonneg (by omega)]
   obtain ⟨e1,e2⟩:=e;have hm:((i:Int),(j:Int))∈z::M:=ez.symm▸cM;have hn:¬((i:Int),(j:Int))∈M:=fun h=>n1 (ez▸h);rw [ae ⟨e1,e2⟩,ae hm,aa hn,←e1,←e2,rW]
  ·rw [aa e]
   have:((i:Int),(j:Int))≠z:=fun h=>e (by subst h;exact ⟨(dH i).symm,(dH j).symm⟩)
   by_cases h:((i:Int),(j:Int))∈M
   ·rw [ae h,ae (bJ _ h)]
    omega
   ·rw [aa h,aa fun h'=>(bE.mp h').elim this h]
def rL(M:ay)(a b:Nat):Bool:=decide (((a:Int),(b:Int))∈M) || decide (((b:Int),(a:Int))∈M)
variable {M:ay}
theorem g8:rL M a b=true↔((a:Int),(b:Int))∈M∨((b:Int),(a:Int))∈M:=by unfold rL;rw [Bool.or_eq_true,lp,lp]
theorem kP(M:ay)(a b:Nat):rL M a b=rL M b a:=Bool.or_comm ..
def gp(r:Nat→Nat→Bool)(x y:Nat):Nat:=if r x y then 1 else 0
def g9(r:Nat→Nat→Bool)(x y z:Nat):Nat:=if r x y && r x z && r y z then 1 else 0
def wG(n:Nat)(M:ay):Nat:=p3 (g9 (rL M)) (List.range n)
def mf(n:Nat)(M:ay):Nat:=4*M.length+2*wG n M+n
variable {n:Nat}
theorem qe(nd:M.Nodup)(lt:∀z∈M,0≤z.1∧z.1<z.2∧z.2<(n:Int)):M.length=p2 (gp (rL M)) (List.range n):=by
 have:=Ef (W:=fun _ _=>1) nd lt;rw [show (M.map fun z=>(fun _ _=>1:Nat→Nat→Nat) z.1.toNat z.2.toNat).sum=M.length from by
  clear this nd lt
  induction M with
  | nil=>rfl
  | cons z M ih=>rw [cQ,d_,ih,d9];exact Nat.add_comm 1 _] at this
 rw [this,Ee (z9 n),Ee (z9 n)];refine qd fun i _=>qd fun j _=>?_;by_cases ij:i<j
 ·rw [ae ij,ae ij]
  unfold gp;by_cases h:((i:Int),(j:Int))∈M;·rw [ae h,ae (g8.mpr (.inl h))]
  ·rw [aa h,aa fun h'=>by
    rcases g8.mp h' with h' | h';·exact h h'
    ·have:=lt _ h'
     omega]
 ·rw [aa ij,aa ij]
theorem M5(M:ay)(x y z:Nat):g9 (rL M) x y z=g9 (rL M) y x z:=by unfold g9;rw [kP M y x];cases rL M x y <;> cases rL M x z <;> cases rL M y z <;> rfl
theorem M6(M:ay)(x y z:Nat):g9 (rL M) x y z=g9 (rL M) x z y:=by unfold g9;rw [kP M z y];cases rL M x y <;> cases rL M x z <;> cases rL M y z <;> rfl
theorem Eg(a:Nat→Bool):∀l:List Nat,2*p2 (fun y z=>if a y && a z then 1 else 0) l+(l.map fun y=>if a y then 1 else 0).sum=(l.map fun y=>if a y then 1 else 0).sum*(l.map fun y=>if a y then 1 else 0).sum
 | []=>rfl
 | x::l=>by
  have ih:=Eg a l;simp only [p2,cQ,d_];by_cases h:a x
  ·simp only [h,Bool.true_and,if_true]
   simp only [Nat.add_mul,Nat.mul_add];omega
  ·simp only [h,Bool.false_and,Bool.false_eq_true,if_false]
   rw [wF fun _ _=>rfl,dy,dy];exact ih
def Good(r:Nat→Nat→Bool)(m:Nat→Nat):List Nat→Prop
 | []=>True
 | x::l=>m x=(l.map fun y=>if r x y then 1 else 0).sum∧(∀y∈l,∀z∈l,y≠z→r x y=true→r x z=true→r y z=true)∧Good r m l
theorem Eh{r:Nat→Nat→Bool}{m:Nat→Nat}:∀{l:List Nat},l.Nodup→Good r m l→(l.map fun x=>m x*m x+3*m x+1).sum=4*p2 (gp r) l+2*p3 (g9 r) l+l.length
 | [],_,_=>rfl
 | x::l,nd,⟨h1,h2,h3⟩=>by
  obtain ⟨n1,n2⟩:=hJ.mp nd;have ih:=Eh n2 h3;have e:p2 (g9 r x) l=p2 (fun y z=>if r x y && r x z then 1 else 0) l:=Ec n2 fun y hy z hz yz=>by
   unfold g9;by_cases a:r x y <;> by_cases b:r x z;·simp [a,b,h2 y hy z hz yz a b]
   ·simp [a,b]
   ·simp [a,b]
   ·simp [a,b]
  have e2:(l.map (gp r x)).sum=m x:=h1.symm;have pk:=Eg (r x) l;rw [←h1] at pk;show m x*m x+3*m x+1+(l.map fun x=>m x*m x+3*m x+1).sum=4*((l.map (gp r x)).sum+p2 (gp r) l)+2*(p2 (g9 r x) l+p3 (g9 r) l)+(l.length+1);rw [ih,e2,e];omega
variable {L:ay} {o:List Nat}
theorem M7(f:ck n L o M)(h:aL n M a b){k:Nat}(hk:o.idxOf a≤k∨o.idxOf b≤k):Wk (aL n L) (eQ n o k) a b:=by
 have go:∀{a b:Nat},((a:Int),(b:Int))∈M→(o.idxOf a≤k∨o.idxOf b≤k)→Wk (aL n L) (eQ n o k) a b:=fun{a b} hm hk=>by
  obtain ⟨p,q,hp,hq,pq,w,e⟩:=(f.2 _).mp hm;have e:cZ a b=cZ p q:=by rw [←e];have:=f.lt _ hm;unfold cZ;rw [aa (by omega),ae (by omega)]
  rcases zY e with ⟨rfl,rfl⟩ | ⟨rfl,rfl⟩;·exact w.mono fun x hx=>⟨hx.1,by have:=hx.2;omega⟩
  ·exact (w.symm jg).mono fun x hx=>⟨hx.1,by have:=hx.2;omega⟩
 rcases h.2.2 with h | h;·exact go h hk
 ·exact (go h hk.symm).symm jg
theorem iL(f:ck n L o M)(ha:a<n)(hb:b<n)(ab:o.idxOf a<o.idxOf b):rL M a b=true↔Wk (aL n L) (eQ n o (o.idxOf a)) a b:=by
 constructor
 ·intro h
  exact M7 f ⟨ha,hb,g8.mp h⟩ (.inl (av _))
 ·intro w
  have hm:=(f.2 _).mpr ⟨a,b,ha,hb,ab,w,rfl⟩;rw [g8];unfold cZ at hm;by_cases h:(b:Int)<(a:Int)
  ·rw [ae h,aa (by omega)] at hm
   exact .inr hm
  ·by_cases h':(b:Int)>(a:Int)
   ·rw [aa h,ae h'] at hm
    exact .inl hm
   ·have e:a=b:=by omega
    subst e;omega
theorem M8(l:List Nat)(c:Nat→Bool):(l.map fun k=>if c k then 1 else 0).sum=(l.filter c).length:=by
 induction l with
 | nil=>rfl
 | cons x l ih=>
  rw [iV,cQ,d_];by_cases h:c x;·rw [ae h,ae h,d9,ih];omega
  ·rw [aa h,aa h,ih];omega
theorem z_{n:Nat}{L M:ay}{o:List Nat}(ho:o.Perm (List.range n))(f:ck n L o M){g:Nat→List Nat}(hg:∀p,p<n→jd n o p (g p)∧me n L o p (g p)):∀(l pre:List Nat),o=pre++l→Good (rL M) (fun x=>(g x).length) l
 | [],_,_=>trivial
 | x::l,pre,e=>by
  have nd:=nU ho;have Ei:=nd;rw [e,kg] at Ei;obtain ⟨np,nx,dj⟩:=Ei;obtain ⟨M9,nl⟩:=hJ.mp nx;have hx:x<n:=(gh ho).mp (by rw [e];simp)
  have ix:o.idxOf x=pre.length:=by rw [e,lq,aa fun h=>dj x h x cM rfl,vc,dy]
  have il:∀y,y∈l↔y<n∧o.idxOf x<o.idxOf y:=fun y=>by
   constructor
   ·intro h
    refine ⟨(gh ho).mp (by rw [e];simp [h]),?_⟩
    have yx:y≠x:=fun q=>M9 (q▸h);rw [ix,e,lq,aa fun h'=>dj y h' y (bJ _ h) rfl,List.idxOf_cons,show (x == y)=false from by simpa using yx.symm]
    simp only [cond_false];omega
   ·rintro ⟨h,h'⟩
    have hm:=(gh ho).mpr h;rw [e,dw,bE] at hm;rcases hm with hm | rfl | hm
    ·rw [ix,e,lq,ae hm] at h'
     have:=iU hm;omega
    ·omega
    ·exact hm
  refine ⟨?_,?_,z_ ho f hg l (pre++[x]) (by rw [e];simp)⟩
  ·rw [M8]
   obtain ⟨gk,gw⟩:=hg x hx;refine ((List.perm_ext_iff_of_nodup (gk.up.imp fun h=>bR h) (nl.filter _)).mpr fun q=>?_).length_eq;rw [gw q,gJ,il q];constructor
   ·rintro ⟨h1,h2,h3⟩
    exact ⟨⟨h1,h2⟩,(iL f hx h1 h2).mpr h3⟩
   ·rintro ⟨⟨h1,h2⟩,h3⟩
    exact ⟨h1,h2,(iL f hx h1 h2).mp h3⟩
  ·intro y hy z hz yz ry rz
   obtain ⟨y1,y2⟩:=(il y).mp hy;obtain ⟨z1,z2⟩:=(il z).mp hz;have wy:=(iL f hx y1 y2).mp ry;have wz:=(iL f hx z1 z2).mp rz;have ne:=je ho y1 z1 yz;have both:∀k,o.idxOf x<k→Wk (aL n L) (eQ n o k) y z:=fun k hk=>by
    have m:∀t,eQ n o (o.idxOf x) t→eQ n o k t:=fun t ht=>⟨ht.1,by have:=ht.2;omega⟩
    exact ((wy.symm jg).mono m).trans ⟨hx,hk⟩ (wz.mono m)
   by_cases h:o.idxOf y<o.idxOf z;·exact (iL f y1 z1 h).mpr (both _ y2)
   ·rw [kP]
    exact (iL f z1 y1 (by omega)).mpr ((both _ z2).symm jg)
theorem M_(ho:o.Perm (List.range n))(f:ck n L o M){g:Nat→List Nat}(hg:∀p,p<n→jd n o p (g p)∧me n L o p (g p)) :
  ((List.range n).map fun x=>(g x).length*(g x).length+3*(g x).length+1).sum=mf n M:=by
 have nd:M.Nodup:=f.1.imp fun h e=>by subst e;unfold lexLt at h;omega
 have gs:=Eh (nU ho) (z_ ho f hg o [] rfl);rw [←(ho.map fun x=>(g x).length*(g x).length+3*(g x).length+1).sum_nat,gs];unfold mf wG;rw [qe nd f.lt,z7 (fun x y=>by unfold gp;rw [kP]) ho,MX (M5 M) (M6 M) ho,ho.length_eq,dR]
theorem Na(ho:o.Perm (List.range n))(f:ck n L o M)(nl:L.Nodup)(lt:∀z∈L,0≤z.1∧z.1<z.2∧z.2<(n:Int)):mf n L≤mf n M:=by
 have nd:M.Nodup:=f.1.imp fun h e=>by subst e;unfold lexLt at h;omega
 have sub:∀a b:Nat,rL L a b=true→rL M a b=true:=by
  have go:∀a b:Nat,((a:Int),(b:Int))∈L→rL M a b=true:=fun a b h=>by
   have:=lt _ h;have ha:a<n:=by omega
   have hb:b<n:=by omega
   have ne:=je ho ha hb (by omega)
   by_cases ab:o.idxOf a<o.idxOf b;·exact (iL f ha hb ab).mpr (.one ⟨ha,hb,.inl h⟩)
   ·rw [kP]
    exact (iL f hb ha (by omega)).mpr (.one ⟨hb,ha,.inr h⟩)
  intro a b h;rcases g8.mp h with h | h;·exact go a b h
  ·rw [kP]
   exact go b a h
 have h1:p2 (gp (rL L)) (List.range n)≤p2 (gp (rL M)) (List.range n):=z8 fun x _ y _=>by
  unfold gp;by_cases h:rL L x y
  ·rw [ae h,ae (sub x y h)]
   exact av _
  ·rw [aa h]
   exact bD _
 have h2:wG n L≤wG n M:=M1 fun x _ y _ z _=>by
  unfold g9;by_cases h:(rL L x y && rL L x z && rL L y z)=true
  ·rw [ae h]
   rw [o_,o_] at h;rw [sub x y h.1.1,sub x z h.1.2,sub y z h.2];exact av _
  ·rw [aa h]
   exact bD _
 unfold mf;rw [qe nl lt,qe nd f.lt];omega
def Nb(N:Addr):Sp:=fun vs H Q E=>∃(t a:Addr) (n:Nat) (L:ay) (zs:List Int),vs=[.ref t,.ref a]∧cE H t n L∧jX n L∧kO L∧n≤30∧H a=some (.lst (zs.map V.int))∧zs.length<64 ∧
 (¬iI zs n→∀H',ak H H'→E (.ref N) none H') ∧
 ∀o:List Nat,zs=o.map iN→o.Perm (List.range n)→∀(H':Hp),ak H H'→∀d:Nat,(∀M,ck n L o M→d=mf n M)→Q (.int (d:Int)) H'
def Nc:Sp:=fun vs H Q _=>∃(t:Addr) (n:Nat) (L:ay),vs=[.ref t]∧cE H t n L∧jX n L∧n≤60∧L.length≤500 ∧
 ∀(H':Hp) (D:Addr) (rs:Nat→Addr) (g:Nat→List Nat),ak H H'→H D=none→(∀i,i<n→H (rs i)=none)→md H' D n rs g→eO n L g→(∀i,(g i).length≤2*L.length)→((∀p∈L,p.1<p.2)→L.Nodup→∀i,(g i).Nodup)→Q (.ref D) H'
end My
namespace L2
open PySem
section
variable {prog:Program} {w:World} {A:Around} {E:aI} {s:Shared}
end
end L2
namespace My
open PySem L2
variable {L:ay}
theorem Nd(nd:L.Nodup){k:Nat}(hk:k<L.length)(h:L[k]∈L.take k):False:=by
 obtain ⟨i,hi,e⟩:=List.mem_take_iff_getElem.mp h;have:=(List.nodup_iff_pairwise_ne.mp nd);have Nf:i<k:=by omega
 exact pD.mp this i k (by omega) hk Nf e
variable {g:Nat→List Nat} {i j:Nat}
theorem Ej(h:∀a,(g a).Nodup)(hj:j∉g i)(a:Nat):(gm g i j a).Nodup:=by
 unfold gm cY;by_cases e:a=i
 ·subst e
  simp only [if_true];rw [kg];refine ⟨h a,by simp,fun x hx y hy e=>?_⟩
  rw [dq] at hy;subst hy;subst e;exact hj hx
 ·simp only [e,if_false]
  exact h a
theorem Ng{n:Nat}(h:∀a,(g a).Nodup)(nb:eO n L g)(hi:i<n)(hj:j<n)(ij:i≠j)(h1:((i:Int),(j:Int))∉L)(h2:((j:Int),(i:Int))∉L)(a:Nat):(gm (gm g i j) j i a).Nodup:=by
 refine Ej (Ej h fun hm=>?_) (fun hm=>?_) a
 ·rcases (nb i j hi).mp hm with h | h
  ·exact h1 h
  ·exact h2 h
 ·have e:gm g i j j=g j:=by unfold gm cY;simp only [Ne.symm ij,if_false]
  rw [e] at hm;rcases (nb j i hj).mp hm with h | h;·exact h2 h
  ·exact h1 h
end My
namespace L2
open PySem PySem.Spec PyProof.Rows My
theorem Ek{wi:TI}{ρ:St→St}{tt:TT}{te:TE}{σ:St}{H:Hp}{Q:VK}{xs:List V}(c:V→Bool)(fV:∀R:It→Hp→Prop,(∀J H1,ak H H1→jQ J xs H1→R J H1)→wi σ H R)(hn:xs.length<sizeLine)
  (test:∀x∈xs,∀(Hc:Hp) (R:Bool→Hp→Prop),ak H Hc→R (c x) Hc→tt (some x::ρ σ) Hc R)
  (elem:∀(x:V) (Hc:Hp) (R:VK),R x Hc→te (some x::ρ σ) Hc R)
  (fin:∀D Hc,H D=none→ak H Hc→Hc D=some (.lst (xs.filter c))→Q (.ref D) Hc):fw wi ρ tt te σ H Q:=by
 refine fV _ fun J H1 s1 js=>?_;intro D nD;refine ⟨fun i m ys Hc=>m=xs.length-i∧i≤xs.length∧Hc D=some (.lst ys)∧ak H1 Hc∧ys.length≤i∧ys=(xs.take i).filter c,⟨_,rfl,bD _,aw,eZ (ak.refl H1) nD,av _,rfl⟩,?_⟩;rintro i m ys Hc ⟨rfl,hi,eD,sH,ly,hP⟩;refine ⟨eD,?_⟩;by_cases aZ:i<xs.length
 ·refine .inr ⟨js.go i Hc sH aZ,fun x H' hy=>?_⟩
  obtain ⟨rfl,hx⟩:=js.en i Hc x H' sH hy;have ex:=hx aZ;have mx:x∈xs:=rN ex;have tk:xs.take (i+1)=xs.take i++[x]:=by rw [k_,ex];rfl
  refine test x mx _ _ (s1.trans sH) ?_;by_cases hb:c x=true
  ·rw [ae hb]
   refine elem x _ _ ⟨eD,by omega,xs.length-(i+1),by omega,rfl,aZ,aw,eZ sH nD,by simp;omega,?_⟩
   rw [tk,lh,←hP,iV,ae hb];rfl
  ·rw [aa hb]
   refine ⟨xs.length-(i+1),by omega,rfl,aZ,eD,sH,by omega,?_⟩
   rw [tk,lh,←hP,iV,aa hb,List.filter_nil,j8]
 ·have e:i=xs.length:=by omega
  subst e;rw [iS] at hP;subst hP;exact .inl ⟨js.stop _ Hc sH (av _),fin D Hc (none_of s1 nD) (s1.trans sH) eD⟩
end L2
namespace My
open PySem L2
section
variable {P a d:Addr} {H Hc:Hp} {n m:Nat} {L:ay}
end
section
variable {n:Nat} {E:Nat→Nat→Prop} {pos rk:Nat→Nat}
def kS(n:Nat)(E:Nat→Nat→Prop)(pos:Nat→Nat):Prop:=∀a b c,a<n→b<n→c<n→pos a<pos b→pos a<pos c→b≠c→E a b→E a c→E b c
structure Walk (n:Nat) (E:Nat→Nat→Prop) (p:Nat→Nat) (k:Nat):Prop where
 lt:∀i,i≤k→p i<n
 ne:∀i j,i<j→j≤k→p i≠p j
 ed:∀i j,i<j→j≤k→(E (p i) (p j)↔j=i+1)
theorem Walk.back{p:Nat→Nat}{k:Nat}(sy:∀a b,E a b→E b a)(h:Walk n E p k):Walk n E (fun i=>p (k-i)) k where
 lt:=fun i hi=>h.lt _ (by omega)
 ne:=fun i j ij jk=>(h.ne (k-j) (k-i) (by omega) (by omega)).symm
 ed:=fun i j ij jk=>by
  constructor
  ·intro e
   have:=(h.ed (k-j) (k-i) (by omega) (by omega)).mp (sy _ _ e)
   omega
  ·intro e
   exact sy _ _ ((h.ed (k-j) (k-i) (by omega) (by omega)).mpr (by omega))
theorem Nh(cl:kS n E rk)(inj:∀a b,a<n→b<n→rk a=rk b→a=b)(sy:∀a b,E a b→E b a){c:Nat→Nat}{m:Nat}(m4:4≤m)(lt:∀i,i<m→c i<n)(ne:∀i j,i<j→j<m→c i≠c j)
  (ed:∀i j,i<j→j<m→(E (c i) (c j)↔j=i+1∨(i=0∧j=m-1))):False:=by
 have least:∀k,k<m→∃i,i≤k∧∀j,j≤k→rk (c i)≤rk (c j):=fun k=>by
  induction k with
  | zero=>exact fun _=>⟨0,av _,fun j hj=>by rw [show j=0 by omega];exact av _⟩
  | succ k ih=>
   intro hk;obtain ⟨i,hi,h⟩:=ih (by omega)
   by_cases q:rk (c i)≤rk (c (k+1))
   ·refine ⟨i,by omega,fun j hj=>?_⟩
    by_cases e:j=k+1;·rw [e];exact q
    ·exact h j (by omega)
   ·refine ⟨k+1,av _,fun j hj=>?_⟩
    by_cases e:j=k+1;·rw [e];exact av _
    ·have:=h j (by omega)
     omega
 obtain ⟨i,hi,h⟩:=least (m-1) (by omega)
 have less:∀j,j<m→j≠i→rk (c i)<rk (c j):=fun j hj ji=>by
  have h1:=h j (by omega)
  by_cases q:rk (c i)=rk (c j)
  ·have e:=inj _ _ (lt i (by omega)) (lt j hj) q
   rcases Nat.lt_or_gt_of_ne ji with z | z;·exact absurd e.symm (ne j i z (by omega))
   ·exact absurd e (ne i j z hj)
  ·omega
 have use:∀a b,a<b→b<m→a≠i→b≠i→E (c i) (c a)→E (c i) (c b)→b=a+1∨(a=0∧b=m-1):=fun a b ab bm ai bi e1 e2=>(ed a b ab bm).mp (cl (c i) (c a) (c b) (lt _ (by omega)) (lt _ (by omega)) (lt _ bm) (less a (by omega) ai) (less b bm bi) (ne a b ab bm) e1 e2)
 by_cases z:i=0
 ·subst z
  have:=use 1 (m-1) (by omega) (by omega) (by omega) (by omega) ((ed 0 1 (by omega) (by omega)).mpr (.inl rfl)) ((ed 0 (m-1) (by omega) (by omega)).mpr (.inr ⟨rfl,rfl⟩))
  omega
 ·by_cases z':i=m-1
  ·have e0:E (c i) (c 0):=sy _ _ ((ed 0 i (by omega) (by omega)).mpr (.inr ⟨rfl,z'⟩))
   have e1:E (c i) (c (m-2)):=sy _ _ ((ed (m-2) i (by omega) (by omega)).mpr (.inl (by omega)))
   have:=use 0 (m-2) (by omega) (by omega) (by omega) (by omega) e0 e1
   omega
  ·have e0:E (c i) (c (i-1)):=sy _ _ ((ed (i-1) i (by omega) (by omega)).mpr (.inl (by omega)))
   have e1:E (c i) (c (i+1)):=(ed i (i+1) (by omega) (by omega)).mpr (.inl rfl)
   have:=use (i-1) (i+1) (by omega) (by omega) (by omega) (by omega) e0 e1
   omega
def Aa(n:Nat)(E:Nat→Nat→Prop)(pos:Nat→Nat):Prop:=∀a b c,a<n→b<n→c<n→pos a<pos b→pos b<pos c→E a c→¬E b c→∃d,d<n∧pos b<pos d∧E b d∧¬E a d
theorem El{q:Nat→Prop}(h0:q 0):∀k,∃j,j≤k∧q j∧∀i,j<i→i≤k→¬q i
 | 0=>⟨0,av _,h0,fun i h h'=>by omega⟩
 | k+1=>by
  obtain ⟨j,hj,hq,hn⟩:=El h0 k;by_cases z:q (k+1);·exact ⟨k+1,av _,z,fun i h h'=>by omega⟩
  ·refine ⟨j,by omega,hq,fun i h h'=>?_⟩
   by_cases e:i=k+1;·rw [e];exact z
   ·exact hn i h (by omega)
theorem Ab(cl:kS n E rk)(inj:∀a b,a<n→b<n→rk a=rk b→a=b)(qf:∀a b,a<n→b<n→pos a=pos b→a=b)(sy:∀a b,E a b→E b a)(ir:∀a,¬E a a)(mo:Aa n E pos)(pn:∀a,a<n→pos a<n) :
  ∀(d:Nat) (p:Nat→Nat) (k:Nat),n-pos (p 0)≤d→2≤k→Walk n E p k→pos (p 0)<pos (p k)→(∀i,0<i→i<k→pos (p i)<pos (p 0))→False
 | 0,p,k,hd,k2,W,h0,hi=>by
  have:=pn _ (W.lt 0 (by omega))
  omega
 | d+1,p,k,hd,k2,W,h0,hi=>by
  obtain ⟨x,xn,xp,ex,nx⟩:=mo (p (k-1)) (p 0) (p k) (W.lt _ (by omega)) (W.lt _ (by omega)) (W.lt _ (av _)) (hi _ (by omega) (by omega)) h0 ((W.ed _ _ (by omega) (av _)).mpr (by omega)) (fun e=>by have:=(W.ed 0 k (by omega) (av _)).mp e;omega)
  have Em:∀i,i<k→pos (p i)≤pos (p 0):=fun i ik=>by
   by_cases z:i=0;·rw [z];exact av _
   ·exact mF (hi i (by omega) ik)
  have Ac:∀i,i≤k→x≠p i:=fun i ik e=>by
   by_cases z:i=k
   ·subst z
    rw [e] at ex;have:=(W.ed 0 i (by omega) (av _)).mp ex
    omega
   ·have:=Em i (by omega)
    rw [e] at xp;omega
  obtain ⟨j,hj,ej,nj⟩:=El (q:=fun j=>E x (p j)) (sy _ _ ex) (k-1);have jk:j≤k-2:=by
   by_cases z:j=k-1
   ·rw [z] at ej
    exact absurd (sy _ _ ej) nx
   ·omega
  by_cases xk:E x (p k)
  ·
   refine Nh cl inj sy (c:=fun i=>if i≤k-j then p (j+i) else x) (m:=k-j+2) (by omega) (fun i im=>?_) (fun i l il lm=>?_) (fun i l il lm=>?_)
   ·show (if i≤k-j then p (j+i) else x)<n
    split
    ·exact W.lt _ (by omega)
    ·exact xn
   ·show (if i≤k-j then p (j+i) else x)≠(if l≤k-j then p (j+l) else x)
    rw [ae (by omega)]
    split
    ·exact W.ne _ _ (by omega) (by omega)
    ·exact (Ac _ (by omega)).symm
   ·show E (if i≤k-j then p (j+i) else x) (if l≤k-j then p (j+l) else x)↔_
    rw [ae (show i≤k-j by omega)]
    by_cases z:l≤k-j
    ·rw [ae z,W.ed _ _ (by omega) (by omega)]
     omega
    ·rw [aa z]
     constructor
     ·intro e
      by_cases i0:i=0;·exact .inr ⟨i0,by omega⟩
      ·by_cases i1:i=k-j
       ·exact .inl (by omega)
       ·exact absurd (sy _ _ e) (nj (j+i) (by omega) (by omega))
     ·rintro (e | ⟨e,_⟩)
      ·rw [show j+i=k by omega]
       exact sy _ _ xk
      ·rw [e]
       exact sy _ _ ej
  ·
   have W':Walk n E (fun i=>if i=0 then x else p (j+i-1)) (k-j+1):=by
    refine ⟨fun i hi=>?_,fun i l il lk=>?_,fun i l il lk=>?_⟩
    ·show (if i=0 then x else p (j+i-1))<n
     split
     ·exact xn
     ·exact W.lt _ (by omega)
    ·show (if i=0 then x else p (j+i-1))≠(if l=0 then x else p (j+l-1))
     rw [aa (show ¬l=0 by omega)]
     split
     ·exact Ac _ (by omega)
     ·exact W.ne _ _ (by omega) (by omega)
    ·show E (if i=0 then x else p (j+i-1)) (if l=0 then x else p (j+l-1))↔_
     rw [aa (show ¬l=0 by omega)]
     by_cases z:i=0
     ·rw [ae z]
      constructor
      ·intro e
       by_cases l1:l=1;·omega
       ·by_cases vT:j+l-1=k
        ·rw [vT] at e
         exact absurd e xk
        ·exact absurd e (nj _ (by omega) (by omega))
      ·intro e
       rw [show j+l-1=j by omega]
       exact ej
     ·rw [aa z,W.ed _ _ (by omega) (by omega)]
      omega
   have e0:(fun i=>if i=0 then x else p (j+i-1)) 0=x:=rfl
   have ek:(fun i=>if i=0 then x else p (j+i-1)) (k-j+1)=p k:=by
    show (if k-j+1=0 then x else p (j+(k-j+1)-1))=p k
    rw [aa (by omega)]
    congr 1
    omega
   have inner:∀i,0<i→i<k-j+1→pos ((fun i=>if i=0 then x else p (j+i-1)) i)≤pos (p 0):=fun i i0 ik=>by
    show pos (if i=0 then x else p (j+i-1))≤_
    rw [aa (by omega)]
    exact Em _ (by omega)
   have px:=pn x xn;have pk:=pn _ (W.lt k (av _));generalize (fun i=>if i=0 then x else p (j+i-1))=q at W' e0 ek inner
   by_cases lt:pos x<pos (p k)
   ·refine Ab cl inj qf sy ir mo pn d q (k-j+1) (by rw [e0];omega) (by omega) W' (by rw [e0,ek];exact lt) (fun i i0 ik=>?_)
    have:=inner i i0 ik;rw [e0];omega
   ·have ne:pos x≠pos (p k):=fun e=>Ac k (av _) (qf _ _ xn (W.lt _ (av _)) e)
    have b0:(fun i=>q (k-j+1-i)) 0=p k:=ek;have bk:(fun i=>q (k-j+1-i)) (k-j+1)=x:=by show q (k-j+1-(k-j+1))=x;rw [pA];exact e0
    have Wb:=W'.back sy;have En:∀i,0<i→i<k-j+1→pos ((fun i=>q (k-j+1-i)) i)≤pos (p 0):=fun i i0 ik=>inner (k-j+1-i) (by omega) (by omega)
    generalize (fun i=>q (k-j+1-i))=q' at Wb b0 bk En;refine Ab cl inj qf sy ir mo pn d q' (k-j+1) (by rw [b0];omega) (by omega) Wb (by rw [b0,bk];omega) (fun i i0 ik=>?_)
    have:=En i i0 ik;rw [b0];omega
theorem Ni(cl:kS n E rk)(inj:∀a b,a<n→b<n→rk a=rk b→a=b)(qf:∀a b,a<n→b<n→pos a=pos b→a=b)(sy:∀a b,E a b→E b a)(ir:∀a,¬E a a)(mo:Aa n E pos)(pn:∀a,a<n→pos a<n):kS n E pos:=by
 have go:∀a b c,a<n→b<n→c<n→pos a<pos b→pos b<pos c→E a b→E a c→E b c:=fun a b c an bn cn ab bc e1 e2=>by
  refine pH fun no=>?_;refine Ab cl inj qf sy ir mo pn _ (fun i=>if i=0 then b else if i=1 then a else c) 2 (av _) (av _) ⟨fun i hi=>?_,fun i j ij j2=>?_,fun i j ij j2=>?_⟩ bc (fun i i0 i2=>?_)
  ·show (if i=0 then b else if i=1 then a else c)<n
   split
   ·exact bn
   ·split
    ·exact an
    ·exact cn
  ·show (if i=0 then b else if i=1 then a else c)≠(if j=0 then b else if j=1 then a else c)
   rw [aa (show ¬j=0 by omega)]
   by_cases z:i=0
   ·rw [ae z]
    split
    ·exact fun e=>by rw [e] at ab;omega
    ·exact fun e=>by rw [e] at bc;omega
   ·rw [aa z,ae (show i=1 by omega),aa (show ¬j=1 by omega)]
    exact fun e=>by rw [e] at ab;omega
  ·show E (if i=0 then b else if i=1 then a else c) (if j=0 then b else if j=1 then a else c)↔_
   rw [aa (show ¬j=0 by omega)]
   by_cases z:i=0
   ·rw [ae z]
    by_cases y:j=1
    ·rw [ae y]
     exact ⟨fun _=>by omega,fun _=>sy _ _ e1⟩
    ·rw [aa y]
     exact ⟨fun e=>absurd e no,fun e=>by omega⟩
   ·rw [aa z,ae (show i=1 by omega),aa (show ¬j=1 by omega)]
    exact ⟨fun _=>by omega,fun _=>e2⟩
  ·show pos (if i=0 then b else if i=1 then a else c)<pos b
   rw [aa (by omega),ae (by omega)]
   exact ab
 intro a b c an bn cn ab ac bc e1 e2;by_cases h:pos b<pos c;·exact go a b c an bn cn ab h e1 e2
 ·have:pos b≠pos c:=fun e=>bc (qf _ _ bn cn e)
  exact sy _ _ (go a c b an cn bn ac (by omega) e2 e1)
end
open PySem PySem.W PyProof.Rows Tm
section
variable {prog:Program} {w:World} {A:Around} {E:aI} {s:Shared}
end
open PySem PySem.W PyProof.Rows
section
variable {prog:Program} {w:World} {A:Around} {E:aI} {s:Shared}
end
end My
namespace L2
open PySem PySem.W PyProof.Rows My
end L2
namespace My
open PySem PySem.W PyProof.Rows
section
variable {prog:Program} {w:World} {A:Around} {E:aI} {s:Shared} {R:Result→Shared→Prop}
end
open PySem PySem.W PyProof.Rows L2
section
variable {prog:Program} {w:World} {A:Around} {s:Shared}
end
end My
namespace L2
open PySem PySem.W PyProof.Rows My
end L2
namespace My
open PySem L2
end My
namespace L2
open PySem PySem.Spec PyProof.Rows My
end L2
namespace My
open PySem L2
end My
namespace L2
open PySem
section
variable {prog:Program} {w:World} {A:Around} {E:aI} {s:Shared}
end
open PySem PySem.Spec PyProof.Rows My
end L2
namespace My
open PySem L2
theorem wH{n:Nat}{L:ay}{o:List Nat}(ho:o.Perm (List.range n))(cl:kS n (aL n L) (fun a=>o.idxOf a)):∀(k a b:Nat),a<n→b<n→k≤o.idxOf a→k≤o.idxOf b→a≠b→Wk (aL n L) (eQ n o k) a b→aL n L a b
 | 0,a,b,_,_,_,_,_,w=>by
  cases w with
  | one ab=>exact ab
  | more _ t _=>exact absurd t.2 (mL _)
 | k+1,a,b,an,bn,ka,kb,ne,w=>by
  have lo:=qc ho;have ia:o.idxOf a<o.length:=iU ((gh ho).mpr an);have hk:k<o.length:=by omega
  have pn:o[k]<n:=(gh ho).mp (cR hk);have ip:o.idxOf o[k]=k:=wB (nU ho) hk;generalize o[k]=p at pn ip;have th:∀x,eQ n o (k+1) x↔eQ n o k x∨x=p:=fun x=>by
   unfold eQ;constructor
   ·rintro ⟨h1,h2⟩
    by_cases e:o.idxOf x=k
    ·right
     refine pH fun z=>?_;exact absurd (e.trans ip.symm) (je ho h1 pn z)
    ·exact .inl ⟨h1,by omega⟩
   ·rintro (⟨h1,h2⟩ | rfl)
    ·exact ⟨h1,by omega⟩
    ·exact ⟨pn,by omega⟩
  have ap:a≠p:=fun e=>by subst e;omega
  have bp:b≠p:=fun e=>by subst e;omega
  rcases (Wk.step th).mp w with h | ⟨h1,h2⟩;·exact wH ho cl k a b an bn (by omega) (by omega) ne h
  ·have e1:=wH ho cl k a p an pn (by omega) (by omega) ap h1
   have e2:=wH ho cl k p b pn bn (by omega) (by omega) bp.symm h2
   exact cl p a b pn an bn (show o.idxOf p<o.idxOf a by omega) (show o.idxOf p<o.idxOf b by omega) ne (jg _ _ e1) e2
variable {n:Nat} {L:ay} {o:List Nat}
theorem Eo(ho:o.Perm (List.range n))(pw:L.Pairwise lexLt)(lt:∀z∈L,0≤z.1∧z.1<z.2∧z.2<(n:Int))(cl:kS n (aL n L) (fun a=>o.idxOf a)):ck n L o L:=by
 refine ⟨pw,fun z=>⟨fun hz=>?_,?_⟩⟩
 ·obtain ⟨z0,z1,z2⟩:=lt z hz
  obtain ⟨i,j⟩:=z;dsimp only at z0 z1 z2;obtain ⟨a,rfl⟩:=fh z0;obtain ⟨b,rfl⟩:=fh (show 0≤j by omega)
  have an:a<n:=by omega
  have bn:b<n:=by omega
  have ne:=je ho an bn (by omega)
  by_cases h:o.idxOf a<o.idxOf b
  ·refine ⟨a,b,an,bn,h,.one ⟨an,bn,.inl hz⟩,?_⟩
   unfold cZ;rw [aa (by omega),ae (by omega)]
  ·refine ⟨b,a,bn,an,by omega,.one ⟨bn,an,.inr hz⟩,?_⟩
   unfold cZ;rw [ae (by omega),aa (by omega)]
 ·rintro ⟨p,q,pn,qn,pq,w,rfl⟩
  have ne:p≠q:=fun e=>by subst e;omega
  have h:=wH ho cl (o.idxOf p) p q pn qn (av _) (mF pq) ne w;unfold cZ;rcases h.2.2 with e | e
  ·have:=lt _ e
   rw [aa (by omega),ae (by omega)]
   exact e
  ·have:=lt _ e
   rw [ae (by omega),aa (by omega)]
   exact e
theorem Ep(ho:o.Perm (List.range n))(f:ck n L o L):kS n (aL n L) (fun a=>o.idxOf a):=fun a b c an bn cn ab ac bc e1 e2=>by
 have ne:=je ho bn cn bc;have both:∀k,o.idxOf a<k→Wk (aL n L) (eQ n o k) b c:=fun k hk=>(Wk.one (jg _ _ e1)).more ⟨an,hk⟩ e2;by_cases h:o.idxOf b<o.idxOf c;·exact ⟨bn,cn,g8.mp ((iL f bn cn h).mpr (both _ ab))⟩
 ·exact jg _ _ ⟨cn,bn,g8.mp ((iL f cn bn (by omega)).mpr ((both _ ac).symm jg))⟩
def jZ(n:Nat)(r:Nat→Nat→Bool)(P:List Nat):Prop:=∀A b B,P=A++b::B→∀a,a<n→a∉A→(A.filter (r a)).length≤(A.filter (r b)).length
theorem Er{r s:Nat→Bool}:∀{l:List Nat},(∀d∈l,s d=true→r d=true)→∀{c},c∈l→r c=true→s c=false→(l.filter s).length<(l.filter r).length
 | [],_,_,h,_,_=>by cases h
 | x::l,h,c,hc,rc,uc=>by
  have le:(l.filter s).length≤(l.filter r).length:=by
   clear hc rc uc;have h':∀d∈l,s d=true→r d=true:=fun d hd=>h d (bJ _ hd);clear h
   induction l with
   | nil=>exact av _
   | cons y l ih=>
    have ih:=ih fun d hd=>h' d (bJ _ hd);have hy:=h' y cM;rw [iV,iV];by_cases sy:s y=true
    ·rw [ae sy,ae (hy sy),d9,d9]
     omega
    ·rw [aa sy]
     split
     ·rw [d9]
      omega
     ·exact ih
  rw [iV,iV];rcases bE.mp hc with rfl | hc
  ·rw [uc,aa (by decide),ae rc,d9]
   omega
  ·have ih:=Er (fun d hd=>h d (bJ _ hd)) hc rc uc
   by_cases sx:s x=true
   ·rw [ae sx,ae (h x cM sx),d9,d9]
    omega
   ·rw [aa sx]
    split
    ·rw [d9]
     omega
    ·exact ih
variable {P:List Nat}
theorem Nj(pm:P.Perm (List.range n))(h:jZ n (rL L) P):Aa n (aL n L) (fun a=>P.reverse.idxOf a):=fun a b c an bn cn ab bc e1 e2=>by
 have po:P.reverse.Perm (List.range n):=(ke P).trans pm;obtain ⟨A,B,e⟩:=List.append_of_mem (pm.mem_iff.mpr (cL.mpr bn));have er:P.reverse=B.reverse++b::A.reverse:=by rw [e];simp
 have nd:=nU po;rw [er,kg] at nd;obtain ⟨_,nx,dj⟩:=nd;obtain ⟨nb,_⟩:=hJ.mp nx;have ib:P.reverse.idxOf b=B.reverse.length:=by rw [er,lq,aa fun h=>dj b h b cM rfl,vc,dy]
 have iA:∀d,d∈A→P.reverse.idxOf b<P.reverse.idxOf d:=fun d hd=>by
  have hr:d∈A.reverse:=jA.mpr hd;have db:d≠b:=fun z=>nb (z▸hr);rw [ib,er,lq,aa fun h=>dj d h d (bJ _ hr) rfl,List.idxOf_cons,show (b == d)=false from by simpa using db.symm]
  simp only [cond_false];omega
 have iB:∀d,d<n→P.reverse.idxOf b<P.reverse.idxOf d→d∈A:=fun d dn lt=>by
  have hm:=(gh po).mpr dn;rw [er,dw,bE] at hm;rcases hm with hm | rfl | hm
  ·rw [ib,er,lq,ae hm] at lt
   have:=iU hm;omega
  ·omega
  ·exact jA.mp hm
 refine pH fun no=>?_;have cA:=iB c cn bc;have aA:a∉A:=fun z=>by have:=iA a z;have ab:P.reverse.idxOf a<P.reverse.idxOf b:=ab;omega
 have le:=h A b B e a an aA;have Al:∀d∈A,d<n:=fun d hd=>cL.mp (pm.mem_iff.mp (by rw [e];simp [hd]))
 have lt:=Er (r:=rL L a) (s:=rL L b) (l:=A) (fun d hd sd=>by
  refine pH fun nr=>no ⟨d,Al d hd,iA d hd,⟨bn,Al d hd,g8.mp sd⟩,fun z=>nr (g8.mpr z.2.2)⟩) cA (g8.mpr e1.2.2) (by
  cases z:rL L b c with
  | false=>rfl
  | true=>exact absurd ⟨bn,cn,g8.mp z⟩ e2)
 omega
theorem Nk(pw:L.Pairwise lexLt)(lt:∀z∈L,0≤z.1∧z.1<z.2∧z.2<(n:Int))(ho:o.Perm (List.range n))(f:ck n L o L)(pm:P.Perm (List.range n))(h:jZ n (rL L) P):ck n L P.reverse L:=by
 have po:P.reverse.Perm (List.range n):=(ke P).trans pm;refine Eo po pw lt (Ni (Ep ho f) (fun a b an bn e=>pH fun z=>je ho an bn z e) (fun a b an bn e=>pH fun z=>je po an bn z e) jg (fun a h=>?_) (Nj pm h) fun a an=>?_);·rcases h.2.2 with e | e <;> (have:=lt _ e;omega)
 ·have:=iU ((gh po).mpr an)
  rw [qc po] at this;exact this
end My
namespace L2
open PySem PySem.W PyProof.Rows
section
variable {prog:Program} {w:World} {A:Around} {E:aI} {s:Shared}
end
open AutoSeq1 (wpAny_loadPart')
section
variable {prog:Program} {w:World} {A:Around} {E:aI} {s:Shared}
end
end L2
namespace My
open PySem L2
end My
namespace L2
open PySem PySem.Spec PyProof.Rows My
theorem Nl{wi:TI}{ρ:St→St}{tt:TT}{te:TE}{σ:St}{H:Hp}{Q:VK}{xs:List V}(c:V→Bool)(fV:∀R:It→Hp→Prop,(∀J H1,ak H H1→jQ J xs H1→R J H1)→wi σ H R)(hn:xs.length<sizeLine)
  (test:∀x∈xs,∀(Hc:Hp) (R:Bool→Hp→Prop),ak H Hc→(∀Hd,ak Hc Hd→R (c x) Hd)→tt (some x::ρ σ) Hc R)
  (elem:∀(x:V) (Hc:Hp) (R:VK),R x Hc→te (some x::ρ σ) Hc R)
  (fin:∀D Hc,H D=none→ak H Hc→Hc D=some (.lst (xs.filter c))→Q (.ref D) Hc):fw wi ρ tt te σ H Q:=by
 refine fV _ fun J H1 s1 js=>?_;intro D nD;refine ⟨fun i m ys Hc=>m=xs.length-i∧i≤xs.length∧Hc D=some (.lst ys)∧ak H1 Hc∧ys.length≤i∧ys=(xs.take i).filter c,⟨_,rfl,bD _,aw,eZ (ak.refl H1) nD,av _,rfl⟩,?_⟩;rintro i m ys Hc ⟨rfl,hi,eD,sH,ly,hP⟩;refine ⟨eD,?_⟩;by_cases aZ:i<xs.length
 ·refine .inr ⟨js.go i Hc sH aZ,fun x H' hy=>?_⟩
  obtain ⟨rfl,hx⟩:=js.en i Hc x H' sH hy;have ex:=hx aZ;have mx:x∈xs:=rN ex;have tk:xs.take (i+1)=xs.take i++[x]:=by rw [k_,ex];rfl
  refine test x mx _ _ (s1.trans sH) fun Hd sd=>?_;have mh:=sd _ _ eD;have Es:=sH.trans sd;by_cases hb:c x=true
  ·rw [ae hb]
   refine elem x _ _ ⟨mh,by omega,xs.length-(i+1),by omega,rfl,aZ,aw,eZ Es nD,by simp;omega,?_⟩
   rw [tk,lh,←hP,iV,ae hb];rfl
  ·rw [aa hb]
   refine ⟨xs.length-(i+1),by omega,rfl,aZ,mh,Es,by omega,?_⟩
   rw [tk,lh,←hP,iV,aa hb,List.filter_nil,j8]
 ·have e:i=xs.length:=by omega
  subst e;rw [iS] at hP;subst hP;exact .inl ⟨js.stop _ Hc sH (av _),fin D Hc (none_of s1 nD) (s1.trans sH) eD⟩
end L2
namespace My
open PySem L2
def kT(g:Nat→List Nat)(zs:List Nat)(p:Nat):List Nat:=(g p).filter fun q=>decide (q∈zs)
def qg(g:Nat→List Nat)(zs:List Nat)(p a:Nat):List Nat:=(kT g zs p).filter fun b=>!decide (b=a) && !decide (b∈g a)
def iM(g:Nat→List Nat)(zs:List Nat)(p:Nat):Bool:=((kT g zs p).filter fun a=>!(qg g zs p a).isEmpty).isEmpty
theorem Ad(c:V→Bool)(l:List Nat):(l.map fun k:Nat=>V.int (k:Int)).filter c=(l.filter fun k:Nat=>c (.int (k:Int))).map fun k:Nat=>V.int (k:Int):=by rw [List.filter_map];rfl
variable {g:Nat→List Nat} {zs:List Nat}
theorem Et{p:Nat}:iM g zs p=true↔∀a b,a∈g p→b∈g p→a∈zs→b∈zs→b≠a→b∈g a:=by
 unfold iM;rw [List.isEmpty_iff,vd];constructor
 ·intro h a b ha hb az bz ne
  have h1:=h a (gJ.mpr ⟨ha,bF az⟩);rw [Bool.not_eq_true,Bool.not_eq_false'] at h1;rw [List.isEmpty_iff] at h1;unfold qg at h1;rw [vd] at h1;have h2:=h1 b (gJ.mpr ⟨hb,bF bz⟩);rw [bX ne,Bool.not_false,Bool.true_and,Bool.not_eq_true,Bool.not_eq_false'] at h2;exact hV h2
 ·intro h a ha
  rw [Bool.not_eq_true,Bool.not_eq_false',List.isEmpty_iff];unfold qg;rw [vd];intro b hb;obtain ⟨Nm,Nn⟩:=gJ.mp ha;obtain ⟨wI,ud⟩:=gJ.mp hb;by_cases e:b=a
  ·rw [bF e]
   simp
  ·rw [bF (h a b Nm wI (hV Nn) (hV ud) e)]
   simp
def Np:Sp:=fun vs H Q _=>∃(D lf:Addr) (n:Nat) (rs:Nat→Addr) (g:Nat→List Nat) (zs:List Nat),vs=[.ref D,.ref lf]∧md H D n rs g∧(∀i,i<n→∀j∈g i,j<n)∧(∀i,i<n→(g i).length≤900)∧H lf=some (.lst (zs.map fun k:Nat=>V.int (k:Int)))∧(∀z∈zs,z<n)∧zs.length≤100 ∧
 ∀(H':Hp) (r:Addr),ak H H'→H r=none→H' r=some (.lst ((zs.filter (iM g zs)).map fun k:Nat=>V.int (k:Int)))→Q (.ref r) H'
theorem Eu(k:Nat):kM (.int (k:Int))=k:=dH k
structure qh (n:Nat) (g:Nat→List Nat) (zs fs:List Nat):Prop where
 pm:(zs++fs).Perm (List.range n)
 cl:∀A x B,fs=A++x::B→∀b c,(b∈B∨b∈zs)→(c∈B∨c∈zs)→b≠c→b∈g x→c∈g x→c∈g b
variable {n:Nat}
theorem qh.step{fs:List Nat}{j:Nat}(h:qh n g zs fs)(jz:j∈zs)(jf:iM g zs j=true):qh n g (zs.erase j) (fs++[j]):=by
 refine ⟨?_,fun A x B e b c hb hc ne gb gc=>?_⟩
 ·refine List.Perm.trans ?_ h.pm
  have h1:=List.perm_cons_erase jz;have h2:(zs.erase j++(fs++[j])).Perm ((j::zs.erase j)++fs):=by rw [←fg];exact mP
  exact h2.trans (h1.symm.append_right fs)
 ·rcases List.eq_nil_or_concat B with rfl | ⟨B',y,rfl⟩
  ·have e':=ve e rfl
   have ex:=List.cons.inj e'.2;rw [←ex.1] at gb gc;have jh:b∈zs:=by
    rcases hb with h | h;·cases h
    ·exact yn h
   have eI:c∈zs:=by
    rcases hc with h | h;·cases h
    ·exact yn h
   exact Et.mp jf b c gb gc jh eI (Ne.symm ne)
  ·have e2:fs++[j]=(A++x::B')++[y]:=by rw [e,List.concat_eq_append];simp
   obtain ⟨e3,e4⟩:=ve e2 rfl;have ey:=(List.cons.inj e4).1;subst ey;have cv:∀z,(z∈B'.concat j∨z∈zs.erase j)→(z∈B'∨z∈zs):=fun z hz=>by
    rcases hz with h | h
    ·rw [List.concat_eq_append,dw,dq] at h
     rcases h with h | h;·exact .inl h
     ·exact .inr (h▸jz)
    ·exact .inr (yn h)
   exact h.cl A x B' e3 b c (cv b hb) (cv c hc) ne gb gc
variable {L:ay}
theorem qh.Nq{fs:List Nat}(h:qh n g [] fs)(nb:eO n L g):kS n (aL n L) (fun a=>fs.idxOf a):=by
 intro a b c an bn cn ab ac bc e1 e2;have pm:=h.pm;rw [uY] at pm;have mem:∀x,x<n→x∈fs:=fun x hx=>pm.mem_iff.mpr (cL.mpr hx);obtain ⟨A,B,e⟩:=List.append_of_mem (mem a an);have nd:fs.Nodup:=pm.nodup_iff.mpr rX;have aA:a∉A:=fun hm=>by rw [e,kg] at nd;exact nd.2.2 a hm a (by simp) rfl
 have ia:fs.idxOf a=A.length:=by rw [e,lq,aa aA,vc];omega
 have Ew:∀x,x<n→A.length<fs.idxOf x→x∈B:=fun x xn hx=>by
  have hm:=mem x xn;rw [e] at hm;rcases dw.mp hm with h | h
  ·have:fs.idxOf x<A.length:=by rw [e,lq,ae h];exact iU h
   omega
  ·rcases bE.mp h with h | h
   ·subst h
    omega
   ·exact h
 dsimp only at ab ac;rw [ia] at ab ac;have hb:b∈g a:=(nb a b an).mpr e1.2.2;have hc:c∈g a:=(nb a c an).mpr e2.2.2;exact ⟨bn,cn,(nb b c bn).mp (h.cl A a B e b c (.inl (Ew b bn ab)) (.inl (Ew c cn ac)) bc hb hc)⟩
theorem Ex(f:Nat→Nat):∀(zs:List Nat),zs≠[]→∃z∈zs,∀y∈zs,f z≤f y
 | [],h=>absurd rfl h
 | [z],_=>⟨z,by simp,fun y hy=>by rw [dq.mp hy];exact av _⟩
 | z::w::l,_=>by
  obtain ⟨m,hm,h⟩:=Ex f (w::l) (by simp)
  by_cases e:f z≤f m
  ·refine ⟨z,by simp,fun y hy=>?_⟩
   rcases bE.mp hy with rfl | hy;·exact av _
   ·exact bI e (h y hy)
  ·refine ⟨m,bJ _ hm,fun y hy=>?_⟩
   rcases bE.mp hy with rfl | hy;·omega
   ·exact h y hy
theorem Nr{o:List Nat}(ho:o.Perm (List.range n))(cl:kS n (aL n L) (fun a=>o.idxOf a))(g_:kO L)(nb:eO n L g)(hz:zs≠[])(zn:∀z∈zs,z<n):zs.filter (iM g zs)≠[]:=by
 obtain ⟨z,mz,h⟩:=Ex (fun a=>o.idxOf a) zs hz;intro e;rw [vd] at e;refine e z mz (Et.mpr fun a b ga gb az bz ne=>?_);have inj:∀x y,x<n→y<n→o.idxOf x=o.idxOf y→x=y:=fun x y hx hy e=>by have mx:x∈o:=ho.mem_iff.mpr (cL.mpr hx);have my:y∈o:=ho.mem_iff.mpr (cL.mpr hy);have h1:=rZ (iU mx);have h2:=rZ (iU my);rw [←h1,←h2];simp only [e]
 have nz:∀x,x∈g z→x≠z:=fun x hx e=>by
  subst e;rcases (nb x x (zn _ mz)).mp hx with h | h;·exact g_ _ h rfl
  ·exact g_ _ h rfl
 have lt:∀x,x∈g z→x∈zs→o.idxOf z<o.idxOf x:=fun x hx xz=>by
  have h1:=h x xz;rcases Nat.lt_or_ge (o.idxOf z) (o.idxOf x) with h2 | h2;·exact h2
  ·exact absurd (inj x z (zn x xz) (zn z mz) (by omega)) (nz x hx)
 exact (nb a b (zn a az)).mpr (cl z a b (zn z mz) (zn a az) (zn b bz) (lt a ga az) (lt b gb bz) (Ne.symm ne) ⟨zn z mz,zn a az,(nb z a (zn z mz)).mp ga⟩ ⟨zn z mz,zn b bz,(nb z b (zn z mz)).mp gb⟩).2.2
def Nt(K:aD):Sp:=fun vs H Q _=>∃(P a tp:Addr) (ns:List Int) (n:Nat) (L:ay),vs=[.ref P,.ref tp]∧ba H P a∧aU K (er P H) a (ns.map V.int)∧tp≠P∧cE H tp n L∧L.Pairwise lexLt∧(∀z∈L,0≤z.1∧z.1<z.2∧z.2<(n:Int))∧1≤n∧n≤30∧L.length≤450 ∧
 (∀H':Hp,aB P H H'→ba H' P a→(∀o,o.Perm (List.range n)→¬ck n L o L)→Q .aM H') ∧
 ∀(l:Addr) (o:List Nat) (H':Hp),aB P H H'→ba H' P a→l≠P→H l=none→H' l=some (.lst (o.map fun k:Nat=>V.int (k:Int)))→o.Perm (List.range n)→ck n L o L→Q (.ref l) H'
open PySem L2 Classical
theorem Nu(n:Nat)(L:ay)(o:List Nat):∃M,ck n L o M:=by
 let f:Nat→Nat→Bool:=fun i j=>decide (∃p q:Nat,p<n∧q<n∧o.idxOf p<o.idxOf q∧Wk (aL n L) (eQ n o (o.idxOf p)) p q∧((i:Int),(j:Int))=cZ p q)
 refine ⟨tZ n f n,DF n,fun z=>⟨fun h=>?_,?_⟩⟩
 ·obtain ⟨i,j,_,_,_,hf,rfl⟩:=mem_of h
  exact hV hf
 ·rintro ⟨p,q,hp,hq,Ae,hw,rfl⟩
  have ne:p≠q:=fun e=>by rw [e] at Ae;exact absurd Ae (d7 _)
  obtain ⟨i,j,ij,jn,e⟩:∃i j:Nat,i<j∧j<n∧cZ p q=((i:Int),(j:Int)):=by
   by_cases h:q<p
   ·refine ⟨q,p,h,hp,?_⟩
    unfold cZ;rw [ae (by omega),aa (by omega)]
   ·refine ⟨p,q,by omega,hq,?_⟩
    unfold cZ;rw [aa (by omega),ae (by omega)]
  rw [e];exact DE ij jn (bF ⟨p,q,hp,hq,Ae,hw,e.symm⟩) (by omega)
theorem eB{a b:TS}{D:Ends}{σ:St}{H:Hp}(h:∀R:St→Hp→Prop,(∀σ H,b D σ H→R σ H)→a {D with nx:=R} σ H):yA a b D σ H:=h _ fun _ _ h=>h
end My
namespace L2
open PySem PySem.Spec PyProof.Rows
def Ey(ps:Array Value):Obj:={cls:=.none,data:=.fields ps}
def Ez(Pt:Addr)(H:Hp):Prop:=∀b,H b=none∨(∃o xs,H b=some (.bg o (.lst xs)))∨(b=Pt∧H b=some (.cm #[]))
def jj(base:Heap)(mg:bV):Prop:=
 ∃bm o,mg "__builtins__"=some (.ref bm)∧bm≠builtinsNs∧base.get? bm=some o∧o.cls=.type "module"∧o.dict=some builtinsNs∧o.data=.plain
variable {P:Program} {w:World} {K:aD} {mg:bV} {k:Nat} {Pt:Addr} {fd:FuncData} {x:Str} {sp:Sp}
theorem Nv{mb:bV}{CX:gy}{fa a:Addr}{s₁:Shared}{vs:List Value}{ns:List Int}
  (KX:K.In s₁.heap) (wJ:s₁.heap.Ns mainGlobals mg) (hb:s₁.heap.Ns builtinsNs mb) (nN:∀x:Str,x ≠ "__name__"→mb x=bootBuiltins x) (Nw:s₁.heap.NoLimit) (hg:s₁.gens = #[])
  (hT:s₁.heap.get? Pt=some (Ey #[])) (Af:K.lookup Pt=none) (Ag:isCodeTable s₁.heap Pt)
  (ha:s₁.heap.get? a=some {cls:=.type "list",data:=.seq vs.toArray}) (hi:IntsAre vs ns) (hl:ns.length≤sizeLine) (hr:cT k callerA)
  (Nx:jj s₁.heap mg) (F:∀base:Heap,K.In base→base.Ns mainGlobals mg→jj base mg→bK P w K mg base CX k fa fd [x] sp) (nX:∀(s:Shared) (u:Value),BindsTo s fd ⟨[u],[]⟩ [(x,u)])
  (jO:∀H:Hp,Ez Pt H→H Pt=some (.cm #[])→aU K H a (ns.map V.int)→sp [.ref a] H (fun v _=>v=.bl true) fun _ _ _=>False)
  (Ny:∀H e s',CX [] H s₁ (fun _ _ _=>False) e s'→False) :
  codeAny (model P w) callerA (.call (.ref fa) ⟨[.ref a],[]⟩) (fun r s'=>r=.ok (.ret (.bool true))∧OldK s₁.heap s'.heap∧s'.os=s₁.os∧AllBare s'.gens) s₁:=by
 have rv:=CJ hi;have Nz:=hi.length;have aT:a≠Pt:=fun z=>by rw [z,hT] at ha;cases ha
 have core:∀H:Hp,Ez Pt H→H Pt=some (.cm #[])→aU K H a (ns.map V.int)→bQ P w H s₁.heap→(∀b,H b≠none→b=a∨b=Pt)→(H a≠none→K.lookup a=none)→
   codeAny (model P w) callerA (.call (.ref fa) ⟨[.ref a],[]⟩) (fun r s'=>r=.ok (.ret (.bool true))∧OldK s₁.heap s'.heap∧s'.os=s₁.os∧AllBare s'.gens) s₁:=by
  intro H hO hP hS ax hA hK;have Ah:∀{b:Addr} {o:Obj},s₁.heap.get? b=some o→H b=none→(jF s₁.heap H).get? b=some o:=fun e n=>GW e n;have sO:∀{b:Addr} {o:Obj} {es:Array DictEntry} {ep:Nat},s₁.heap.get? b=some o→o.data=.dict es ep→H b=none:=fun{b o es ep} e d=>by
   cases q:H b with
   | none=>rfl
   | some u=>
    rcases hA b (by rw [q];simp) with e' | e'
    ·subst e'
     rw [ha] at e;cases e;have d':Data.seq vs.toArray _=Data.dict es ep:=d;cases d'
    ·subst e'
     rw [hT] at e;cases e;have d':Data.fields _=Data.dict es ep:=d;cases d'
  have wK:∀{b:Addr} {m:bV},s₁.heap.Ns b m→(jF s₁.heap H).Ns b m:=fun{b m} ⟨o,es,ep,e,d,r⟩=>⟨o,es,ep,Ah e (sO e d),d,r⟩;have EA:K.In (jF s₁.heap H):=fun b o e=>Ah (KX b o e) (by
   cases q:H b with
   | none=>rfl
   | some u=>
    rcases hA b (by rw [q];simp) with e' | e'
    ·subst e'
     rw [hK (by rw [q];simp)] at e;cases e
    ·subst e'
     rw [Af] at e;cases e)
  have hM:Mod K mg (jF s₁.heap H):=⟨EA,wK wJ,⟨mb,wK hb,nN⟩,let ⟨mc,h1,h2⟩:=Nw;⟨mc,wK h1,h2⟩⟩
  have e0:vD P w K mg (jF s₁.heap H) callerA [] s₁ H:=⟨rfl,hM,fun b o e=>GX e,Nat.le_of_eq (GV _ _),trivial,fun b hb=>absurd (show b∈([]:List Addr) from hb) (by simp),ax,.of_eq hg⟩
  have NA:jj (jF s₁.heap H) mg:=by
   obtain ⟨bm,o,b1,b2,b3,b4,b5,b6⟩:=Nx;refine ⟨bm,o,b1,b2,Ah b3 ?_,b4,b5,b6⟩;cases q:H bm with
   | none=>rfl
   | some u=>
    rcases hA bm (by rw [q];simp) with e' | e'
    ·subst e'
     rw [ha] at b3;cases b3;cases b6
    ·subst e'
     rw [hT] at b3;cases b3;cases b6
  refine codeAny_mono ((F _ EA (wK wJ) NA).run callerA [] s₁ H ⟨[.ref a],[]⟩ [.ref a] [.ref a] _ _ hr e0 (nX s₁ (.ref a)) (.cons rfl .nil) (jO H hO hP hS)) fun r s' h=>?_;cases r with
  | error e=>exact (Ny H e s' h).elim
  | ok fl=>
   cases fl with
   | next=>exact False.elim h
   | brk=>exact False.elim h
   | cont=>exact False.elim h
   | ret u=>
    obtain ⟨v,H',os,bare,un,EB,r',q⟩:=h;have q':v=.bl true:=q;subst q';obtain rfl:u=Value.bool true:=r';have tab:∃more:Array Value,s'.heap.get? Pt=some (Ey (#[]++more)):=by obtain ⟨more,e⟩:=un.fm Pt _ hP;exact ⟨more,(show bu P w H' s'.heap Pt (.cm (#[]++more)) from EB Pt _ e)⟩
    refine ⟨rfl,⟨fun b o e=>?_,fun b o e=>?_⟩,os,bare⟩
    ·by_cases EC:b=Pt
     ·subst EC
      rw [hT] at e;cases e;obtain ⟨more,e⟩:=tab;exact .inr (.inl ⟨Ag,rfl,#[],more,rfl,e⟩)
     ·refine .inl ?_
      cases q:H b with
      | none=>exact un.keep b o e q (by intro z;exact absurd (show b∈([]:List Addr) from z) (by simp)) (by simp)
      | some u=>
       rcases hO b with z | ⟨ob,xs,z⟩ | ⟨z,_⟩;·rw [q] at z;cases z
       ·have z2:=un.fk b ob _ z
        obtain ⟨e1,_⟩:=ax b _ z;obtain ⟨e2,_⟩:=EB b _ z2;rw [e] at e1;cases e1;exact e2
       ·exact absurd z EC
    ·exact un.there b o e (by simp)
 have wL:∀H:Hp,bu P w H s₁.heap Pt (.cm #[]):=fun H=>hT;cases hk:K.lookup a with
 | some o=>
  have e:=KX a o hk;rw [ha] at e;cases e;refine core (fun b=>if b=Pt then some (.cm #[]) else none) (fun b=>?_) (ae rfl) (.inr ⟨_,vs.toArray,_,hk,rfl,rfl,rfl,by rw [bS,Nz];exact hl,by simpa using rv⟩) (fun b u z=>?_) (fun b z=>?_) fun z=>absurd (aa aT) z
  ·by_cases h:b=Pt
   ·exact .inr (.inr ⟨h,ae h⟩)
   ·exact .inl (aa h)
  ·by_cases h:b=Pt
   ·have z':=(ae h).symm.trans z
    cases z';subst h;exact wL _
   ·have z':=(aa h).symm.trans z
    cases z'
  ·by_cases h:b=Pt
   ·exact .inr h
   ·exact absurd (aa h) z
 | none=>
  refine core (fun b=>if b=a then some (.bg {cls:=.type "list",data:=.seq vs.toArray} (.lst (ns.map V.int))) else if b=Pt then some (.cm #[]) else none) (fun b=>?_) ((aa (Ne.symm aT)).trans (ae rfl)) (.inl (.inr ⟨{cls:=.type "list",data:=.seq vs.toArray},ae rfl⟩)) (fun b u z=>?_) (fun b z=>?_) fun _=>hk
  ·by_cases hb:b=a
   ·exact .inr (.inl ⟨_,_,ae hb⟩)
   ·by_cases h:b=Pt
    ·exact .inr (.inr ⟨h,(aa hb).trans (ae h)⟩)
    ·exact .inl ((aa hb).trans (aa h))
  ·by_cases hb:b=a
   ·have z':=(ae hb).symm.trans z
    cases z';subst hb;exact ⟨ha,by rw [aK];exact hl,vs,_,rv,ha⟩
   ·have z1:=(aa hb).symm.trans z
    by_cases h:b=Pt
    ·have z':=(ae h).symm.trans z1
     cases z';subst h;exact wL _
    ·have z':=(aa h).symm.trans z1
     cases z'
  ·by_cases hb:b=a
   ·exact .inl hb
   ·by_cases h:b=Pt
    ·exact .inr h
    ·exact absurd ((aa hb).trans (aa h)) z
open PySem PySem.Spec PyProof.Rows PySem.W
def tabIn(K:aD)(fd:FuncData)(P:Addr):Bool:=match fd.code with | .ref c=>PySem.W.codeHdIn K c P | _=>false
def ue(c:Addr)(q:Str):HO:=.ext fun h=>h.CodeRec (.ref c) q
def cV(Pt:Addr)(pl:Pos)(q:Str)(H:Hp):Prop:=
 H Pt=some (.cm #[])∨∃c,c≠Pt∧H Pt=some (.cm #[rawInt pl.line,rawInt pl.col,.ref c])∧H c=some (ue c q)
def d5(Pt:Addr)(H H':Hp):Prop:=∀b o,b≠Pt→H b=some o→H' b=some o
variable {H:Hp} {c:Addr} {q:Str}
theorem ue.ok{h:Heap}(x:h.CodeRec (.ref c) q):bu P w H h c (ue c q):=by
 refine ⟨x,?_,fun h1 h2 y k=>?_⟩
 ·obtain ⟨c',o,vs,t,e,g,_⟩:=x
  cases e;exact ⟨o,g⟩
 ·obtain ⟨c',o,vs,t,e,g,r⟩:=y
  cases e;exact ⟨c,o,vs,t,rfl,k o g,r⟩
def iO(x:Str)(p:Pos):Arguments:={posonlyargs:=[],args:=[{arg:=x,annotation:=none,pos:=p}],vararg:=none,kwonlyargs:=[],kw_defaults:=[],kwarg:=none,defaults:=[]}
def gq(x c:Str):Scope:={kind:=.function,names:=[(x,.local),(c,.free)],isGenerator:=false,isCoroutine:=false,more:=[]}
def iP(x c:Str)(p1 p2 p3:Pos):Expr:=.Subscript (.Name c p1) (.Name x p2) p3
variable {cc:Addr}
theorem NB{c:Str}{env:Env}(h:env.cells.lookup c=some cc):closureFor (gq x c) env=pure [(c,cc)]:=by unfold closureFor gq cellOf;simp [h]
variable {s:Shared} {f c' cnt:Addr} {m:bV} {name cn:Str} {p p1:Pos} {pm eR:Value}
theorem NC{prog:Program}{A:Around}{h₀:Heap}{L:Addr}{news:aG}{p2 p3:Pos}{items:Array Value}{k z:Int}{u t:Tok}
  (ND:A.depth<recursionLimit) (F:Fr h₀ L s.heap m) (N:News h₀ L s.heap news)
  (hf:s.heap.get? f=some (kla_obj name q (iO x p) (iP x cn p1 p2 p3) (gq x cn) [(cn,cc)] pm c' eR)) (dz:s.heap.CodeRec (.ref c') q)
  (ki:s.heap.IsCell cc (some (.ref cnt))) (hl:s.heap.IsList cnt items) (lim:s.heap.NoLimit) (h0:0≤k) (yU:k<2 ^ 63) (hx:items[k.toNat]?=some (.int z t))
  (nX:bindArgs (kla_fn name q (iO x p) (iP x cn p1 p2 p3) (gq x cn) [(cn,cc)] pm (.ref c') eR) ⟨[.int k u],[]⟩=pure [(x,.int k u)])
  (eX:(cn == x)=false) (uf:(x == ("__debug__":Str))=false) (hd2:(cn == ("__debug__":Str))=false) (ug:(cn == ("__classdict__":Str))=false) :
  wpAny (model prog w) A (call (.ref f) [.int k u]) (KskEnd h₀ L m news z s) (fun _ _=>False) s:=by
 refine wpAny_call (kla_callFunE ND hf rfl rfl rfl rfl dz ?_);rw [nX];refine dm (wpAny_newFunctionEnv ?_ ?_ (fun h₁ wJ jR=>?_) rfl)
 ·intro y hy
  rcases bE.mp hy with rfl | hy;·intro z;cases z
  ·rcases bE.mp hy with rfl | hy
   ·intro z;cases z
   ·cases hy
 ·intro y hy
  obtain rfl:y=(x,Value.int k u):=dq.mp hy;show List.lookup x [(x,NameKind.local),(cn,NameKind.free)]=_;simp [List.lookup]
 ·have uh:∀b o,s.heap.get? b=some o→h₁.get? b=some o:=fun b o e=>jR.extBut b o (bR (aS e)) (bO _ e)
  refine ⟨lim.fresh _ jR,kla_codeExpr ?_⟩;refine Subscript_ (wpAny_Name (wpAny_loadName_free (c:=cc) (v:=.ref cnt) rfl ?_ ?_ ?_ ?_ ug) hd2)
  ·show List.lookup cn [(x,NameKind.local),(cn,NameKind.free)]=_
   simp [List.lookup,eX]
  ·show List.lookup cn [(cn,cc)]=_
   simp [List.lookup]
  ·obtain ⟨o,ho,hd⟩:=ki
   exact ⟨o,uh _ _ ho,hd⟩
  ·refine wpAny_Name (wpAny_loadName_local (v:=.int k u) rfl ?_ wJ ?_ ?_) uf
   ·show List.lookup x [(x,NameKind.local),(cn,NameKind.free)]=_
    simp [List.lookup]
   ·show List.lookup x [(x,Value.int k u)]=_
    simp [List.lookup]
   ·refine item_listR (x:=.int z t) ?_ h0 yU hx ?_
    ·obtain ⟨o,ho,r⟩:=hl
     exact ⟨o,uh _ _ ho,r⟩
    ·exact ⟨h₁,_,t,rfl,rfl,⟨by obtain ⟨o,es,ep,ho,r⟩:=F.ns;exact ⟨o,es,ep,uh _ _ ho,r⟩,fun b o e=>uh b o (F.keep b o e),F.above⟩,fun p hp=>⟨uh _ _ (N p hp).1,(N p hp).2⟩⟩
open PySem PySem.Spec PyProof.Rows PySem.W Att
variable {X:Cx} {pins:aG} {σ:St} {h':Heap}
theorem Inv.NF{t':Nat}(I:Inv X pins σ H s)(hm:s.heap.Ns X.env.locals m)(dt:h'.Ns X.env.locals m)
  (k:∀b o,b≠X.env.locals→s.heap.get? b=some o→h'.get? b=some o):Inv X pins σ H {s with heap:=h',toks:=t'}:=by
 have jH:∀b u,H b=some u→b≠X.env.locals:=fun b u e z=>by rw [z,I.free] at e;cases e
 refine I.step (g':=s.gens) (d':=s.drawn) (ch:=[]) (fun _ z=>nomatch z) (fun b o n _ _ e _=>k b o n e) (fun b o n _ _ e _=>⟨o.slots,k b o n e⟩) (fun _ _ _ _ n=>n) (fun b o _ e=>?_) (fun _ _ e=>e) (fun _ _ _ e=>e) (fun b ps e=>⟨#[],by rw [e];simp⟩) (fun m2 kU=>?_) (fun b u e=>?_) I.bare
 ·by_cases n:b=X.env.locals
  ·obtain ⟨o',_,_,ho,_⟩:=dt
   exact ⟨o',by rw [n];exact ho⟩
  ·exact ⟨o,k b o n e⟩
 ·obtain ⟨o,es,ep,ho,hd,hs,r⟩:=hm
  obtain ⟨o2,TB,TC,wM,hd2,ng,r2⟩:=kU;rw [ho] at wM;cases wM;rw [hd] at hd2;cases hd2;have:m2=m:=funext fun x=>(r2 x).symm.trans (r x);rw [this];exact dt
 ·refine (I.ax b u e).gO (fun c v hc q=>k c v ?_ q) (fun _ q=>q) fun _ _ q=>q
  rcases hc with z | z;·rw [z];exact jH b u e
  ·exact jH c _ z
theorem Inv.jH(I:Inv X pins σ H s){b:Addr}{o:Obj}(e:s.heap.get? b=some o)(hd:∀es ep,o.data≠.dict es ep):b≠X.env.locals:=fun z=>by obtain ⟨m,⟨o',es,ep,hZ,yq,_⟩,_⟩:=I.loc;rw [z,hZ] at e;cases e;exact hd es ep yq
def ED(xs:List Nat)(cs:List Int)(m:Nat):Prop:=m∈xs∧∀y∈xs,cs.getD y 0≤cs.getD m 0
variable {l:Addr}
theorem NG{p2 p3:Pos}{xs:List Nat}{cs:List Int}{Q:aI}
  (I:Inv X pins σ H s) (hr:cT 1 X.A)
  (hf:s.heap.get? f=some (kla_obj name q (iO x p) (iP x cn p1 p2 p3) (gq x cn) [(cn,cc)] pm c' eR)) (dz:s.heap.CodeRec (.ref c') q)
  (ki:s.heap.IsCell cc (some (.ref cnt))) (hl:aU X.K H l (xs.map fun(k:Nat)=>V.int (k:Int))) (eX:xs≠[]) (hc:aU X.K H cnt (cs.map V.int)) (Ai:∀y∈xs,y<cs.length)
  (nX:∀(k:Int) (u:Tok),bindArgs (kla_fn name q (iO x p) (iP x cn p1 p2 p3) (gq x cn) [(cn,cc)] pm (.ref c') eR) ⟨[.int k u],[]⟩=pure [(x,.int k u)])
  (Aj:(cn == x)=false) (uf:(x == ("__debug__":Str))=false) (hd2:(cn == ("__debug__":Str))=false) (ug:(cn == ("__classdict__":Str))=false)
  (hQ:∀(k:Nat) (t:Tok) (s':Shared),ED xs cs k→Inv X pins σ H s'→Q (.int k t) s') :
  wpAny (model X.prog X.w) X.A (call (.builtin "max") [.ref l] [(Str.ofString "key",.ref f)]) Q X.xe s:=by
 obtain ⟨m,hm,_⟩:=id I.loc;obtain ⟨its,rv,pl,hz⟩:=I.list hl;obtain ⟨NH,rc,pc,EE⟩:=I.list hc;have uj:its.length=xs.length:=by have:=rv.length;rw [aK] at this;exact this.symm
 have TF:NH.length=cs.length:=by have:=rc.length;rw [aK] at this;exact this.symm
 have fL:f≠X.env.locals:=I.jH hf fun _ _ z=>by cases z
 have at':∀{h:Heap} {own:aG},News (nC s.heap) X.env.locals h (([]++(f,kla_obj name q (iO x p) (iP x cn p1 p2 p3) (gq x cn) [(cn,cc)] pm c' eR)::ledger s.heap X.env.locals f)++own)→
   ∀b o,b≠X.env.locals→s.heap.get? b=some o→h.get? b=some o:=fun{h own} N b o n e=>by
  by_cases hb:b=f
  ·subst hb
   rw [hf] at e;cases e;exact (N _ (mG _ (cM))).1
  ·exact (N (b,o) (mG _ (bJ _ (CI.mpr ⟨n,hb,e⟩)))).1
 have EF:∀{h:Heap},News (nC s.heap) X.env.locals h ([]++(f,kla_obj name q (iO x p) (iP x cn p1 p2 p3) (gq x cn) [(cn,cc)] pm c' eR)::ledger s.heap X.env.locals f)→
   ∀b o,b≠X.env.locals→s.heap.get? b=some o→h.get? b=some o:=fun{h} N=>at' (own:=[]) (by rw [j8];exact N)
 have listAt:∀{h:Heap} {a:Addr} {vs:Array Value},(∀b o,b≠X.env.locals→s.heap.get? b=some o→h.get? b=some o)→PlainL s.heap a vs→h.IsList a vs:=fun{h a vs} k pl=>by obtain ⟨o,n,e,c,d,dd⟩:=pl;exact PlainL.isList ⟨o,n,k a o (I.jH e fun _ _ z=>by rw [dd] at z;cases z) e,c,d,dd⟩
 have kn:∀i,i<xs.length→∃t,its[i]?=some (.int ((xs.getD i 0:Nat):Int) t):=fun i hi=>by
  have e:(xs.map fun(k:Nat)=>V.int (k:Int))[i]?=some (.int ((xs.getD i 0:Nat):Int)):=by rw [bq,b9 hi,dG,b9 hi];rfl
  obtain ⟨u,eu,ru⟩:=rv.get e;obtain ⟨t,rfl⟩:=ru;exact ⟨t,eu⟩
 have EG:∀i,i<xs.length→xs.getD i 0∈xs:=fun i hi=>by rw [dG,b9 hi];exact cR hi
 refine kmk_max (h₀:=nC s.heap) (L:=X.env.locals) (m:=m) (vs:=its) (fun i=>cs.getD (xs.getD i 0) 0) hr.hd (Jm hm) (Jl fL hf) (fun h F N=>listAt (EF N) pl) (by rw [uj];exact List.length_pos_iff.mpr eX) (fun i v hv h tk own F N=>?_) fun i v h' CW hv hb F N=>?_
 ·have hi:i<xs.length:=by rw [←uj];exact (bG.mp hv).1
  obtain ⟨t,et⟩:=kn i hi;rw [et] at hv;cases hv;have aZ:=Ai _ (EG i hi);have ec:(cs.map V.int)[xs.getD i 0]?=some (.int (cs.getD (xs.getD i 0) 0)):=by rw [bq,b9 aZ,dG (l:=cs),b9 aZ];rfl
  obtain ⟨u,eu,ru⟩:=rc.get ec;obtain ⟨t2,rfl⟩:=ru;have k:=at' N;refine NC (A:=X.A.in1) (by have:=hr.dp;show X.A.depth<_;omega) F N (k _ _ fL hf) ?_ ?_ (listAt k pc) ?_ (Int.natCast_nonneg _) ?_ (by simpa using eu) (nX _ _) Aj uf hd2 ug
  ·obtain ⟨c2,o,vs,tt,e,g,dd,r⟩:=dz
   exact ⟨c2,o,vs,tt,e,k _ _ (I.jH g fun _ _ z=>by rw [dd] at z;cases z) g,dd,r⟩
  ·obtain ⟨o,ho,hd⟩:=ki
   exact ⟨o,k _ _ (I.jH ho fun _ _ z=>by rw [hd] at z;cases z) ho,hd⟩
  ·exact I.ok.mod.nolimit.keeps fun b o e=>k b o (fun z=>by have:=aS e;have h1:=I.ok.gQ;have h2:=I.ok.above;rw [z] at this;exact absurd (c_ this (bI h1 h2)) (d7 _)) (I.bk b o e)
  ·have h1:cs.length≤sizeLine:=by rw [aK] at EE;exact EE
   have h2:=pQ;omega
 ·have hi:i<xs.length:=by rw [←uj];exact (bG.mp hv).1
  obtain ⟨t,et⟩:=kn i hi;rw [et] at hv;cases hv;refine hQ (xs.getD i 0) t _ ⟨EG i hi,fun y hy=>?_⟩ (I.NF hm F.ns (EF N));obtain ⟨j,hj,ej⟩:=u5 hy;have wI:=(hb j (by rw [uj];exact hj)).1
  have e2:xs.getD j 0=y:=by rw [←ej,dG,b9 hj];rfl
  simp only [e2] at wI;exact wI
variable {ps:Array Value}
theorem Inv.EH(I:Inv X pins σ H s)(hB:jj X.base X.mg)(hP:H Pt=some (.cm ps)):s.heap.BuiltinsAt X.mg Pt∧mainGlobals≠Pt:=by
 obtain ⟨bm,o,e1,e2,e3,e4,e5,e6⟩:=hB;refine ⟨⟨bm,o,e1,e2,fun z=>?_,fun z=>?_,I.bk _ _ e3,e4,e5,e6⟩,fun z=>?_⟩
 ·obtain ⟨o',es,ep,ho,hd,_⟩:=I.ok.mod.glob
  rw [z,ho] at e3;cases e3;rw [hd] at e6;cases e6
 ·have:=(I.bs _ _ e3).2
  rw [z,hP] at this;cases this
 ·obtain ⟨o',es,ep,ho,hd,_⟩:=I.ok.mod.glob
  have:=(I.bs _ _ ho).2;rw [z,hP] at this;cases this
variable {pl:Pos}
theorem Inv.grown{fo:Obj}{tk:Nat}(I:Inv X pins σ H s)(hP:H Pt=some (.cm #[]))(hx:Heap.ExtBut Pt s.heap h')(um:s.heap.objs.size≤c')(qi:h'.CodeRec (.ref c') q)
  (Ak:h'.get? Pt=some (tabObj #[rawInt pl.line,rawInt pl.col,.ref c'])) :
  ∃H',d5 Pt H H'∧cV Pt pl q H'∧Inv X pins σ H' {s with heap:=h'.push fo,toks:=tk}:=by
 have cP:c'≠Pt:=fun z=>by have e:s.heap.get? Pt=some (tabObj #[]):=I.ax Pt _ hP;have:=aS e;rw [←z] at this;exact absurd (c_ this um) (d7 _)
 have cN:H c'=none:=I.ax.fresh um;have kp:∀b o,b≠Pt→s.heap.get? b=some o→(h'.push fo).get? b=some o:=fun b o n e=>bO _ (hx b o n e);have NI:(h'.push fo).CodeRec (.ref c') q:=qi.push _;have EI:(h'.push fo).get? Pt=some (tabObj #[rawInt pl.line,rawInt pl.col,.ref c']):=bO _ Ak;refine ⟨upd (upd H Pt (.cm #[rawInt pl.line,rawInt pl.col,.ref c'])) c' (ue c' q),fun b o n e=>?_,.inr ⟨c',cP,by rw [aE (Ne.symm cP),aw],aw⟩,I.un ⟨fun b o e n _ _=>?_,fun b o e n hb _=>?_,fun b o e n _=>?_,fun b o e _=>?_,fun b xs e=>?_,fun b o u e=>?_,fun b ps e=>?_⟩ fun b u e=>?_⟩
 ·rw [aE (fj e cN),aE n];exact e
 ·exact kp b o (fun z=>by rw [z,hP] at n;cases n) e
 ·exact ⟨o.slots,kp b o (fun z=>by rw [z,hP] at n;cases n) e⟩
 ·rw [aE (bR (c_ (aS e) um)),aE (fun z=>by rw [z,hP] at n;cases n)];exact n
 ·by_cases n:b=Pt
  ·exact ⟨_,by rw [n];exact EI⟩
  ·exact ⟨o,kp b o n e⟩
 ·rw [aE (fj e cN),aE (fun z=>by rw [z,hP] at e;cases e)];exact e
 ·rw [aE (fj e cN),aE (fun z=>by rw [z,hP] at e;cases e)];exact e
 ·by_cases n:b=Pt
  ·subst n
   rw [hP] at e;cases e;exact ⟨#[rawInt pl.line,rawInt pl.col,.ref c'],by rw [aE (Ne.symm cP),aw];simp⟩
  ·exact ⟨#[],by rw [aE (fj e cN),aE n,e];simp⟩
 ·by_cases hc:b=c'
  ·subst hc
   rw [aw] at e;cases e;exact ue.ok NI
  ·rw [aE hc] at e
   by_cases n:b=Pt
   ·subst n
    rw [aw] at e;cases e;exact EI
   ·rw [aE n] at e
    refine (I.ax b u e).gO (fun d v hd g=>kp d v ?_ g) (fun d g=>?_) fun d xs g=>?_
    ·rcases hd with z | z
     ·rw [z];exact n
     ·intro y;rw [y,hP] at z;cases z
    ·rw [aE (fj g cN),aE (fun z=>by rw [z,hP] at g;cases g)];exact g
    ·rw [aE (fj g cN),aE (fun z=>by rw [z,hP] at g;cases g)];exact g
def NJ(K:aD)(t:TA)(i:Nat)(Pt:Addr)(pl:Pos)(q:Str):TE:=fun σ H Q=>t σ H fun vs H1=>
 ∃(l cnt:Addr) (xs:List Nat) (cs:List Int),vs=[.ref l]∧aU K H1 l (xs.map fun(k:Nat)=>V.int (k:Int))∧xs≠[]∧σ[i]?=some (some (.ref cnt))∧aU K H1 cnt (cs.map V.int)∧(∀y∈xs,y<cs.length) ∧
  cV Pt pl q H1∧∀(k:Nat) (H2:Hp),ED xs cs k→d5 Pt H1 H2→cV Pt pl q H2→Q (.int k) H2
theorem aU.st{H':Hp}{xs:List V}(h:aU K H l xs)(hP:H Pt=some (.cm ps))(s:d5 Pt H H'):aU K H' l xs:=by
 have ne:∀o,H l=some o→(∀NK,o≠.cm NK)→l≠Pt:=fun o e n z=>by rw [z,hP] at e;exact n ps (Option.some.inj e).symm
 rcases h with (h | ⟨o,h⟩) | h;·exact .inl (.inl (s _ _ (ne _ h fun _ z=>by cases z) h))
 ·exact .inl (.inr ⟨o,s _ _ (ne _ h fun _ z=>by cases z) h⟩)
 ·exact .inr h
theorem NL{e:Expr}{t:TA}{i:Nat}{pos kp pa p2 p3:Pos}(ha:PA X [e] t)(hg:Gl X (Str.ofString "max"))(hm:X.mg (Str.ofString "max")=none)(hv:bootBuiltins (Str.ofString "max")=some (.builtin "max"))
  (hr:cT 1 X.A) (hB:jj X.base X.mg) (EJ:X.env.code=.ref c) (hC:codeHdIn X.K c Pt=true) (hN:X.N[i]?=some cn) (Am:X.env.kindOf cn=some .cell)
  (nX:∀(cc c':Addr) (q:Str) (pm eR:Value) (k:Int) (u:Tok),bindArgs (kla_fn "<lambda>" q (iO x pa) (iP x cn p1 p2 p3) (gq x cn) [(cn,cc)] pm (.ref c') eR) ⟨[.int k u],[]⟩=pure [(x,.int k u)])
  (Aj:(cn == x)=false) (uf:(x == ("__debug__":Str))=false) (hd2:(cn == ("__debug__":Str))=false) (ug:(cn == ("__classdict__":Str))=false)
  (he:backTo pos (starEach [e] X.env)=(false,eval e X.env)::backTo pos (starEach [] X.env):=by rfl) (jN:(backTo pos (starEach [e] X.env)).any (·.1)=false:=by rfl) :
  PE X (.Call (.Name (Str.ofString "max") p) [e] [⟨some (Str.ofString "key"),.Lambda (iO x pa) (iP x cn p1 p2 p3) (gq x cn) pl,kp⟩] pos) (NJ X.K t i Pt pl (X.env.qual ++ "<lambda>")):=by
 intro pins s σ H Q I h
 refine uW (ko I hg hm hv ?_)
 refine callWith_kw (aJ (ha pos pins s σ H _ I h) fun us s1 ⟨xs,H1,I1,r1,q1⟩=>?_) he jN
 obtain ⟨l,cnt,xs,cs,rfl,hl,eX,hσ,hc,Ai,hT,k⟩:=q1
 obtain ⟨u,rfl,ru⟩:=vals1 r1
 cases ru
 show wpAny _ _ (evalAll [(do let v ←eval (.Lambda (iO x pa) (iP x cn p1 p2 p3) (gq x cn) pl) X.env;standAt pos;pure v)]) _ _ s1
 obtain ⟨cc,sq⟩:=I1.ok.has cn (.inl Am)
 have ki:s1.heap.IsCell cc (some (.ref cnt)):=by
  obtain ⟨m,_,hl⟩:=I1.loc
  obtain ⟨u,ru,lk⟩:=hl i cn _ hN hσ (.inr (.inl Am))
  cases ru
  rcases lk with ⟨z,_⟩ | ⟨_,c2,z,g⟩
  ·rw [Am] at z;cases z
  ·rw [sq] at z;cases z;exact g
 have EK:closureFor (gq x cn) X.env=pure [(cn,cc)]:=NB sq
 have EL:s1.heap.Ns mainGlobals X.mg:=I1.mod.glob.keeps I1.bk
 have EM:CodeHd s1.heap c Pt:=codeHd_of_K I1.dS hC
 refine wpAny_evalAll_cons (bf (kla_eval rfl ?_))
 have fin:∀(f c':Addr) (pm eR:Value) (s2:Shared) (H2:Hp),d5 Pt H1 H2→cV Pt pl (X.env.qual ++ "<lambda>") H2→Inv X pins σ H2 s2→s2.heap.IsCell cc (some (.ref cnt))→(∃ps,H1 Pt=some (.cm ps))→
   s2.heap.get? f=some (kla_obj "<lambda>" (X.env.qual ++ "<lambda>") (iO x pa) (iP x cn p1 p2 p3) (gq x cn) [(cn,cc)] pm c' eR)→s2.heap.CodeRec (.ref c') (X.env.qual ++ "<lambda>")→
   wpAny (model X.prog X.w) X.A (call (.builtin "max") [.ref l] [(Str.ofString "key",.ref f)]) (EP X pins σ Q) X.xe s2:=fun f c' pm eR s2 H2 sm st I2 NM qj hf dz=>by
  obtain ⟨ps,qj⟩:=qj
  exact NG I2 hr hf dz NM (hl.st qj sm) eX (hc.st qj sm) Ai (fun k u=>nX _ _ _ _ _ k u) Aj uf hd2 ug fun k' t s' mk I3=>⟨.int k',H2,I3,⟨_,rfl⟩,k k' H2 mk sm st⟩
 have NN:∀{b:Addr} {o:Obj} {v:Option Value},s1.heap.get? b=some o→o.data=.cell v→∀ps,H1 Pt=some (.cm ps)→b≠Pt:=fun{b o v} g d ps hP z=>by
  have:s1.heap.get? Pt=some (tabObj ps):=I1.ax Pt _ hP
  rw [z,this] at g;cases g;cases d
 rcases hT with hP | ⟨c',cP,hP,EN⟩
 ·obtain ⟨hb,EO⟩:=I1.EH hB hP
  refine kla_makeFunction (ps:=#[]) (mg:=X.mg) EK I1.ok.glob EL EJ EM (I1.ax Pt _ hP) trivial rfl EO hb fun c' eR h' tk hx um aZ qi Ak=>?_
  refine bf (rK (dm (wpAny_evalAll_nil ?_)))
  obtain ⟨H2,sm,st,I2⟩:=I1.grown (fo:=kla_obj "<lambda>" (X.env.qual ++ "<lambda>") (iO x pa) (iP x cn p1 p2 p3) (gq x cn) [(cn,cc)] ((X.mg "__name__").getD .none) c' eR) (tk:=tk) hP hx um qi Ak
  refine fin h'.objs.size c' _ eR _ H2 sm st I2 ?_ ⟨_,hP⟩ (dQ _ rfl) (qi.push _)
  obtain ⟨o,ho,hd⟩:=ki
  exact ⟨o,bO _ (hx cc o (NN ho hd _ hP) ho),hd⟩
 ·obtain ⟨hb,EO⟩:=I1.EH hB hP
  refine kla_makeFunctionHit (cv:=.ref c') (ps:=#[rawInt pl.line,rawInt pl.col,.ref c']) (mg:=X.mg) EK I1.ok.glob EL EJ EM (I1.ax Pt _ hP) trivial ?_ hb fun eR h' tk hk hsz=>?_
  ·show codeAmong pl [rawInt pl.line,rawInt pl.col,.ref c']=_
   simp [codeAmong,rawInt]
  refine bf (rK (dm (wpAny_evalAll_nil ?_)))
  have kp:∀b o,s1.heap.get? b=some o→(h'.push {cls:=.type "function",data:=.func (kla_fn "<lambda>" (X.env.qual ++ "<lambda>") (iO x pa) (iP x cn p1 p2 p3) (gq x cn) [(cn,cc)] ((X.mg "__name__").getD .none) (.ref c') eR)}).get? b=some o:=fun b o e=>bO _ (hk b o e)
  have qi:s1.heap.CodeRec (.ref c') (X.env.qual ++ "<lambda>"):=(I1.ax c' _ EN).1
  refine fin h'.objs.size c' _ eR _ H1 (fun _ _ _ e=>e) (.inr ⟨c',cP,hP,EN⟩) (I1.kept (t':=tk) kp) ?_ ⟨_,hP⟩ (dQ _ rfl) (qi.keeps kp)
  obtain ⟨o,ho,hd⟩:=ki
  exact ⟨o,kp _ _ ho,hd⟩
section
variable {prog:Program} {w:World} {A:Around} {E:aI} {s:Shared}
theorem NP:typeLookup (.type "list_reverseiterator") "__len__"=pure none:=by rw [typeLookup_type,builtinLookup_eq_fast];kernel_rfl
theorem NQ:typeLookup (.type "list_reverseiterator") "__length_hint__"=pure (some (.builtin "list_reverseiterator.__length_hint__")):=by rw [typeLookup_type,builtinLookup_eq_fast];kernel_rfl
theorem NR{r:Addr}{Q:Bool→Shared→Prop}(hT:s.TypeIs (.ref r) "list_reverseiterator")(h:Q false s):wpAny (model prog w) A (Builtin.List.listLengthHint (.ref r)) Q E s:=by
 unfold Builtin.List.listLengthHint;refine bf (wpAny_specialOf hT NP ?_);refine pI (fun jl=>absurd jl (by decide)) (fun _=>?_)
 refine pI (fun jl=>absurd jl (by decide)) (fun _=>?_)
 refine bf (wpAny_specialOf hT NQ ?_);generalize ER:("list_reverseiterator.__length_hint__":String)=NS
 wp_delta
 rw [show splitId NS=some ("list_reverseiterator","__length_hint__") from by subst ER;decide +kernel]
 subst ER;refine bf (wpAny_isInstance (T:="list_reverseiterator") (b:=true) hT (by rw [isSubtype_type];kernel_rfl) ?_)
 refine pI (fun jl=>absurd jl (by decide)) (fun _=>?_)
 refine pI (fun _=>?_) (fun jl=>absurd (by decide +kernel) jl)
 refine pI (fun jl=>absurd jl (by decide +kernel)) (fun _=>?_)
 exact dm h
def wN(its acc:Array Value):Prop:=acc.toList=its.toList.reverse
variable {its:Array Value}
theorem NT{acc:Array Value}(h:ItemsOf (fun i v=>its[its.size-1-i]?=some v) acc its.size):wN its acc:=by
 refine rT fun i=>?_;have ha:=h.1;by_cases hi:i<acc.size
 ·have e1:=h.2 i _ (Array.getElem?_eq_getElem hi)
  rw [uX,Array.getElem?_eq_getElem hi,List.getElem?_reverse (by simpa using (by omega:i<its.size)),fb,uX,e1]
 ·rw [uX,Array.getElem?_eq_none (by omega),rV (by rw [List.length_reverse,fb];omega)]
variable {R:Result→Shared→Prop} {it:Addr}
theorem NU(hh:A.handled=none)(hit:s.heap.IsRevIter it l ((its.size:Int)-1))(hl:s.heap.IsList l its)(eX:l≠it)(hlen:its.size≤2 ^ 24)(S:Addr)(res:Value)(c₀:Nat)
  (hS:s.heap.get? S=some {cls:=.type "list",data:=.seq #[] c₀}) (qk:S≠l)
  (hR:∀h' tk gH c',(∀b o,b≠S→b≠it→s.heap.get? b=some o→h'.get? b=some o)→h'.get? S=some {cls:=.type "list",dict:=none,data:=.seq gH c',slots:=#[]}→wN its gH→R (.ok (.ret res)) {s with heap:=h',toks:=tk}) :
  wpAny (model prog w) A.in1 (Builtin.List.listExtendWith (.ref S) (.ref it) res)
   (fun fin s'=>match fin with | .done f=>R (.ok f) s' | .again c'=>c'.quiet=true∧codeAny (model prog w) A c' R s') (fun e s'=>R (.error e) s') s:=by
 have hT:=hit.typeIs;have wO:S≠it:=fun e=>by obtain ⟨o,ho,hc,An⟩:=hit;rw [e,ho] at hS;cases hS;cases An
 have NV:S∉[it,l]:=fun NW=>by
  rcases bE.mp NW with e | e;·exact wO e
  ·exact qk (dq.mp e)
 have W:=(Walks.listRev (prog:=prog) (w:=w) (A:=A.in1) hh it l eX its).toS
 have key:∀(h:Heap) (c₁ tk:Nat),h.IsRevIter it l ((its.size:Int)-1-((0:Nat):Int))∧h.IsList l its→(∀b o,b≠S→s.heap.get? b=some o→h.get? b=some o)→
   h.get? S=some {cls:=.type "list",data:=.seq #[] c₁}→codeAny (model prog w) A (.builtin "list.extend.loop" ⟨[.ref S,.ref it,res],[]⟩) R {s with heap:=h,toks:=tk}:=by
  intro h c₁ tk hit hk NX;refine codeAny_extend_loopS W (by rw [mK];omega) S NV res its.size 0 _ #[] c₁ rfl (bD _) ⟨bD _,hit⟩ NX (ItemsOf.nil _) fun s' gH c' ES j4 nY=>?_
  rw [Moved.eq_with ES];refine hR s'.heap s'.toks gH c' (fun b o hb ud e=>ES.heap b o (fun Ao=>?_) (hk b o hb e)) j4 (NT nY);rcases bE.mp Ao with e' | Ao;·exact hb e'
  ·exact ud (dq.mp Ao)
 have NY:s.heap.IsRevIter it l ((its.size:Int)-1-((0:Nat):Int)):=by
  have e:(its.size:Int)-1-((0:Nat):Int)=(its.size:Int)-1:=by omega
  rw [e];exact hit
 unfold Builtin.List.listExtendWith;refine bf (wpAny_typeOf (T:="list_reverseiterator") hT ?_);simp only [show Builtin.List.listSameRef (.ref S) (.ref it)=false from by simp [Builtin.List.listSameRef,wO],show (Value.type "list_reverseiterator" == Value.type "list")=false from by decide,show (Value.type "list_reverseiterator" == Value.type "tuple")=false from by decide,Bool.or_false,Bool.false_eq_true,if_false]
 refine bf (wpAny_pyIter_revIter hit ?_);refine bf (o4 (NR hT ?_));refine pI (fun jl=>absurd jl (by decide)) (fun _=>dm ⟨plainId_quiet F.plain_extend_loop _,key _ c₀ _ ⟨NY,hl⟩ (fun b o _ e=>e) hS⟩)
theorem NZ(hh:A.handled=none)(hit:s.heap.IsRevIter it l ((its.size:Int)-1))(hl:s.heap.IsList l its)(eX:l≠it)(hlen:its.size≤2 ^ 24)(S:Addr)
  (hS:s.heap.get? S=some {cls:=.type "list",data:=.seq #[]}) (qk:S≠l)
  (hR:∀h' tk gH c',(∀b o,b≠S→b≠it→s.heap.get? b=some o→h'.get? b=some o)→h'.get? S=some {cls:=.type "list",dict:=none,data:=.seq gH c',slots:=#[]}→wN its gH→R (.ok (.ret .none)) {s with heap:=h',toks:=tk}) :
  wpAny (model prog w) A.in1 (Builtin.«list.__init__» ⟨[.ref S,.ref it],[]⟩)
   (fun fin s'=>match fin with | .done f=>R (.ok f) s' | .again c'=>c'.quiet=true∧codeAny (model prog w) A c' R s') (fun e s'=>R (.error e) s') s:=by
 have wO:S≠it:=fun e=>by
  obtain ⟨o,ho,hc,An⟩:=hit
  rw [e,ho] at hS
  cases hS
  cases An
 show wpAny _ _ (do let old ←Builtin.List.listItems (.ref S);Builtin.List.listUpdate (.ref S) (fun _=>#[]);letGo old.toList.reverse;Builtin.List.listExtendWith (.ref S) (.ref it) .none) _ _ s
 refine bf ?_
 unfold Builtin.List.listItems
 refine bf (wpAny_seqItems hS rfl (dm ?_))
 show wpAny _ _ (updateSeq S (fun _=>#[]) >>= fun _=>letGo (#[]:Array Value).toList.reverse >>= fun _=>Builtin.List.listExtendWith (.ref S) (.ref it) .none) _ _ s
 refine bf (wpAny_updateSeq hS rfl ?_)
 have N0:=Heap.get?_update_self (Obj.mapSeq (fun _=>(#[]:Array Value))) hS rfl
 have Ap:∀b o,b≠S→s.heap.get? b=some o→(s.heap.update S (Obj.mapSeq (fun _=>(#[]:Array Value)))).get? b=some o:=fun b o hb e=>(ye _ _ (Ne.symm hb)).trans e
 refine bf (wpAny_letGo ?_)
 exact NU (s:={s with heap:=s.heap.update S (Obj.mapSeq (fun _=>(#[]:Array Value)))}) hh (hit.at fun o e=>Ap it o (Ne.symm wO) e) (hl.at fun o e=>Ap l o (Ne.symm qk) e) eX hlen S .none _ N0 qk fun h' tk gH c' hk j4 nY=>hR h' tk gH c' (fun b o hb ud e=>hk b o hb ud (Ap b o hb e)) j4 nY
theorem N1{Q:aI}(hh:A.handled=none)(hit:s.heap.IsRevIter it l ((its.size:Int)-1))(hl:s.heap.IsList l its)(eX:l≠it)(hlen:its.size≤2 ^ 24)
  (hQ:∀h' tk gH c',(∀b o,b≠it→s.heap.get? b=some o→h'.get? b=some o)→h'.get? s.heap.objs.size=some {cls:=.type "list",dict:=none,data:=.seq gH c',slots:=#[]}→wN its gH→Q (.ref s.heap.objs.size) {s with heap:=h',toks:=tk}) :
  wpAny (model prog w) A (call (.type "list") [.ref it]) Q E s:=by
 refine callType_codes (Q₁:=fun obj s₁=>obj=.ref s.heap.objs.size∧s₁={s with heap:=s.heap.push {cls:=.type "list",data:=.seq #[]}}) F.called_list (F.typeCall_list_1 _) F.entry_list_init (code_list_new _ ⟨rfl,rfl⟩) fun obj s₁ h₁=>?_;obtain ⟨rfl,rfl⟩:=h₁;have hS:(s.heap.push {cls:=.type "list",data:=.seq #[]}).get? s.heap.objs.size=some {cls:=.type "list",data:=.seq #[]}:=dQ _ rfl;have qk:s.heap.objs.size≠l:=fun e=>by obtain ⟨o,ho,_⟩:=hl;exact d7 _ (e▸aS ho)
 refine ⟨⟨_,hS,rfl⟩,F.args_list_init_2 _ _,NZ (s:={s with heap:=s.heap.push {cls:=.type "list",data:=.seq #[]}}) (A:=A.in1) hh (hit.at fun o e=>bO _ e) (hl.at fun o e=>bO _ e) eX hlen _ hS qk fun h' tk gH c' hk j4 nY=>?_⟩;exact ⟨rfl,hQ h' tk gH c' (fun b o hb e=>hk b o (bR (aS e)) hb (bO _ e)) j4 nY⟩
end
section
variable {X:Cx}
def N2(K:aD)(ta:TA):TE:=fun σ H Q=>ta σ H fun vs H1=>∃(l:Addr) (xs:List V),vs=[.ref l]∧aU K H1 l xs∧xs.length≤10000∧∀D,H1 D=none→Q (.ref D) (upd H1 D (.lst xs.reverse))
theorem N3{a:Expr}{ta:TA}{pos p2 wQ:Pos}(hc:X.calm=true)(hg:Gl X "list")(hm:X.mg "list"=none)(N4:Gl X "reversed")(kU:X.mg "reversed"=none)(ha:PA X [a] ta)(hs:starEach [a] X.env=[(false,eval a X.env)]:=by rfl)
  (ng:starEach [.Call (.Name "reversed" p2) [a] [] wQ] X.env=[(false,eval (.Call (.Name "reversed" p2) [a] [] wQ) X.env)]:=by rfl):PE X (.Call (.Name "list" p) [.Call (.Name "reversed" p2) [a] [] wQ] [] pos) (N2 X.K ta):=by
 intro pins s σ H Q I h;refine PyProof.Rows.Call_Name1 (ko I hg hm boot_list (callWith_type1 ?_)) ng;refine Call_ (ko I N4 kU boot_reversed (rM (aJ (ha wQ pins s σ H _ I h) fun us s1 ⟨vs,H1,I1,r1,q1⟩=>?_) hs rfl));obtain ⟨l,xs,e,hq,hx,q⟩:=q1;subst e;cases r1 with
 | cons r rr=>
  cases rr;cases r;obtain ⟨its,rv,pl,hz⟩:=I1.list hq;have uj:=rv.length;obtain ⟨o,n,go,c1,c2,c3⟩:=id pl;refine call_reversed_list pl.isList ?_;refine N1 (its:=its.toArray) (l:=l) (I1.ok.hd hc) ⟨_,dQ _ rfl,rfl,rfl⟩ ?_ (bR (aS go)) (by rw [bS];omega) fun h' tk acc c hk hD nY=>?_
  ·exact (show PlainL _ l _ from ⟨o,n,bO _ go,c1,c2,c3⟩).isList
  ·have I2:Inv X pins σ H1 {s1 with heap:=s1.heap.push (revObj l ((its.toArray.size:Int)-1))}:=I1.kept (t':=s1.toks) fun b o e=>bO _ e
   have kp:∀b o,s1.heap.get? b=some o→h'.get? b=some o:=fun b o e=>hk b o (bR (aS e)) (bO _ e);have hsz:s1.heap.objs.size≤(s1.heap.push (revObj l ((its.toArray.size:Int)-1))).objs.size:=by rw [Heap.size_push];exact hU _
   refine ⟨.ref _,_,I1.laid (o:=.lst xs.reverse) kp hsz ⟨?_,acc.toList,c,?_,?_⟩,rfl,q _ (I1.ax.fresh hsz)⟩
   ·rw [List.length_reverse]
    exact bI hx (by decide)
   ·have e:acc.toList=its.reverse:=by rw [nY]
    rw [e];exact rv.reverse
   ·rw [hD]
end
theorem fv.wL{base:Heap}{qual:Str}{st:Stmt}{N ps:List Str}(F:fv K x qual st f fd)(ET:tabIn K fd Pt=true)(S:cf N ps (bo st))(len:∀vs H Q E,sp vs H Q E→vs.length=ps.length)
  (i4:∀(c:Addr) (A:Around) (outer:List Env) (s:Shared) (H:Hp) (vs:List V) (Q:VK) (E:XK),codeHdIn K c Pt=true→cT k (A.deeper (envOfC qual (bo st) s.heap.objs.size f (.ref c)))→sp vs H Q E→
   ∃t,ei (ic cC P w K mg base N qual (bo st) f (.ref c) A outer s H E).kq (jP st) t∧t {nx:=fun _ H'=>Q .aM H',rt:=Q} (start N vs) H):bK P w K mg base cC (k+1) f fd ps sp:=by
 obtain ⟨oc,od,kV,doc,pm,an,bx,ct,i3,rfl,lk,dz⟩:=F.ex;cases bx with
 | ref c=>have h2:codeHdIn K c Pt=true:=ET;refine yP lk dz S len fun A outer s H vs Q E hr jO=>?_;obtain ⟨t,h,q⟩:=i4 c A outer s H vs Q E h2 hr jO;exact ⟨t,h.kq,q⟩
 | _=>cases ET
def wR(K:aD)(Pt:Addr):Sp:=fun vs H Q E=>H Pt=some (.cm #[])∧My.JT K vs H Q E
theorem N5{l:PySem.W.OpenLaw}{q:Program}{loose:List Str}{XP:(Str→Option Value)→Heap→Prop}{YP:World→Heap→Prop}{d:DefRec}{K:Params→PySem.W.Frag}(hn:l.most=some 63)(sU:d.params.defaults=[])(hr:cT k callerA)
  (hY:∀(w:World) (h:Heap),YP w h→(K w.params).In h) (hP:∀(w:World) (h:Heap),YP w h→h.get? Pt=some (tabObj #[]))
  (F:∀(w:World) (mg:bV) (fa:Addr) (h:Heap),(K w.params).In h→h.Ns mainGlobals mg→mg d.name=some (.ref fa)→
   (K w.params).lookup Pt=none∧(∃ql,tabIn (K w.params) ql Pt=true)∧∃fd:FuncData,(∀(s:Shared) (u:Value),BindsTo s fd ⟨[u],[]⟩ [("script",u)])∧∀base:Heap,(K w.params).In base→base.Ns mainGlobals mg→jj base mg→bK l.prog w (K w.params) mg base cC k fa fd ["script"] (wR (K w.params) Pt)) :
  PySem.W.WalkO q loose XP YP l.row.toRowW d [] (fun f vs=>PySem.call f vs):=by
 refine Att.Jk hn sU fun w s₀ s₁ mg mb fa o pm cd doc a vs ns G Y ho hd dz sV yW hints hlen hg=>?_;have KX:=hY w _ Y;obtain ⟨Af,⟨ql,wU⟩,fd,hb,hF⟩:=F w mg fa _ KX G.T.g sV;have hT:=hP w _ Y;have Ag:isCodeTable s₁.heap Pt:=by
  unfold tabIn at wU
  split at wU
  ·exact ((codeHd_of_K KX wU).tab hT).isCodeTable
  ·cases wU
 obtain ⟨bm,ob,b1,b2,b3,b4,b5,b6⟩:=G.T.bmain;exact Nv KX G.T.g G.T.b G.T.builtins G.T.nolimit hg hT Af Ag yW hints (bI hlen (by decide)) hr ⟨bm,ob,b1,b2,b3,b4,b5,b6⟩ hF hb (fun H hO hP hS=>⟨hP,a,ns,rfl,hS,hlen,fun _=>rfl⟩) fun H e s' z=>z
theorem N6{e:PySem.Expr}:PE X e (fun _ _ _=>False):=fun _ _ _ _ _ _ h=>h.elim
end L2
namespace My
open PySem L2
abbrev kW:Str:=(Str.ofString "likely_order"++Str.ofString ".<locals>.")++Str.ofString "<lambda>"
def d6(L:ay)(P:List Nat)(a:Nat):Nat:=(P.filter (rL L a)).length
variable {P:List Nat}
theorem N7{L:ay}{a b:Nat}:d6 L (P++[b]) a=d6 L P a+if rL L a b=true then 1 else 0:=by
 unfold d6;rw [lh,dF]
 congr 1
 by_cases h:rL L a b=true;·rw [ae h,List.filter_cons_of_pos h];rfl
 ·rw [aa h,List.filter_cons_of_neg h];rfl
variable {n:Nat} {r:Nat→Nat→Bool}
theorem jZ.nil:jZ n r []:=fun A b B e=>by have:=cW List.length e;simp at this
theorem jZ.snoc{p:Nat}(h:jZ n r P)(hp:∀a,a<n→a∉P→(P.filter (r a)).length≤(P.filter (r p)).length):jZ n r (P++[p]):=fun A b B e a an aA=>by
 rcases List.eq_nil_or_concat B with rfl | ⟨B',x,rfl⟩
 ·have e2:P++[p]=A++[b]:=e
  obtain ⟨rfl,e3⟩:=ve e2 rfl;cases e3;exact hp a an aA
 ·have e2:P++[p]=(A++b::B')++[x]:=by rw [e];simp
  obtain ⟨e3,_⟩:=ve e2 rfl;exact h A b B' e3 a an aA
theorem N8{α:Type}{j:Nat}{g:Nat→α}{v:α}:((List.range n).map g).set j v=(List.range n).map fun a=>if a=j then v else g a:=by
 refine rT fun i=>?_;rw [List.getElem?_set,aK,dR,bq,bq];by_cases hi:i<n
 ·rw [j9 hi]
  by_cases e:j=i
  ·subst e
   simp [hi]
  ·rw [aa e]
   simp [Ne.symm e]
 ·rw [rV (by rw [dR];omega)]
  by_cases e:j=i
  ·subst e
   simp [hi]
  ·rw [aa e]
   rfl
theorem getD_map{y:Nat}{g:Nat→Int}(h:y<n):((List.range n).map g).getD y 0=g y:=by rw [dG,bq,j9 h];rfl
def N9(Pt:Addr)(pl:Pos):Sp:=fun vs H Q _=>∃(tp:Addr) (n:Nat) (L:ay),vs=[.ref tp]∧cE H tp n L∧jX n L∧n≤1000∧cV Pt pl kW H ∧
 ∀(H':Hp) (D:Addr) (Pk:List Nat),d5 Pt H H'→cV Pt pl kW H'→H D=none→H' D=some (.lst (Pk.reverse.map fun k:Nat=>V.int (k:Int)))→Pk.Perm (List.range n)→jZ n (rL L) Pk→Q (.ref D) H'
end My
namespace L2
open PySem
variable {Pt:Addr} {pl:Pos} {q:Str} {H H':Hp}
theorem cV.mono(h:cV Pt pl q H)(s:ak H H'):cV Pt pl q H':=by
 rcases h with h | ⟨c,n,h1,h2⟩;·exact .inl (s _ _ h)
 ·exact .inr ⟨c,n,s _ _ h1,s _ _ h2⟩
theorem cV.at(h:cV Pt pl q H):∃ps,H Pt=some (.cm ps):=by
 rcases h with h | ⟨c,n,h1,h2⟩;·exact ⟨_,h⟩
 ·exact ⟨_,h1⟩
theorem cV.off{a:Addr}{u:HO}(h:cV Pt pl q H)(ea:H a=some u)(n1:∀ps,u≠.cm ps)(n2:∀φ,u≠.ext φ)(s:∀b o,b≠a→H b=some o→H' b=some o):cV Pt pl q H':=by
 have nP:∀ps,H Pt=some (.cm ps)→Pt≠a:=fun ps e z=>by rw [z,ea] at e;exact n1 ps (Option.some.inj e)
 rcases h with h | ⟨c,n,h1,h2⟩;·exact .inl (s _ _ (nP _ h) h)
 ·exact .inr ⟨c,n,s _ _ (nP _ h1) h1,s _ _ (fun z=>by rw [z,ea] at h2;exact n2 _ (Option.some.inj h2)) h2⟩
end L2
namespace My
open PySem L2
def N_(Pt:Addr)(pl:Pos):Sp:=fun vs H Q _=>∃(tp:Addr) (n:Nat) (L:ay) (o0:List Nat),vs=[.ref tp]∧cE H tp n L∧L.Pairwise lexLt∧(∀z∈L,0≤z.1∧z.1<z.2∧z.2<(n:Int))∧n≤30∧o0.Perm (List.range n)∧ck n L o0 L∧cV Pt pl kW H ∧
 ∀(H':Hp) (T D:Addr) (o:List Nat),d5 Pt H H'→cV Pt pl kW H'→H T=none→H D=none→H' T=some (.tup [.str "order",.ref D])→H' D=some (.lst (o.map fun k:Nat=>V.int (k:Int)))→o.Perm (List.range n)→ck n L o L→Q (.ref T) H'
variable {n:Nat} {L:ay}
theorem Aq{Pt t:Addr}{H H':Hp}{ps:Array Value}(h:cE H t n L)(hP:H Pt=some (.cm ps))(s:d5 Pt H H'):cE H' t n L:=by
 have at':∀{b:Addr} {xs:List V},H b=some (.tup xs)→H' b=some (.tup xs):=fun{b xs} e=>s b _ (fun z=>by rw [z,hP] at e;cases e) e
 obtain ⟨lt,us,e1,e2,e3,e4⟩:=h;exact ⟨lt,us,at' e1,at' e2,e3,fun k x p h1 h2=>let ⟨b,q1,q2⟩:=e4 k x p h1 h2;⟨b,q1,at' q2⟩⟩
theorem EU{r:Nat→Nat→Bool}{m:Nat→Nat}:∀{l:List Nat},Good r m l→(l.map m).sum=p2 (gp r) l
 | [],_=>rfl
 | x::l,⟨h1,_,h3⟩=>by rw [cQ,d_,EU h3,h1];rfl
variable {M:ay} {o:List Nat}
theorem Oa(ho:o.Perm (List.range n))(f:ck n L o M){g:Nat→List Nat}(hg:∀p,p<n→jd n o p (g p)∧me n L o p (g p)) :
  ((List.range n).map fun x=>(g x).length).sum=M.length:=by
 have nd:M.Nodup:=f.1.imp fun h e=>by subst e;unfold lexLt at h;omega
 have gs:=EU (z_ ho f hg o [] rfl);rw [←(ho.map fun x=>(g x).length).sum_nat,gs,qe nd f.lt,z7 (fun x y=>by unfold gp;rw [kP]) ho]
theorem Ob(ho:o.Perm (List.range n))(f:ck n L o M)(nl:L.Nodup)(lt:∀z∈L,0≤z.1∧z.1<z.2∧z.2<(n:Int)):L.length≤M.length:=by
 have nd:M.Nodup:=f.1.imp fun h e=>by subst e;unfold lexLt at h;omega
 have sub:∀a b:Nat,rL L a b=true→rL M a b=true:=by
  have go:∀a b:Nat,((a:Int),(b:Int))∈L→rL M a b=true:=fun a b h=>by
   have:=lt _ h;have ha:a<n:=by omega
   have hb:b<n:=by omega
   have ne:=je ho ha hb (by omega)
   by_cases ab:o.idxOf a<o.idxOf b;·exact (iL f ha hb ab).mpr (.one ⟨ha,hb,.inl h⟩)
   ·rw [kP]
    exact (iL f hb ha (by omega)).mpr (.one ⟨hb,ha,.inr h⟩)
  intro a b h;rcases g8.mp h with h | h;·exact go a b h
  ·rw [kP]
   exact go b a h
 have h1:p2 (gp (rL L)) (List.range n)≤p2 (gp (rL M)) (List.range n):=z8 fun x _ y _=>by
  unfold gp;by_cases h:rL L x y
  ·rw [ae h,ae (sub x y h)]
   exact av _
  ·rw [aa h]
   exact bD _
 rw [qe nl lt,qe nd f.lt];exact h1
end My
namespace L2
open PySem My
variable {Pt P a:Addr} {pl:Pos} {q:Str} {H H':Hp}
theorem cV.Ar(h:cV Pt pl q H)(p:ba H P a)(s:aB P H H'):cV Pt pl q H':=by
 obtain ⟨x,y,eP,_⟩:=p;have ne:∀{b:Addr} {o:HO},H b=some o→(∀xs,o≠.lst xs)→b≠P:=fun{b o} e n z=>by rw [z,eP] at e;exact n _ (Option.some.inj e).symm
 rcases h with h | ⟨c,n,h1,h2⟩;·exact .inl (s.at (ne h fun _ z=>by cases z) h)
 ·exact .inr ⟨c,n,s.at (ne h1 fun _ z=>by cases z) h1,s.at (ne h2 fun _ z=>by cases z) h2⟩
theorem cV.Oc(h:cV Pt pl q H)(p:ba H P a):P≠Pt:=fun z=>by obtain ⟨x,y,eP,_⟩:=p;obtain ⟨ps,e⟩:=h.at;rw [z,e] at eP;cases eP
theorem d5.iy(s:d5 Pt H H')(n:P≠Pt)(p:ba H P a):ba H' P a:=by obtain ⟨x,y,eP,r⟩:=p;exact ⟨x,y,s _ _ n eP,r⟩
theorem d5.er(s:d5 Pt H H'):d5 Pt (My.er P H) (My.er P H'):=fun b o n e=>by
 unfold My.er at e ⊢;by_cases z:b=P;·rw [ae z] at e;cases e
 ·rw [aa z] at e ⊢
  exact s b o n e
end L2
namespace My
open PySem L2
def wV(P D:Addr)(n:Nat)(L:ay)(H:Hp)(y:V):Prop:=
 (y=.aM∧∀o:List Nat,o.Perm (List.range n)→¬ck n L o L)∨∃(l:Addr) (o:List Nat),y=.ref l∧l≠P∧l≠D∧H l=some (.lst (o.map fun k:Nat=>V.int (k:Int)))∧o.Perm (List.range n)∧ck n L o L
theorem wV.bA{P D:Addr}{n:Nat}{L:ay}{H H':Hp}{y:V}(h:wV P D n L H y)(k:∀b o,b≠D→b≠P→H b=some o→H' b=some o):wV P D n L H' y:=by
 rcases h with h | ⟨l,o,e,n1,n2,g,r⟩;·exact .inl h
 ·exact .inr ⟨l,o,e,n1,n2,k _ _ n2 n1 g,r⟩
end My
set_option maxRecDepth 100000
set_option maxHeartbeats 4000000
namespace My
open PySem L2
def top(i:Nat):Stmt:=PySem.Challenge.pw_bandwright_k24_whole_perfect_orders_alik.main.body.getD i (.Pass ⟨0,0,0,0⟩)
abbrev wW:Stmt:=top 4
abbrev wX:Stmt:=top 6
abbrev wY:Stmt:=top 8
abbrev wZ:Stmt:=top 9
abbrev w5:Stmt:=top 10
abbrev w6:Stmt:=top 11
abbrev w9:Stmt:=top 12
abbrev w_:Stmt:=top 13
abbrev xb:Stmt:=top 14
abbrev xc:Stmt:=top 15
abbrev xf:Stmt:=top 17
abbrev xg:Stmt:=top 18
abbrev As:Stmt:=top 19
abbrev Au:Stmt:=top 20
abbrev Av:Stmt:=top 21
abbrev Aw:Stmt:=top 22
abbrev xh:Stmt:=top 23
abbrev xi:Stmt:=top 25
abbrev xj:Stmt:=top 26
abbrev xl:Stmt:=top 27
abbrev xm:Stmt:=top 28
abbrev xo:Stmt:=top 29
abbrev xq:Stmt:=top 30
abbrev xr:Stmt:=top 31
abbrev xt:Stmt:=top 32
abbrev xu:Stmt:=top 33
abbrev xv:Stmt:=top 34
abbrev xw:Stmt:=top 35
set_option genInjectivity false in
set_option genSizeOf false in
structure Ax where
 nZ:Addr
 qm:FuncData
 n4:Addr
 qo:FuncData
 n5:Addr
 qp:FuncData
 n6:Addr
 qq:FuncData
 n8:Addr
 qr:FuncData
 n_:Addr
 qt:FuncData
 og:Addr
 qu:FuncData
 oh:Addr
 qv:FuncData
 oi:Addr
 qw:FuncData
 oj:Addr
 qx:FuncData
 om:Addr
 qy:FuncData
 oo:Addr
 mj:FuncData
 qz:Addr
 uo:FuncData
 qA:Addr
 ur:FuncData
 qB:Addr
 uu:FuncData
 qC:Addr
 uv:FuncData
 oq:Addr
 qD:FuncData
 ot:Addr
 qE:FuncData
 ou:Addr
 qF:FuncData
 oz:Addr
 qG:FuncData
 oA:Addr
 qH:FuncData
 oB:Addr
 qI:FuncData
 oC:Addr
 qJ:FuncData
 oD:Addr
 qK:FuncData
 oE:Addr
 qL:FuncData
 oF:Addr
 qM:FuncData
 oG:Addr
 qN:FuncData
 mq:Addr
 oH:FuncData
 jm:Addr
abbrev cF (mg:bV) (x:Str) (f:Addr):Prop:=mg x=some (.ref f)
abbrev Od (K:aD) (a:Addr):Prop:=PySem.W.excIn K a [.type "ValueError",.type "Exception",.type "BaseException",.type "object"] "ValueError.__new__"=true
structure Txt (K:aD) (mg:bV) (t:Ax):Prop where
 qO:aW K "is_whole" wW t.nZ t.qm
 EV:Binds K t.qm ["thing"] []
 EW:cF mg "is_whole" t.nZ
 oI:aW K "neighbours" wX t.n4 t.qo
 Ay:Binds K t.qo ["shape"] []
 Az:cF mg "neighbours" t.n4
 qQ:aW K "is_order" wY t.n5 t.qp
 EX:Binds K t.qp ["thing","n"] []
 EY:cF mg "is_order" t.n5
 qR:aW K "check_order" wZ t.n6 t.qq
 EZ:Binds K t.qq ["order","n"] []
 E1:cF mg "check_order" t.n6
 qS:aW K "turns_of" w5 t.n8 t.qr
 E2:Binds K t.qr ["order"] []
 E3:cF mg "turns_of" t.n8
 qT:aW K "link_all" w6 t.n_ t.qt
 E4:Binds K t.qt ["linked","places"] []
 E5:cF mg "link_all" t.n_
 mr:aW K "later" w9 t.og t.qu
 xx:Binds K t.qu ["shape","order"] []
 xy:cF mg "later" t.og
 oJ:aW K "filled" w_ t.oh t.qv
 AA:Binds K t.qv ["shape","order"] []
 AB:cF mg "filled" t.oh
 qU:aW K "place_deeds" xb t.oi t.qw
 E6:Binds K t.qw ["many"] []
 E7:cF mg "place_deeds" t.oi
 mw:aW K "deeds" xc t.oj t.qx
 xA:Binds K t.qx ["shape","order"] []
 xB:cF mg "deeds" t.oj
 oK:aW K "is_perfect" xf t.om t.qy
 AD:Binds K t.qy ["shape","order"] []
 AE:cF mg "is_perfect" t.om
 qV:aW K "likely_order" xg t.oo t.mj
 E8:Binds K t.mj ["shape"] []
 E9:cF mg "likely_order" t.oo
 xC:aW K "walk_back" As t.qz t.uo
 Oe:Binds K t.uo ["whence","place"] []
 Of:cF mg "walk_back" t.qz
 xD:aW K "unmet" Au t.qA t.ur
 Og:Binds K t.ur ["linked","whence","place"] []
 Oh:cF mg "unmet" t.qA
 xE:aW K "ring_over" Av t.qB t.uu
 Oi:Binds K t.uu ["linked","place","start"] []
 Oj:cF mg "ring_over" t.qB
 xF:aW K "bare_ring" Aw t.qC t.uv
 Ol:Binds K t.uv ["shape"] []
 Om:cF mg "bare_ring" t.qC
 qW:aW K "perfect" xh t.oq t.qD
 E_:Binds K t.qD ["shape"] []
 Fb:cF mg "perfect" t.oq
 qX:aW K "_law_fill" xi t.ot t.qE
 Fc:Binds K t.qE ["_law_cell","_law_at"] []
 Fd:cF mg "_law_fill" t.ot
 fE:aW K "_law_next" xj t.ou t.qF
 iQ:Binds K t.qF ["_law_pen","_law_many"] []
 iR:cF mg "_law_next" t.ou
 oM:aW K "_law_turned" xl t.oz t.qG
 AF:Binds K t.qG ["_law_pen","_law_some"] []
 AG:cF mg "_law_turned" t.oz
 qY:aW K "_law_tied_by" xm t.oA t.qH
 Fe:Binds K t.qH ["_law_pen","_law_way","_law_size","_law_wide","_law_i","_law_j"] []
 Ff:cF mg "_law_tied_by" t.oA
 qZ:aW K "_law_grown_links" xo t.oB t.qI
 Fg:Binds K t.qI ["_law_pen","_law_size"] []
 Fh:cF mg "_law_grown_links" t.oB
 q8:aW K "_law_drawn" xq t.oC t.qJ
 Fi:Binds K t.qJ ["_law_pen","_law_most"] []
 Fj:cF mg "_law_drawn" t.oC
 q_:aW K "_law_named" xr t.oD t.qK
 Fl:Binds K t.qK ["_law_size","_law_links","_law_names"] []
 Fm:cF mg "_law_named" t.oD
 rd:aW K "_law_beside" xt t.oE t.qL
 Fn:Binds K t.qL ["_law_shape"] []
 Fo:cF mg "_law_beside" t.oE
 rf:aW K "_law_free" xu t.oF t.qM
 Fp:Binds K t.qM ["_law_beside_here","_law_left"] []
 Fq:cF mg "_law_free" t.oF
 rg:aW K "_law_perfect" xv t.oG t.qN
 Fs:Binds K t.qN ["_law_pen","_law_shape"] []
 Ft:cF mg "_law_perfect" t.oG
 rh:aW K "law" xw t.mq t.oH
 Oo:Binds K t.oH ["script"] []
 Fu:cF mg "law" t.mq
 Fv:cF mg "NoOrder" t.jm
 Oq:mg "ValueError"=none
 Fw:mg "all"=none
 Ot:mg "any"=none
 Fx:mg "bool"=none
 AH:mg "enumerate"=none
 Fy:mg "int"=none
 xG:mg "isinstance"=none
 jo:mg "len"=none
 kX:mg "list"=none
 xH:mg "max"=none
 AI:mg "min"=none
 gI:mg "range"=none
 Fz:mg "reversed"=none
 Ou:mg "set"=none
 uw:mg "sorted"=none
 AJ:mg "sum"=none
 AK:mg "tuple"=none
 Ov:mg "zip"=none
 FA:Od K t.jm
 tab:L2.tabIn K t.mj 108=true
 FC:K.lookup 108=none
section
variable {P:Program} {w:World} {K:aD} {mg:bV} {base:Heap} {t:Ax}
theorem Ow:cf ["thing"] ["thing"] (bo wW):=de
theorem Ox(T:Txt K mg t):bK P w K mg base cC 1 t.nZ t.qm ["thing"] JS:=by
 have S:=Ow;refine T.qO.eJ S (fun _ _ _ _ H _ Q _ hr h=>?_);obtain ⟨v,rfl,ha,k⟩:=h;refine ⟨_,(aO (bZ (Hi (df (y4 (K:=K)) rfl T.xG boot_isinstance (aj (pv 0) (aj (yw (v:=.ty "int") rfl T.Fy boot_int rfl) au))) (B2 (Hk (df (y4 (K:=K)) rfl T.xG boot_isinstance (aj (pv 0) (aj (yw (v:=.ty "bool") rfl T.Fx boot_bool rfl) au)))))))),?_⟩;obtain ⟨Ty,ty,k1,k2,_⟩:=ha.yY (K:=K);refine ⟨_,rfl,_,_,_,_,rfl,rfl,ty,k1,_,rfl,dM (fun h1=>?_) (fun h1=>?_)⟩
 ·refine ⟨_,rfl,_,_,_,_,rfl,rfl,ty,k2,_,rfl,?_⟩
  have e:(!pX v)=pW v:=by
   cases h2:pX v with
   | true=>rw [JR h2];rfl
   | false=>rw [h2,Bool.or_false] at h1;rw [h1];rfl
  show Q (.bl (!pX v)) H;rw [e];exact k
 ·have e:pW v=false:=by
   cases h2:pW v with
   | true=>rw [h2] at h1;exact absurd rfl h1
   | false=>rfl
  rw [e] at k;exact k
theorem Oy:cf ["shape","linked","i","j"] ["shape"] (bo wX):=de
theorem FD(T:Txt K mg t):bK P w K mg base cC 1 t.n4 t.qo ["shape"] LZ:=by
 have S:=Oy;refine T.oI.eJ S (fun _ _ _ _ H _ _ _ hr h=>?_);obtain ⟨tp,n,L,rfl,⟨lt,us,eC,elt,hL⟩,ok,n9,kk⟩:=h;have hu:=ph (Nat.add_le_add_left (show 1≤64 by decide) _) hr.units
 have AL:((List.range n).map fun i:Nat=>V.int (0+(i:Int))).length=n:=by rw [aK,dR]
 refine ⟨_,(aF (vR (i0:=1) (N:=["place"]) (ρ:=(fun σ=>[])) (gY [] rfl) rfl S.nd rfl (Or.inl rfl) (m_ rfl T.gI (aj (bt ig (pv 0) aH) au)) (fun _ _ _=>.nil) (fun _ _ _=>LQ))
  (aF (fu eF rfl (B8 (bt ig (pv 0) aH)) (sE rfl (jJ (da (i:=2) S.nd rfl (Or.inl rfl)) (jJ (da (i:=3) S.nd rfl (Or.inl rfl)) sD)))
   (aF (zL hu (bt cq (pv 1) (pv 2)) (pv 3) kj rfl)
  (aO (zL hu (bt cq (pv 1) (pv 3)) (pv 2) kj rfl))))
  (aO (bZ (pv 1))))),?_⟩
 refine cx (lW (zb (xs:=(List.range n).map fun i:Nat=>V.int (0+(i:Int))) (n:=n) AL (fun R h=>⟨_,rfl,tp,_,_,_,rfl,rfl,.of eC,rfl,(n:Int),rfl,by omega,by omega,h _ _ (ak.refl _) (by rw [dH];exact C0)⟩) (dg (by omega)) (fun _ i y Hx=>Hx y=some (.dK (dk []))∧H y=none) ?_ ?_ ?_))
 ·intro D i y Ha Hb ys ⟨h1,h2⟩ hy e f
  exact ⟨f y _ hy h1,h2⟩
 ·intro D i x hx Hc R sc _ kc
  refine fun p np=>kc p _ (eZ (ak.refl _) np) np ⟨_,aw⟩ ⟨aw,?_⟩;cases e:H p with
  | none=>rfl
  | some o=>rw [sc _ _ e] at np;cases np
 ·intro D ds H1 nD s1 inj hA eD
  have K0:cU H1 D n ds (fun _=>True) (fun _=>[]):=⟨eD,inj,fun i hi=>(hA i hi).2,fun i hi _=>(hA i hi).1.1,fun i _=>jW.nil n⟩;have fr:∀i,i<n→H (ds i)=none:=fun i hi=>(hA i hi).1.2;dsimp only [aY];refine cx ⟨_,rfl,tp,_,_,_,rfl,rfl,.of (s1 _ _ eC),rfl,lt,rfl,⟨_,.of (s1 _ _ elt)⟩,?_⟩;refine Cb (K:=K) (a:=lt) (xs:=us) (fun k σ Hc=>∃(f:Nat→List Nat) (v2 v3:Option V),σ=[some (.ref tp),some (.ref D),v2,v3]∧ak H Hc∧cU Hc D n ds (fun _=>True) f∧eO n (L.take k) f) ⟨_,_,_,rfl,s1,K0,eO.nil n⟩ (fun k σ Hc _ ⟨_,_,_,_,sc,_⟩=>.of (sc _ _ elt)) ?_ ?_
  ·rintro k x σ Hc hx ⟨f,v2,v3,rfl,sc,KL,nb⟩
   have hk:k<L.length:=by rw [←hL.1];exact (bG.mp hx).1
   obtain ⟨b,rfl,eb⟩:=hL.2 k x L[k] hx (by simp [hk])
   have pk:=ok L[k] (cR hk);have tk:L.take (k+1)=L.take k++[L[k]]:=by rw [k_,b9 hk];rfl
   generalize L[k]=p at eb pk tk;obtain ⟨p1,p2⟩:=p;dsimp only at pk eb;obtain ⟨i,rfl⟩:=fh pk.1;obtain ⟨j,rfl⟩:=fh pk.2.2.1;have hi:i<n:=by omega
   have hj:j<n:=by omega
   refine ⟨b,_,rfl,.of (sc _ _ eb),rfl,_,_,rfl,_,_,rfl,rfl,?_⟩;obtain ⟨q1,K1⟩:=KL.put hi hj trivial n9;obtain ⟨q2,K2⟩:=K1.put hj hi trivial n9;refine ⟨_,rfl,_,rfl,D,_,_,_,rfl,rfl,.of KL.lst,KL.ix hi,_,rfl,_,_,rfl,q1,?_⟩;refine ⟨_,rfl,_,rfl,D,_,_,_,rfl,rfl,.of K1.lst,K1.ix hj,_,rfl,_,_,rfl,q2,?_⟩;have off:∀(Hx:Hp) (i:Nat) (o:HO),i<n→ak H Hx→ak H (upd Hx (ds i) o):=fun Hx i o hi sx a u e=>by
    rw [aE (fun z=>by rw [z,fr i hi] at e;cases e)]
    exact sx _ _ e
   exact ⟨_,_,_,rfl,off _ _ _ hj (off _ _ _ hi sc),K2,by rw [tk];exact nb.more hi hj⟩
  ·rintro σ Hc ⟨f,v2,v3,rfl,sc,KL,nb⟩
   rw [hL.1,iS] at nb;exact ⟨_,rfl,kk _ _ _ _ sc nD fr KL nb⟩
theorem Oz:cf ["many"] ["many"] (bo xb):=de
theorem OA(T:Txt K mg t):bK P w K mg base cC 1 t.oi t.qw ["many"] Mt:=by have S:=Oz;refine T.qU.eJ S (fun _ _ _ _ H _ _ _ hr h=>?_);obtain ⟨m,rfl,m1,k⟩:=h;refine ⟨_,(aO (bZ (bH iY (bH iY (bH iZ (pv 0) (pv 0)) (bH iZ aH (pv 0))) aH))),?_⟩;exact ⟨_,rfl,_,rfl,_,_,rfl,rfl,.inl ⟨by omega,by omega⟩,_,rfl,_,_,rfl,rfl,.inl ⟨by omega,by omega⟩,_,_,rfl,rfl,_,_,rfl,rfl,k⟩
theorem OB:cf ["thing","n"] ["thing","n"] (bo wY):=de
theorem OC(T:Txt K mg t):bK P w K mg base cC 2 t.n5 t.qp ["thing","n"] L6:=by
 have S:=OB;refine T.qQ.eJ S (fun _ _ _ _ H _ _ _ hr h=>?_);obtain ⟨a,zs,n,rfl,ea,jq,n1,k⟩:=h;have gr:=hr.units
 refine ⟨_,(aF (dJ (PW.pt (pw_or (yy (sr (df (y4 (K:=K)) rfl T.xG boot_isinstance (aj (pv 0) (aj (yw (v:=.ty "list") rfl T.kX boot_list rfl) au))))) (pw_or1 (yy (sr (df (JL (K:=K) rfl) rfl T.Fw boot_all (aj (kC (N:=["place"]) (ρ:=(fun σ=>[])) (gY [] rfl) rfl (ft (pv 0)) (fun _ _ _=>.nil) (fun _ _ _=>(bC (Ox T) hr T.EW T.qO.kp T.EV cu (aj (pv 0) au)))) au))))))) (aO (bZ kj)) dI)
  (aO (bZ (lH (zQ gr) (df DX rfl T.uw vf (aj (pv 0) au)) (gU (tE rfl) rfl T.kX boot_list (aj (gU tD rfl T.gI tF (aj (pv 1) au)) au)))))),?_⟩
 refine ⟨_,rfl,_,_,_,true,rfl,rfl,.of (.lst ea),JQ,true,rfl,lO ?_⟩;unfold B1 tB;refine vV (JV (xs:=zs.map V.int) (fun R h=>⟨_,rfl,a,rfl,⟨_,.of ea⟩,h _ _ (ak.refl _) (kG (.of ea))⟩) (by rw [aK];exact dg (by omega)) (fun _ i y _=>y=.bl true) (fun _ _ _ _ _ _ h _ _=>h) ?_ ?_)
 ·intro D i v hi Hc R sc _ kc
  obtain ⟨z,rfl⟩:∃z:Int,v=.int z:=by
   rw [bq] at hi;cases e:zs[i]? with
   | none=>rw [e] at hi;cases hi
   | some z=>rw [e] at hi;exact ⟨z,(Option.some.inj hi).symm⟩
  exact ⟨_,rfl,.int z,rfl,.int z,kc _ Hc (ak.refl _) rfl⟩
 ·intro D ys Hc sc mB hP eD
  refine ⟨D,List.replicate ys.length true,rfl,.of (by rw [eD];exact cW _ (cW _ (Ki hP))),?_⟩
  rw [Kj];refine ⟨true,rfl,lO ?_⟩;dsimp only [kr];have OD:=sc _ _ ea;refine ⟨_,rfl,a,zs,rfl,OD,jq,fun ws D2 p o n2=>?_⟩;refine ⟨_,rfl,(n:Int),rfl,fun p1 AM=>⟨p1,n,rfl,aw,by omega,fun l nl=>?_⟩⟩
  have d1:D2≠p1:=fun z=>by rw [←z,aw] at AM;cases AM
  have d2:D2≠l:=fun z=>by rw [←z,aE d1,aw] at nl;cases nl
  refine ⟨D2,l,ws,(List.range n).map iN,rfl,rfl,.of ?_,.of ?_,?_⟩;·rw [aE d2,aE d1,aw]
  ·rw [aw]
   unfold cg;rw [cH];rfl
  ·rw [L5 p o]
   exact k _ (wA (wA (wA sc n2) AM) nl)
theorem OE:cf ["order","n"] ["order","n"] (bo wZ):=de
theorem OF(T:Txt K mg t):bK P w K mg base (fT P w) 3 t.n6 t.qq ["order","n"] (L7 t.jm):=by
 have S:=OE;refine T.qR.gz S (fun _ _ _ _ H _ _ _ hr h L=>?_);obtain ⟨a,zs,n,rfl,ea,jq,n1,kE,k⟩:=h;refine ⟨_,(aO (dJ (yy (sr (bC (OC T) hr T.EY T.qQ.kp T.EX cu (aj (pv 0) (aj (pv 1) au))))) (aO (Jv L rfl PySem.F.excBase_ValueError T.FA rfl T.Fv (aj yv au))) dI)),?_⟩;refine ⟨_,rfl,_,rfl,a,zs,n,rfl,ea,jq,n1,fun H1 s1=>⟨_,rfl,dM (fun hb=>?_) (fun hb=>?_)⟩⟩;·exact ⟨by show 1≤sizeLine;decide,kE (by simpa using hb) _ s1⟩
 ·exact k (by simpa using hb) _ s1
theorem OG:cf ["order","turns","turn","place"] ["order"] (bo w5):=de
theorem OH(T:Txt K mg t):bK P w K mg base cC 1 t.n8 t.qr ["order"] L9:=by
 have S:=OG;refine T.qS.eJ S (fun _ _ _ _ H _ _ _ hr h=>?_);obtain ⟨a,n,o,rfl,⟨ea,ho⟩,n1,kk⟩:=h;have lo:=qc ho;have lm:(o.map fun k:Nat=>V.int (k:Int)).length=n:=by rw [aK,lo]
 refine ⟨_,(aF (putL 1 S.nd (bH CH (dA (aj aH au)) (df kB rfl T.jo jB (aj (pv 0) au))))
  (aF (fu eF rfl (C9 rfl T.AH (aj (pv 0) au)) (sE rfl (jJ (da (i:=2) S.nd rfl (Or.inl rfl)) (jJ (da (i:=3) S.nd rfl (Or.inl rfl)) sD)))
   (aO (@sG _ _ _ _ _ _ (pv 2) (sF (pv 1) (pv 3) set_list) (by rfl) (by rfl) (by rfl))))
  (aO (bZ (pv 1))))),?_⟩
 refine ⟨by show 1≤sizeLine;decide,fun l nl=>?_⟩
 have al:a≠l:=fun z=>by rw [z,nl] at ea;cases ea
 refine ⟨_,rfl,a,_,rfl,.inl (.of (by rw [aE al];exact ea)),l,_,_,rfl,rfl,aw,by omega,by rw [lm];omega,?_,fun c nc=>?_⟩
 ·rw [lm,dH]
  show 1*n≤sizeLine;rw [mK];omega
 rw [lm,dH,Mb n o];have FE:H c=none:=none_of (aX nl) nc;have s0:ak H (upd (upd H l (.lst [.int 0])) c (.lst ((List.range n).map fun p=>V.int (iJ o 0 p)))):=(aX nl).trans (aX nc);have e0:upd (upd H l (.lst [.int 0])) c (.lst ((List.range n).map fun p=>V.int (iJ o 0 p))) c=_:=aw;generalize upd (upd H l (.lst [.int 0])) c (.lst ((List.range n).map fun p=>V.int (iJ o 0 p)))=H0 at s0 e0 ⊢;dsimp only [aY];refine cx ⟨_,rfl,a,rfl,⟨_,.of (s0 _ _ ea)⟩,?_⟩
 refine C_ (K:=K) (l:=a) (xs:=o.map fun k:Nat=>V.int (k:Int)) (fun i σ Hc=>ak H Hc∧∃(v2 v3:Option V),σ=[some (.ref a),some (.ref c),v2,v3]∧Hc c=some (.lst ((List.range n).map fun p=>V.int (iJ o i p))))
  ⟨s0,_,_,rfl,e0⟩ (fun i σ Hc ⟨z,_⟩=>.of (z _ _ ea)) ?_ ?_
 ·rintro i x σ Hc Tt hx ⟨sc,v2,v3,rfl,ec⟩ nT
  have hi:i<o.length:=by have:=(bG.mp hx).1;simpa using this
  have ex:x=.int ((o[i]:Nat):Int):=by rw [bq] at hx;simp [hi] at hx;exact hx.symm
  subst ex;have hp:o[i]<n:=(gh ho).mp (cR hi);have sT:ak Hc (upd Hc Tt (.tup [.int (i:Int),.int ((o[i]:Nat):Int)])):=aX nT;have eT:upd Hc Tt (.tup [.int (i:Int),.int ((o[i]:Nat):Int)]) Tt=_:=aw;generalize upd Hc Tt (.tup [.int (i:Int),.int ((o[i]:Nat):Int)])=H1 at sT eT ⊢;refine ⟨Tt,_,rfl,.of eT,rfl,_,_,rfl,_,_,rfl,rfl,?_⟩;refine ⟨_,rfl,_,rfl,_,rfl,c,_,_,o[i],rfl,rfl,sT _ _ ec,by rw [aK,dR];exact DZ hp,?_⟩
  exact ⟨eZ (sc.trans sT) FE,_,_,rfl,by rw [aw,Ma ho hi]⟩
 ·rintro σ Hc ⟨sc,v2,v3,rfl,ec⟩
  rw [aK,Mc ho] at ec;exact ⟨_,rfl,kk c Hc sc FE ec⟩
theorem OI:cf ["linked","places","one","other"] ["linked","places"] (bo w6):=de
theorem OJ(T:Txt K mg t):bK P w K mg base cC 1 t.n_ t.qt ["linked","places"] Md:=by
 have S:=OI;refine T.qT.eJ S (fun _ _ _ _ H _ _ _ hr h=>?_);obtain ⟨D,pl,n,ds,un,f,ps,rfl,KL,rj,OK,n9,kk⟩:=h;have hu:=ph (Nat.add_le_add_left (show 1≤64 by decide) _) hr.units
 have bA:∀i,i<n→un i→pl≠ds i:=fun i hi ui z=>by rw [z,KL.at' i hi ui] at rj;cases rj
 have FF:∀{i:Nat} {x:V},(ps.map fun k:Nat=>V.int (k:Int))[i]?=some x→∃p:Nat,ps[i]?=some p∧x=.int (p:Int)∧p<n∧un p:=fun{i x} hx=>by
  rw [bq] at hx;cases e:ps[i]? with
  | none=>rw [e] at hx;cases hx
  | some p=>rw [e] at hx;exact ⟨p,rfl,(Option.some.inj hx).symm,OK p (rN e)⟩
 refine ⟨_,(aO (fu eF rfl (ft (pv 1)) (da (i:=2) S.nd rfl (Or.inl rfl))
   (aO (fu eF rfl (ft (pv 1)) (da (i:=3) S.nd rfl (Or.inl rfl))
   (aO (dJ (cS vz (pv 2) (pv 3)) (aO (zL hu (bt cq (pv 0) (pv 2)) (pv 3) kj rfl)) dI)))))),?_⟩
 refine ⟨_,rfl,pl,rfl,⟨_,.of rj⟩,?_⟩;refine pP (K:=K) (a:=pl) (xs:=ps.map fun k:Nat=>V.int (k:Int)) (fun i σ Hc=>∃(g:Nat→List Nat) (v2 v3:Option V),σ=[some (.ref D),some (.ref pl),v2,v3]∧l_ n ds un H Hc∧cU Hc D n ds un g∧fD n f ps i 0 g) ⟨f,_,_,rfl,.refl,KL,fD.start n f ps⟩ (fun i σ Hc _ ⟨_,_,_,_,oc,_⟩=>.of (oc _ _ rj bA)) ?_ ?_
 ·rintro i x σ Hc hx ⟨g,v2,v3,rfl,oc,Kc,la⟩
  obtain ⟨p,hp,rfl,pn,up⟩:=FF hx;refine ⟨_,rfl,pl,rfl,⟨_,.of (oc _ _ rj bA)⟩,?_⟩;refine pP (K:=K) (a:=pl) (xs:=ps.map fun k:Nat=>V.int (k:Int)) (fun j σ Hd=>∃(g:Nat→List Nat) (v3:Option V),σ=[some (.ref D),some (.ref pl),some (.int (p:Int)),v3]∧l_ n ds un H Hd∧cU Hd D n ds un g∧fD n f ps i j g) ⟨g,_,rfl,oc,Kc,la⟩ (fun i σ Hc _ ⟨_,_,_,oc,_⟩=>.of (oc _ _ rj bA)) ?_ ?_
  ·rintro j y σ Hd hy ⟨g,v3,rfl,od,Kd,la⟩
   obtain ⟨q,hq,rfl,qn,uq⟩:=FF hy;refine ⟨_,rfl,_,rfl,rfl,_,rfl,dM (fun hb=>?_) (fun hb=>?_)⟩
   ·have ne:p≠q:=fun z=>by subst z;rw [tH,bF rfl] at hb;cases hb
    obtain ⟨q1,K1⟩:=Kd.put pn qn up n9;exact ⟨_,rfl,_,rfl,D,_,_,_,rfl,rfl,.of Kd.lst,Kd.ix pn,_,rfl,_,_,rfl,q1,_,_,rfl,od.put pn up,K1,la.put hp hq ne⟩
   ·have e:p=q:=by
     by_cases z:(p:Int)=(q:Int);·omega
     ·exact absurd (by rw [tH,bX z];rfl) hb
    subst e;exact ⟨_,_,rfl,od,Kd,la.same hp hq⟩
  ·rintro σ Hd ⟨g,v3,rfl,od,Kd,la⟩
   rw [aK] at la;exact ⟨g,_,_,rfl,od,Kd,la.row⟩
 ·rintro σ Hc ⟨g,v2,v3,rfl,oc,Kc,la⟩
  rw [aK] at la;exact kk _ g oc Kc la.done
theorem OL:cf ["shape","order","linked","turns","told","place"] ["shape","order"] (bo w9):=de
theorem AN(T:Txt K mg t):bK P w K mg base (fT P w) 4 t.og t.qu ["shape","order"] (MF t.jm):=by
 have S:=OL;refine T.mr.gz S (fun _ _ _ _ H _ _ _ hr h L=>?_);obtain ⟨tp,a,n,Lk,zs,rfl,hS,hL,ns,TH,ea,jq,kE,kk⟩:=h;obtain ⟨lt,us,eC,elt,ux⟩:=id hS
 refine ⟨_,(aF (fq (bC (OF T) hr T.E1 T.qR.kp T.EZ (vL L) (aj (pv 1) (aj (bt ig (pv 0) aH) au))))
  (ei.kq (aF (putL 2 S.nd (bC (FD T) hr T.Az T.oI.kp T.Ay cu (aj (pv 0) au)))
  (aF (tG 3 S.nd (bC (OH T) hr T.E3 T.qS.kp T.E2 cu (aj (pv 1) au)))
  (aF (vR (i0:=4) (N:=["place"]) (ρ:=(fun σ=>[])) (gY [] rfl) rfl S.nd rfl (Or.inl rfl) (ft (pv 1)) (fun _ _ _=>.nil) (fun _ _ _=>(dA au)))
  (aF (fu eF rfl (ft (pv 1)) (da (i:=5) S.nd rfl (Or.inr rfl))
   (aF (@sG _ _ _ _ _ _ (df DX rfl T.uw vf (aj (kC (N:=["other","turns","place"]) (ρ:=(fun σ=>[σ[3]?.join,σ[5]?.join])) (gY [3,5] rfl) rfl (DV (bt cq (pv 2) (pv 5))) (fun _ _ _=>(.one (cS sN (bt (za (K:=K)) (pv 1) (pv 0)) (bt (za (K:=K)) (pv 1) (pv 2))))) (fun _ _ _=>(pv 0))) au)) (sF (pv 4) (pv 5) set_list) (by rfl) (by rfl) (by rfl))
  (aO (fq (bC (OJ T) hr T.E5 T.qT.kp T.E4 cu (aj (pv 2) (aj (bt cq (pv 4) (pv 5)) au)))))))
  (aO (bZ (pv 4))))))))),?_⟩
 refine ⟨_,rfl,_,rfl,tp,_,_,_,rfl,rfl,.of eC,rfl,a,zs,n,rfl,ea,jq,by omega,fun no H1 s1=>kE no H1 s1,fun yes H1 s1=>?_⟩
 obtain ⟨o,rfl,ho⟩:=Mk yes;have kk:=kk o rfl ho;have lo:=qc ho;have nd:=nU ho;have uy:H a=some (.lst (o.map fun k:Nat=>V.int (k:Int))):=by rw [ea,cH];rfl
 have lm:(o.map fun k:Nat=>V.int (k:Int)).length=n:=by rw [aK,lo]
 refine ⟨_,rfl,tp,n,Lk,rfl,⟨lt,us,s1 _ _ eC,s1 _ _ elt,ux.mono s1⟩,hL,by omega,fun H2 D ds f s2 nD xI KL nb=>?_⟩
 have TJ:=none_of s1 nD;have FG:∀i,i<n→H (ds i)=none:=fun i hi=>none_of s1 (xI i hi);have rm:=s1.trans s2;dsimp only [aY];refine ⟨_,rfl,a,n,o,rfl,⟨rm _ _ uy,ho⟩,by omega,fun tr H3 s3 OM e3=>?_⟩
 have hE:=rm.trans s3;have TK:=none_of rm OM;have K3:=KL.mono s3;dsimp only [aY];refine cx (lW (zb (xs:=o.map fun k:Nat=>V.int (k:Int)) (n:=n) lm (fun R h=>⟨_,rfl,a,rfl,⟨_,.of (hE _ _ uy)⟩,h _ _ (ak.refl _) (kG (.of (hE _ _ uy)))⟩) (dg (by omega)) (fun _ i y Hx=>H3 y=none) (fun _ _ _ _ _ _ h _ _ _=>h) ?_ ?_))
 ·intro D' i x hx Hc R sc _ kc
  refine ⟨by show 0≤sizeLine;exact bD _,fun p np=>kc p _ (aX np) np ⟨_,aw⟩ (none_of sc np)⟩
 ·intro c ON H4 nc s4 _ hA ec
  have kY:=hE.trans s4;have FH:=none_of hE nc;have K4:=K3.mono s4;have e4:=s4 _ _ e3;have cD:c≠D:=fun z=>by rw [z,K3.lst] at nc;cases nc
  have OO:c≠tr:=fun z=>by rw [z,e3] at nc;cases nc
  dsimp only [aY];refine cx ⟨_,rfl,a,rfl,⟨_,.of (kY _ _ uy)⟩,?_⟩
  refine pP (K:=K) (a:=a) (xs:=o.map fun k:Nat=>V.int (k:Int)) (fun k σ Hc=>∃(rs:Nat→Addr) (f g:Nat→List Nat) (v5:Option V),σ=[some (.ref tp),some (.ref a),some (.ref D),some (.ref tr),some (.ref c),v5]∧ak H Hc∧cU Hc D n ds (fun p=>k≤o.idxOf p) f∧Hc tr=some (.lst ((List.range n).map fun p=>V.int (o.idxOf p:Int)))∧Hc c=some (.lst ((List.range n).map fun p=>V.ref (rs p))) ∧
    (∀p,p<n→o.idxOf p<k→H (rs p)=none∧rs p≠c∧Hc (rs p)=some (.lst ((g p).map fun k:Nat=>V.int (k:Int)))∧jd n o p (g p)∧me n Lk o p (g p))∧nW n Lk o k f) ⟨ON,f,fun _=>[],_,rfl,kY,K4.less (fun _ _ _=>trivial),e4,ec,fun p _ h=>absurd h (mL _),nW.start nb ns⟩ (fun k σ Hc _ ⟨_,_,_,_,_,sc,_⟩=>.of (sc _ _ uy)) ?_ ?_
  ·rintro k x σ Hc hx ⟨rs,f,g,v5,rfl,sc,Kc,AO,xJ,done,AQ⟩
   have hk:k<o.length:=by have:=(bG.mp hx).1;simpa using this
   have ex:x=.int ((o[k]:Nat):Int):=by rw [bq] at hx;simp [hk] at hx;exact hx.symm
   subst ex;have hp:o[k]<n:=(gh ho).mp (cR hk);have ip:o.idxOf o[k]=k:=wB nd hk;generalize o[k]=p at hp ip ⊢;dsimp only [aY];have xK:=Kc.at' p hp (by omega)
   refine cx (lW (vV (zR ⟨_,rfl,_,rfl,D,_,_,_,rfl,rfl,.of Kc.lst,Kc.ix hp,ds p,dk (f p),rfl,.inl ⟨xK,fun ob=>?_⟩⟩)));have Kf:cU (upd Hc (ds p) (.bg ob (.dK (dk (f p))))) D n ds (fun q=>k+1≤o.idxOf q) f:=(Kc.less (fun i hi (ui:k+1≤o.idxOf i)=>show k≤o.idxOf i by omega)).upd (Kc.ne p hp) (fun i hi (ui:k+1≤o.idxOf i) z=>by have:=Kc.inj i p hi hp z;subst this;omega)
   have AR:∀{b:Addr} {xs:List V},Hc b=some (.lst xs)→b≠ds p:=fun{b xs} e z=>by rw [z,xK] at e;cases e
   have xM:upd Hc (ds p) (.bg ob (.dK (dk (f p)))) tr=_:=(aE (AR AO)).trans AO;have rn:upd Hc (ds p) (.bg ob (.dK (dk (f p)))) c=_:=(aE (AR xJ)).trans xJ;have sf:ak H (upd Hc (ds p) (.bg ob (.dK (dk (f p))))):=fun b u e=>by
    rw [aE (fun z=>by rw [z,FG p hp] at e;cases e)]
    exact sc _ _ e
   have AS:∀q,q<n→o.idxOf q<k→H (rs q)=none∧rs q≠c∧upd Hc (ds p) (.bg ob (.dK (dk (f p)))) (rs q)=some (.lst ((g q).map fun k:Nat=>V.int (k:Int)))∧jd n o q (g q)∧me n Lk o q (g q):=fun q hq xN=>by obtain ⟨d1,d2,d3,d4⟩:=done q hq xN;exact ⟨d1,d2,(aE (AR d3)).trans d3,d4⟩
   have uz:upd Hc (ds p) (.bg ob (.dK (dk (f p)))) (ds p)=some (.bg ob (.dK (dk (f p)))):=aw;generalize upd Hc (ds p) (.bg ob (.dK (dk (f p))))=Hf at Kf xM rn sf AS uz ⊢;have uA:=Kc.pl p hp;refine Mi uz (fun q=>decide ((o.idxOf p:Int)<(o.idxOf q:Int))) (ph uA.len (dg (by omega))) ?_ ?_ ?_
   ·intro q hq Hx R sx hR
    have qn:=uA.2 q hq;exact ⟨_,rfl,_,rfl,tr,_,_,_,rfl,rfl,.of (sx _ _ xM),ma qn,_,rfl,_,rfl,tr,_,_,_,rfl,rfl,.of (sx _ _ xM),ma hp,_,_,rfl,rfl,_,rfl,hR⟩
   ·intro q hq Hx R hR
    exact ⟨_,rfl,hR⟩
   ·intro D1 H1 TL FI FJ
    rw [Mp] at FJ;have fl:((f p).filter fun q=>decide (o.idxOf p<o.idxOf q)).length≤n:=bI (rY _ _) uA.len;refine ⟨D1,((f p).filter fun q=>decide (o.idxOf p<o.idxOf q)).map iN,rfl,by rw [FJ,cH];rfl,by rw [aK];omega,fun ws D2 pw so FK=>?_⟩
    obtain ⟨ms,rfl,pm⟩:=D4 pw;have xO:=Mj uA pm so;have hm:∀q,q∈ms↔q∈f p∧k<o.idxOf q:=fun q=>by rw [pm.mem_iff,gJ,lp,ip]
    have OP:me n Lk o p ms:=fun q=>by
     rw [hm q,ip];constructor
     ·rintro ⟨h1,h2⟩
      have qn:=uA.2 q h1;exact ⟨qn,h2,((AQ p q hp qn (by omega) (by omega)).mp h1).2⟩
     ·rintro ⟨h1,h2,h3⟩
      exact ⟨(AQ p q hp h1 (by omega) (by omega)).mpr ⟨fun e=>by subst e;omega,h3⟩,h2⟩
    have oO:ak Hf (upd H1 D2 (.lst ((ms.map iN).map V.int))):=wA FI FK;have xP:upd H1 D2 (.lst ((ms.map iN).map V.int)) D2=some (.lst (ms.map fun k:Nat=>V.int (k:Int))):=by rw [aw,cH];rfl
    have AU:Hf D2=none:=none_of FI FK;have OQ:H D2=none:=none_of sf AU;generalize upd H1 D2 (.lst ((ms.map iN).map V.int))=Hg at oO xP ⊢;have FL:D2≠c:=fun z=>by rw [z,rn] at AU;cases AU
    refine ⟨_,rfl,_,rfl,c,_,_,p,rfl,rfl,oO _ _ rn,by rw [aK,dR];exact DZ hp,?_⟩
    rw [Ml];have Kg:=Kf.mono oO;have Kh:cU (upd Hg c (.lst ((List.range n).map fun q=>V.ref (iK rs p D2 q)))) D n ds (fun q=>k+1≤o.idxOf q) f:=Kg.upd cD (fun i hi ui z=>by have:=Kg.at' i hi ui;rw [z,oO _ _ rn] at this;cases this)
    have sh:ak H (upd Hg c (.lst ((List.range n).map fun q=>V.ref (iK rs p D2 q)))):=eZ (sf.trans oO) FH;have AV:upd Hg c (.lst ((List.range n).map fun q=>V.ref (iK rs p D2 q))) c=_:=aw;have FN:upd Hg c (.lst ((List.range n).map fun q=>V.ref (iK rs p D2 q))) tr=_:=(aE (Ne.symm OO)).trans (oO _ _ xM);have AW:upd Hg c (.lst ((List.range n).map fun q=>V.ref (iK rs p D2 q))) D2=_:=(aE FL).trans xP;have FO:∀q,q<n→o.idxOf q<k→upd Hg c (.lst ((List.range n).map fun q=>V.ref (iK rs p D2 q))) (rs q)=some (.lst ((g q).map fun k:Nat=>V.int (k:Int))):=fun q hq xN=>by obtain ⟨d1,d2,d3,d4⟩:=AS q hq xN;exact (aE d2).trans (oO _ _ d3)
    generalize upd Hg c (.lst ((List.range n).map fun q=>V.ref (iK rs p D2 q)))=Hh at Kh sh AV FN AW FO ⊢;refine ⟨_,rfl,_,rfl,_,rfl,c,_,_,_,rfl,rfl,.of AV,ma hp,?_⟩;rw [D6];refine ⟨D,D2,n,ds,_,f,ms,rfl,Kh,AW,fun q hq=>⟨xO.lt q hq,by have:=xO.la q hq;omega⟩,by omega,fun H5 g5 off K5 con=>?_⟩
    have bA:∀{b:Addr} {xs:List V},Hh b=some (.lst xs)→H5 b=some (.lst xs):=fun{b xs} e=>off _ _ e fun i hi ui z=>by rw [z,Kh.at' i hi ui] at e;cases e
    refine ⟨iK rs p D2,g5,cY g p ms,_,rfl,fun b u e=>off _ _ (sh _ _ e) (fun i hi _ z=>by rw [z,FG i hi] at e;cases e),K5,bA FN,bA AV,fun q hq xN=>?_,AQ.step ho hp ip hm xO.lt con⟩
    by_cases e:q=p
    ·subst e
     rw [D6,Mn];exact ⟨OQ,FL,bA AW,xO,OP⟩
    ·rw [Mm e,Mo e]
     have ne:=je ho hq hp e;have FP:o.idxOf q<k:=by omega
     obtain ⟨d1,d2,d3,d4⟩:=AS q hq FP;exact ⟨d1,d2,bA (FO q hq FP),d4⟩
  ·rintro σ Hc ⟨rs,f,g,v5,rfl,sc,Kc,AO,xJ,done,_⟩
   rw [lm] at done;have lt:∀p,p<n→o.idxOf p<n:=fun p hp=>by have:=(t8 ((gh ho).mpr hp)).1;omega
   exact ⟨_,rfl,kk Hc c rs g sc FH (fun p hp=>(done p hp (lt p hp)).1) ⟨xJ,fun p hp=>(done p hp (lt p hp)).2.2.1⟩ fun p hp=>(done p hp (lt p hp)).2.2.2⟩
theorem OR:cf ["shape","order","links","place","others"] ["shape","order"] (bo w_):=de
theorem FQ(T:Txt K mg t):bK P w K mg base (fT P w) 5 t.oh t.qv ["shape","order"] (ML t.jm):=by
 have S:=OR;refine T.oJ.gz S (fun _ _ _ _ H _ _ _ hr h L=>?_);obtain ⟨tp,a,n,Lk,zs,rfl,hS,hL,ns,n9,ea,jq,kE,kk⟩:=h;obtain ⟨lt,us,eC,elt,ux⟩:=id hS
 refine ⟨_,(aF (putL 2 S.nd (dA au))
  (aF (fu (Ms L) rfl (C9 rfl T.AH (aj (bC (AN T) hr T.xy T.mr.kp T.xx (vL L) (aj (pv 0) (aj (pv 1) au))) au)) (sE rfl (jJ (da (i:=3) S.nd rfl (Or.inr rfl)) (jJ (da (i:=4) S.nd rfl (Or.inl rfl)) sD)))
   (aO (fq (fS fH PySem.F.slot_list_extend PySem.F.type_list_extend CG (pv 2) (aj (kC (N:=["other","place"]) (ρ:=(fun σ=>[σ[3]?.join])) (gY [3] rfl) rfl (ft (pv 4)) (fun _ _ _=>.nil) (fun _ _ _=>(lI (aj (df (Ck rfl) rfl T.AI boot_min (aj (pv 1) (aj (pv 0) au))) (aj (df (Cj rfl) rfl T.xH boot_max (aj (pv 1) (aj (pv 0) au))) au))))) au)))))
  (aO (bZ (lI (aj (bt ig (pv 0) aH) (aj (gU CA rfl T.AK boot_tuple (aj (df Dy rfl T.uw vf (aj (pv 2) au)) au)) au))))))),?_⟩
 refine ⟨bD _,fun l nl=>?_⟩;have s0:ak H (upd H l (.lst [])):=aX nl;have el:upd H l (.lst []) l=some (.lst []):=aw;generalize upd H l (.lst [])=H0 at s0 el ⊢;dsimp only [aY];refine cx ⟨_,rfl,_,rfl,tp,a,n,Lk,zs,rfl,hS.mono s0,hL,ns,by omega,s0 _ _ ea,jq,fun no H1 s1=>kE no H1 (s0.trans s1),fun o ez ho H1 D rs g s1 nD uB la ok=>?_⟩
 have kk:=kk o ez ho;have iG:∀p,p<n→me n Lk o p (g p):=fun p hp=>(ok p hp).2;have ok:∀p,p<n→jd n o p (g p):=fun p hp=>(ok p hp).1;have di:=MK ho n9 ok;have rp:∀p,p<n→rs p≠l:=fun p hp z=>by have:=uB p hp;rw [z,el] at this;cases this
 have FR:D≠l:=fun z=>by rw [z,el] at nD;cases nD
 have j6:((List.range n).map fun p=>V.ref (rs p)).length=n:=by rw [aK,dR]
 refine ⟨D,rfl,⟨_,.of la.1⟩,?_⟩
 refine C_ (K:=K) (l:=D) (xs:=(List.range n).map fun p=>V.ref (rs p)) (fun k σ Hc=>∃(xs:List V) (M:ay) (v3 v4:Option V),σ=[some (.ref tp),some (.ref a),some (.ref l),v3,v4]∧ak H Hc∧D5 Hc D n rs g∧Hc l=some (.lst xs)∧wD Hc g k xs M)
  ⟨[],[],_,_,rfl,s0.trans s1,la,s1 _ _ el,⟨⟨rfl,fun k v p h=>by cases h⟩,rfl,fun z=>⟨(fun h=>by cases h),fun⟨p,q,h,_⟩=>absurd h (mL _)⟩,jx⟩⟩ (fun k σ Hc ⟨_,_,_,_,_,_,z,_⟩=>.of z.1) ?_ ?_
 ·rintro k x σ Hc Tt hx ⟨xs,M,v3,v4,rfl,sc,lc,rq,so⟩ nT
  have hk:k<n:=by have:=(bG.mp hx).1;rw [j6] at this;exact this
  have ex:x=.ref (rs k):=by rw [bq,j9 hk] at hx;exact (Option.some.inj hx).symm
  subst ex;have sT:ak Hc (upd Hc Tt (.tup [.int (k:Int),.ref (rs k)])):=aX nT;have eT:upd Hc Tt (.tup [.int (k:Int),.ref (rs k)]) Tt=_:=aw;generalize upd Hc Tt (.tup [.int (k:Int),.ref (rs k)])=H2 at sT eT ⊢;have ek:=ok k hk;have lg:(g k).length≤30:=bI (zS ho ek) (by omega)
  have e2:=sT _ _ (lc.2 k hk);refine ⟨Tt,_,rfl,.of eT,rfl,_,_,rfl,_,_,rfl,rfl,?_⟩;refine ⟨_,rfl,.inl ⟨rfl,_,.of (sT _ _ rq)⟩,vU (xs:=(g k).map fun k:Nat=>V.int (k:Int)) (fun R h=>⟨_,rfl,rs k,rfl,⟨_,.of e2⟩,h _ _ (ak.refl _) (kG (.of e2))⟩) (by rw [aK];exact dg (by omega)) (fun _ i y Hz=>∃(b:Addr) (q:Nat),y=.ref b∧(g k)[i]?=some q∧Hz b=some (.tup [.int (cZ k q).1,.int (cZ k q).2])) (fun Dd i y Ha Hb ys ⟨b,x,h1,h2,h3⟩ e f=>⟨b,x,h1,h2,f b _ (fun z=>by rw [z,e] at h3;cases h3) h3⟩) ?_ ?_⟩
  ·intro Dd i x hx Hz R sz _ kz
   obtain ⟨q,hq,rfl⟩:∃q:Nat,(g k)[i]?=some q∧x=.int (q:Int):=by
    rw [bq] at hx;cases e:(g k)[i]? with
    | none=>rw [e] at hx;cases hx
    | some q=>rw [e] at hx;exact ⟨q,rfl,(Option.some.inj hx).symm⟩
   refine ⟨_,rfl,_,rfl,_,_,rfl,_,rfl,_,rfl,_,_,rfl,by show 2≤sizeLine;decide,fun tp jr=>?_⟩
   exact kz _ _ (aX jr) ⟨tp,q,rfl,hq,aw⟩
  ·intro Dd ys H3 OS s3 mC mB AX
   rw [aK] at mC;have lM:M.length≤435:=by rw [so.len];exact bI (Mr (g:=fun p=>(g p).length) (mF hk)) di
   have lx:=so.at'.1;have oP:=s3 _ _ (sT _ _ rq);refine ⟨l,Dd,xs,ys,rfl,rfl,oP,AX,bI (show _≤900 by omega) (by decide),?_⟩
   have k9:∀b o,b≠l→H3 b=some o→upd H3 l (.lst (xs++ys)) b=some o:=fun b o nb e=>by rw [aE nb];exact e
   have oQ:=sc.trans (sT.trans s3);refine ⟨xs++ys,M++(g k).map (cZ k),_,_,rfl,fun b u e=>k9 b u (fun z=>by rw [z,nl] at e;cases e) (oQ _ _ e),⟨k9 _ _ FR (s3 _ _ (sT _ _ lc.1)),fun p hp=>k9 _ _ (rp p hp) (s3 _ _ (sT _ _ (lc.2 p hp)))⟩,aw,so.more (fun h=>((h.mono sT).mono s3).bA oP k9) hk ok ?_⟩
   refine bb.bA (H:=H3) ⟨by rw [mC,aK],fun i v p h1 h2=>?_⟩ oP k9
   obtain ⟨b,q,rfl,hq,e⟩:=mB i v h1;rw [bq,hq] at h2;cases h2;exact ⟨b,rfl,e⟩
 ·rintro σ Hc ⟨xs,M,v3,v4,rfl,sc,lc,rq,so⟩
  rw [j6] at so;have lM:M.length≤435:=by rw [so.len];exact di
  have lx:=so.at'.1;have bM:∀z∈M,0≤z.2∧z.2<1000:=fun z hz=>by obtain ⟨p,q,h1,h2,rfl⟩:=(so.mem z).mp hz;have:=Mq h1 ((ok p h1).lt q h2);omega
  refine ⟨_,rfl,tp,_,_,_,rfl,rfl,.of (sc _ _ eC),rfl,_,rfl,?_⟩;dsimp only [yO];refine MD rq so.at' (by omega) bM fun l' ws N H3 s3 nV l9 hN pN oN=>?_
  have s4:=sc.trans s3;refine ⟨l',ws,rfl,.inl ⟨.of l9,fun lt AY=>?_⟩⟩;have kZ:ak H3 (upd H3 lt (.tup ws)):=aX AY;have xQ:upd H3 lt (.tup ws) lt=some (.tup ws):=aw;generalize upd H3 lt (.tup ws)=Hd at kZ xQ ⊢;refine ⟨by show 2≤sizeLine;decide,fun tq FT=>?_⟩
  have st:ak Hd (upd Hd tq (.tup [.int (n:Int),.ref lt])):=aX FT;have s5:=s4.trans (kZ.trans st);have bN:∀z∈N,0≤z.2∧z.2<1000:=fun z hz=>bM z (pN.mem_iff.mp hz);refine kk _ tq N s5 (none_of (s4.trans kZ) FT) ⟨lt,ws,aw,st _ _ xQ,(hN.mono kZ).mono st⟩ ⟨MG oN (pN.nodup_iff.mpr so.nd) bN,fun z=>?_⟩ (by rw [pN.length_eq];omega)
  rw [pN.mem_iff,so.mem];constructor
  ·rintro ⟨p,q,h1,h2,h3⟩
   obtain ⟨w1,w2,w3⟩:=(iG p h1 q).mp h2;exact ⟨p,q,h1,w1,w2,w3,h3⟩
  ·rintro ⟨p,q,h1,w1,w2,w3,h3⟩
   exact ⟨p,q,h1,(iG p h1 q).mpr ⟨w1,w2,w3⟩,h3⟩
theorem OT:cf ["shape","order"] ["shape","order"] (bo xf):=de
theorem FU(T:Txt K mg t):bK P w K mg base (fT P w) 6 t.om t.qy ["shape","order"] (MS t.jm):=by have S:=OT;refine T.oK.gz S (fun _ _ _ _ H _ _ _ hr h L=>?_);obtain ⟨tp,a,n,Lk,zs,rfl,hS,hL,ns,n9,ea,jq,kE,kk⟩:=h;have gr:=hr.units;refine ⟨_,(aO (bZ (lH (MP gr) (bC (FQ T) hr T.AB T.oJ.kp T.AA (vL L) (aj (pv 0) (aj (pv 1) au))) (pv 0)))),?_⟩;refine ⟨_,rfl,_,rfl,tp,a,n,Lk,zs,rfl,hS,hL,ns,n9,ea,jq,kE,fun o ez ho H1 t1 M s1 _ h1 fs _=>?_⟩;exact ⟨_,rfl,t1,tp,n,M,Lk,rfl,rfl,h1,hS.mono s1,kk o ez ho _ _ s1 fs⟩
theorem OU:cf ["shape","order"] ["shape","order"] (bo xc):=de
theorem AZ(T:Txt K mg t):bK P w K mg base (fT P w) 5 t.oj t.qx ["shape","order"] (Nb t.jm):=by
 have S:=OU;refine T.mw.gz S (fun _ _ _ _ H _ _ _ hr h L=>?_);obtain ⟨tp,a,n,Lk,zs,rfl,hS,hL,ns,n9,ea,jq,kE,kk⟩:=h
 refine ⟨_,(aF (bZ (df (C2 (K:=K) rfl) rfl T.AJ boot_sum (aj (kC (N:=["others"]) (ρ:=(fun σ=>[])) (gY [] rfl) rfl (ft (bC (AN T) hr T.xy T.mr.kp T.xx (vL L) (aj (pv 0) (aj (pv 1) au)))) (fun _ _ _=>.nil) (fun _ _ _=>(bC (OA T) hr T.E7 T.qU.kp T.E6 cu (aj (df (C6 (K:=K)) rfl T.jo jB (aj (pv 0) au)) au)))) au)))
  (ei.kq dI)),?_⟩
 refine Kb (vV (zR ⟨_,rfl,_,rfl,tp,a,n,Lk,zs,rfl,hS,hL,ns,by omega,ea,jq,kE,fun o ez ho H1 D rs g s1 nD uB la ok=>⟨D,rfl,⟨_,.of la.1⟩,?_⟩⟩))
 have j6:((List.range n).map fun p=>V.ref (rs p)).length=n:=by rw [aK,dR]
 refine vU (xs:=(List.range n).map fun p=>V.ref (rs p)) (fun R h=>h _ _ (ak.refl _) (kG (.of la.1))) (by rw [j6];exact dg (by omega)) (fun _ i y _=>y=.int (((g i).length:Int)*(g i).length+3*(g i).length+1)) (fun _ _ _ _ _ _ h _ _=>h) ?_ ?_
 ·intro D' k x hx Hc R sc _ kc
  have hk:k<n:=by have:=(bG.mp hx).1;rw [j6] at this;exact this
  have ex:x=.ref (rs k):=by rw [bq,j9 hk] at hx;exact (Option.some.inj hx).symm
  subst ex;have lg:(g k).length≤30:=bI (zS ho (ok k hk).1) (by omega)
  refine ⟨_,rfl,rs k,_,rfl,.inl (.of (sc _ _ (la.2 k hk))),(g k).length,by rw [aK];rfl,by omega,kc _ Hc (ak.refl _) rfl⟩
 ·intro D' ys Hc FV sc mC mB mh
  rw [j6] at mC;have ey:ys=((List.range n).map fun i=>((g i).length:Int)*(g i).length+3*(g i).length+1).map V.int:=by
   refine gx (by simp [mC]) fun i h1 h2=>?_
   rw [eV,eV,kf];exact mB i _ (b9 h1)
  have es:((List.range n).map fun i=>((g i).length:Int)*(g i).length+3*(g i).length+1).sum=((((List.range n).map fun i=>(g i).length*(g i).length+3*(g i).length+1).sum:Nat):Int):=by
   generalize List.range n=l;clear ey mB mC kk
   induction l with
   | nil=>rfl
   | cons x l ih=>rw [cQ,d_,cQ,d_,ih];push_cast;rfl
  refine ⟨D',_,rfl,.of (by rw [mh,ey]),?_⟩
  rw [es];exact kk o ez ho _ (s1.trans sc) _ fun M fs=>M_ ho fs ok
theorem OV:cf ["_law_cell","_law_at","_law_x"] ["_law_cell","_law_at"] (bo xi):=de
theorem OW(T:Txt K mg t):bK P w K mg base cC 1 t.ot t.qE ["_law_cell","_law_at"] Kk:=by
 have S:=OV;refine T.qX.eJ S (fun _ _ _ _ H _ _ _ hr h=>?_);obtain ⟨c,a,rfl,ha,k⟩:=h
 refine ⟨_,(aF (dJ (cS HZ (pv 0) (bH HS aH aH)) (aO (bZ (pv 0))) dI)
  (aF (putL 2 S.nd (bH nk (bH iY (bH iY (bH iZ (bH nk (pv 0) aH) aH) (bH iZ (pv 1) aH)) aH) aH))
  (aF (putL 2 S.nd (bH nk (bH iY (bH iY (bH iZ (pv 2) (pv 2)) (bH iZ aH (pv 2))) (pv 1)) aH))
  (aO (bZ (bH iY (bH iZ (pv 2) aH) (bH nk (bH iY (bH iZ (pv 2) (pv 2)) (bH iZ aH (pv 1))) aH))))))),?_⟩
 refine ⟨_,rfl,_,_,rfl,rfl,⟨by decide,by decide,by decide⟩,_,_,rfl,rfl,_,rfl,dM (fun h=>?_) (fun h=>?_)⟩
 ·have h:=hV h
  exact ⟨_,rfl,k _ (cG (by decide) h)⟩
 ·refine ⟨_,rfl,_,_,rfl,rfl,(by show (0:Int)<2147483647;decide),_,_,rfl,rfl,.inr ⟨by decide,by decide⟩,_,rfl,_,_,rfl,rfl,.inr ⟨by decide,by decide⟩,_,_,rfl,rfl,_,_,rfl,rfl,_,_,rfl,rfl,(by show (0:Int)<2147483629;decide),?_⟩
  have b0:=kh (c % 2147483647*48271+a*69621+11) (show (2147483629:Int)≠0 by decide)
  have b1:=mT (c % 2147483647*48271+a*69621+11) (show (0:Int)<2147483629 by decide)
  generalize (c % 2147483647*48271+a*69621+11) % 2147483629=x at b0 b1 ⊢;refine ⟨_,rfl,_,rfl,_,_,rfl,rfl,.inl ⟨by omega,by omega⟩,_,rfl,_,_,rfl,rfl,.inl ⟨by decide,by decide⟩,_,_,rfl,rfl,_,rfl,_,_,rfl,rfl,_,_,rfl,rfl,(by show (0:Int)<2147483587;decide),?_⟩
  have c0:=kh (x*x+48271*x+a) (show (2147483587:Int)≠0 by decide)
  have c1:=mT (x*x+48271*x+a) (show (0:Int)<2147483587 by decide)
  generalize (x*x+48271*x+a) % 2147483587=y at c0 c1 ⊢;refine ⟨_,rfl,_,_,rfl,rfl,.inr ⟨by decide,by decide⟩,_,rfl,_,rfl,_,_,rfl,rfl,.inl ⟨by omega,by omega⟩,_,rfl,_,_,rfl,rfl,.inl ⟨by decide,by decide⟩,_,_,rfl,rfl,_,_,rfl,rfl,(by show (0:Int)<2147483579;decide),_,_,rfl,rfl,k _ (Int.add_nonneg (Int.mul_nonneg (kh _ (by decide)) (by decide)) (kh _ (by decide)))⟩
theorem OX:cf ["_law_pen","_law_many","_law_at","_law_cell","_law_found"] ["_law_pen","_law_many"] (bo xj):=de
theorem ju(T:Txt K mg t):bK P w K mg base cC 2 t.ou t.qF ["_law_pen","_law_many"] (Kl K):=by
 have S:=OX;refine T.fE.eJ S (fun _ _ _ _ H _ _ _ hr h=>?_);obtain ⟨P0,a,ns,many,rfl,⟨x,y,eP,hx,hy⟩,hS,m1,mm,k⟩:=h;have gr:=hr.units
 refine ⟨_,(aF (dJ (cS vB (bt cq (pv 0) aH) (pv 1)) (aF (putL 2 S.nd (bt cq (pv 0) aH))
  (aF (putL 3 S.nd aH)
  (aF (dJ (cS vB (pv 2) (df kB rfl T.jo jB (aj (bt cq (pv 0) aH) au))) (aO (putL 3 S.nd (bt cq (bt cq (pv 0) aH) (pv 2)))) (aO (dJ (cS sN (df kB rfl T.jo jB (aj (bt cq (pv 0) aH) au)) aH) (aO (putL 3 S.nd (bH iY (bH nk (bt cq (bt cq (pv 0) aH) (bH nk (bH iZ (pv 2) aH) (df kB rfl T.jo jB (aj (bt cq (pv 0) aH) au)))) aH) (bH iZ (pv 2) aH)))) dI)))
  (aF (@sG _ _ _ _ _ _ (bH iY (pv 2) aH) (sF (pv 0) aH set_list) (by rfl) (by rfl) (by rfl))
  (aO (@sG _ _ _ _ _ _ (bC (OW T) hr T.Fd T.qX.kp T.Fc cu (aj (pv 3) (aj (pv 2) au))) (sF (pv 0) aH set_list) (by rfl) (by rfl) (by rfl))))))) dI)
  (aF (putL 4 S.nd (bH nk (bt cq (pv 0) aH) (pv 1)))
  (aF (@sG _ _ _ _ _ _ (bH JK (bt cq (pv 0) aH) (pv 1)) (sF (pv 0) aH set_list) (by rfl) (by rfl) (by rfl))
  (aO (bZ (pv 4)))))),?_⟩
 have j4:=tJ.seq hS;refine ⟨_,rfl,P0,_,_,_,rfl,rfl,.of eP,rfl,_,rfl,_,_,rfl,rfl,_,rfl,dM (fun aZ=>?_) (fun aZ=>?_)⟩
 ·refine ⟨_,rfl,P0,_,_,_,rfl,rfl,.of eP,rfl,?_⟩
  refine ⟨_,rfl,_,rfl,P0,_,_,_,rfl,rfl,.of eP,rfl,a,ns.map V.int,rfl,.inl j4,_,_,rfl,rfl,_,rfl,dM (fun h1=>?_) (fun h1=>?_)⟩
  ·have h1:x<((ns.map V.int).length:Int):=hV h1
   obtain ⟨v,hv,mv⟩:=CZ (xs:=ns.map V.int) hx h1;obtain ⟨c,_,rfl⟩:=dr.mp mv;refine ⟨_,rfl,P0,_,_,_,rfl,rfl,.of eP,rfl,_,rfl,a,ns.map V.int,_,_,rfl,rfl,j4,hv,?_⟩;refine ⟨_,rfl,_,_,rfl,rfl,_,rfl,P0,_,1,1,rfl,rfl,eP,rfl,?_⟩;refine ⟨_,rfl,_,rfl,c,x,rfl,hx,fun r uC=>⟨_,rfl,P0,_,2,2,rfl,rfl,aw,rfl,?_⟩⟩;have q0:=kh (r) (show many≠0 by omega)
   have q1:=mT (r) (show 0<many by omega)
   have q2:=vg (uC) (show 0≤many by omega)
   refine ⟨_,rfl,P0,_,_,_,rfl,rfl,.of aw,rfl,_,rfl,_,_,rfl,rfl,(show 0<many by omega),?_⟩
   refine ⟨_,rfl,P0,_,_,_,rfl,rfl,.of aw,rfl,_,rfl,_,_,rfl,rfl,⟨show 0<many by omega,mm⟩,_,rfl,P0,_,2,2,rfl,rfl,aw,rfl,?_⟩
   exact ⟨_,rfl,k _ _ q0 q1 (((aB.refl H).trans aB.iy).trans (aB.iy.trans aB.iy)) ⟨x+1,r / many,aw,by omega,q2⟩⟩
  ·refine ⟨_,rfl,P0,_,_,_,rfl,rfl,.of eP,rfl,a,ns.map V.int,rfl,.inl j4,_,_,rfl,rfl,_,rfl,?_⟩
   have k4:=eP;have rA:=j4;have sl:=ak.refl H;refine dM (fun h2=>?_) (fun h2=>?_)
   ·have hl:0<(ns.map V.int).length:=by have:=hV h2;omega
    have OY:=kh (x*7) (show ((ns.map V.int).length:Int)≠0 by omega)
    have OZ:=mT (x*7) (show (0:Int)<((ns.map V.int).length:Int) by omega)
    obtain ⟨v,hv,mv⟩:=CZ (xs:=ns.map V.int) OY OZ;obtain ⟨c,_,rfl⟩:=dr.mp mv;refine ⟨_,rfl,P0,_,_,_,rfl,rfl,.of k4,rfl,_,rfl,_,_,rfl,rfl,.inr ⟨by decide,by decide⟩,_,rfl,P0,_,_,_,rfl,rfl,.of k4,rfl,a,ns.map V.int,rfl,.inl rA,_,_,rfl,rfl,(show (0:Int)<((ns.map V.int).length:Int) by omega),a,ns.map V.int,_,_,rfl,rfl,rA,hv,_,_,rfl,rfl,(show (0:Int)<1000003 by decide),_,rfl,_,_,rfl,rfl,.inr ⟨by decide,by decide⟩,_,_,rfl,rfl,?_⟩
    refine ⟨_,rfl,_,_,rfl,rfl,_,rfl,P0,_,1,1,rfl,rfl,k4,rfl,?_⟩;refine ⟨_,rfl,_,rfl,_,x,rfl,hx,fun r uC=>⟨_,rfl,P0,_,2,2,rfl,rfl,aw,rfl,?_⟩⟩;have q0:=kh (r) (show many≠0 by omega)
    have q1:=mT (r) (show 0<many by omega)
    have q2:=vg (uC) (show 0≤many by omega)
    refine ⟨_,rfl,P0,_,_,_,rfl,rfl,.of aw,rfl,_,rfl,_,_,rfl,rfl,(show 0<many by omega),?_⟩
    refine ⟨_,rfl,P0,_,_,_,rfl,rfl,.of aw,rfl,_,rfl,_,_,rfl,rfl,⟨show 0<many by omega,mm⟩,_,rfl,P0,_,2,2,rfl,rfl,aw,rfl,?_⟩
    exact ⟨_,rfl,k _ _ q0 q1 (((aB.of sl).trans aB.iy).trans (aB.iy.trans aB.iy)) ⟨x+1,r / many,aw,by omega,q2⟩⟩
   ·
    refine ⟨_,rfl,_,_,rfl,rfl,_,rfl,P0,_,1,1,rfl,rfl,k4,rfl,?_⟩;refine ⟨_,rfl,_,rfl,0,x,rfl,hx,fun r uC=>⟨_,rfl,P0,_,2,2,rfl,rfl,aw,rfl,?_⟩⟩;have q0:=kh (r) (show many≠0 by omega)
    have q1:=mT (r) (show 0<many by omega)
    have q2:=vg (uC) (show 0≤many by omega)
    refine ⟨_,rfl,P0,_,_,_,rfl,rfl,.of aw,rfl,_,rfl,_,_,rfl,rfl,(show 0<many by omega),?_⟩
    refine ⟨_,rfl,P0,_,_,_,rfl,rfl,.of aw,rfl,_,rfl,_,_,rfl,rfl,⟨show 0<many by omega,mm⟩,_,rfl,P0,_,2,2,rfl,rfl,aw,rfl,?_⟩
    exact ⟨_,rfl,k _ _ q0 q1 (((aB.of sl).trans aB.iy).trans (aB.iy.trans aB.iy)) ⟨x+1,r / many,aw,by omega,q2⟩⟩
 ·dsimp only [kr]
  have q0:=kh (y) (show many≠0 by omega)
  have q1:=mT (y) (show 0<many by omega)
  have q2:=vg (hy) (show 0≤many by omega)
  refine ⟨_,rfl,P0,_,_,_,rfl,rfl,.of eP,rfl,_,rfl,_,_,rfl,rfl,(show 0<many by omega),?_⟩
  refine ⟨_,rfl,P0,_,_,_,rfl,rfl,.of eP,rfl,_,rfl,_,_,rfl,rfl,⟨show 0<many by omega,mm⟩,_,rfl,P0,_,2,2,rfl,rfl,eP,rfl,?_⟩
  exact ⟨_,rfl,k _ _ q0 q1 (aB.iy) ⟨x,y / many,aw,hx,q2⟩⟩
theorem O0:cf ["_law_pen","_law_some","_law_left","_law_found"] ["_law_pen","_law_some"] (bo xl):=de
theorem FW(T:Txt K mg t):bK P w K mg base cC 3 t.oz t.qG ["_law_pen","_law_some"] (Lo K):=by
 have S:=O0;refine T.oM.eJ S (fun _ _ _ _ H _ _ _ hr h=>?_);obtain ⟨P0,a,l,ns,xs,rfl,pc,hS,nl,el,TM,kk⟩:=h;have gr:=hr.units
 refine ⟨_,(aF (putL 2 S.nd (gU IL rfl T.kX boot_list (aj (pv 1) au)))
  (aF (putL 3 S.nd (dA au))
  (aF (yE eF (cS (zD gr) (pv 2) (dA au)) (aO (fq (fS fH jC jD gX (pv 3) (aj (fS fH PySem.F.slot_list_pop PySem.F.type_list_pop I_ (pv 2) (aj (bC (ju T) hr T.iR T.fE.kp T.iQ cu (aj (pv 0) (aj (df kB rfl T.jo jB (aj (pv 2) au)) au))) au)) au)))))
  (aO (bZ (pv 3)))))),?_⟩
 refine ⟨_,rfl,l,xs,rfl,.inl (.of el),fun l1 n1=>?_⟩;have s1:ak H (upd H l1 (.lst xs)):=aX n1;have e1:upd H l1 (.lst xs) l1=some (.lst xs):=aw;dsimp only [aY];generalize upd H l1 (.lst xs)=H1 at s1 e1 ⊢;refine ⟨by show 0≤sizeLine;decide,fun l2 n2=>?_⟩
 have s2:ak H1 (upd H1 l2 (.lst [])):=aX n2;have e2:upd H1 l2 (.lst []) l2=some (.lst []):=aw;dsimp only [aY];generalize upd H1 l2 (.lst [])=H2 at s2 e2 ⊢;have FX:l1≠P0:=pc.ne n1;have xR:l2≠P0:=(pc.mono s1).ne n2;have FY:H l2=none:=none_of s1 n2;have FZ:l1≠l2:=fun e=>by rw [e,n2] at e1;cases e1
 refine cx ⟨fun m σ Hc=>∃zs ys:List V,σ=[some (.ref P0),some (.ref l),some (.ref l1),some (.ref l2)]∧m=zs.length∧Hc l1=some (.lst zs)∧Hc l2=some (.lst ys)∧(zs++ys).Perm xs∧aB P0 H Hc∧ba Hc P0 a,⟨_,xs,[],rfl,rfl,s2 _ _ e1,e2,by rw [j8],aB.of (s1.trans s2),(pc.mono s1).mono s2⟩,?_⟩
 rintro m σ Hc ⟨zs,ys,rfl,rfl,ez,ey,pm,sc,p1⟩;have lz:zs.length≤100:=by have:=pm.length_eq;rw [dF] at this;omega
 have ly:ys.length≤100:=by have:=pm.length_eq;rw [dF] at this;omega
 refine ⟨_,rfl,by show 0≤sizeLine;decide,fun le A0=>?_⟩
 have s3:ak Hc (upd Hc le (.lst [])):=aX A0;have e3:upd Hc le (.lst []) le=some (.lst []):=aw;generalize upd Hc le (.lst [])=H3 at s3 e3 ⊢;refine ⟨l1,le,zs,rfl,rfl,.of (s3 _ _ ez),e3,_,rfl,dM (fun hz=>?_) (fun hz=>?_)⟩
 ·have z0:1≤zs.length:=by
   cases zs with
   | nil=>cases hz
   | cons=>simp
  have oQ:=sc.trans (aB.of s3);refine ⟨_,fun _ _ h=>h,?_⟩;refine ⟨_,rfl,.inl ⟨rfl,_,.of (s3 _ _ ey)⟩,_,rfl,.inl ⟨rfl,_,.of (s3 _ _ ez)⟩,_,rfl,_,rfl,l1,zs,rfl,.inl (.of (s3 _ _ ez)),P0,a,ns,(zs.length:Int),rfl,p1.mono s3,ak.seq oQ hS,by omega,eY.of_lt (by omega) (by omega),fun c H4 c0 c1 s4 p4=>?_⟩
  obtain ⟨k,rfl⟩:=fh c0;have hk:k<zs.length:=by omega
  have rB:=s4.at FX (s3 _ _ ez);have O1:=s4.at xR (s3 _ _ ey);have sx:seqIndex? (k:Int) zs.length=some k:=by unfold seqIndex?;simp;omega
  refine ⟨l1,zs,(k:Int),k,zs[k],rfl,rfl,rB,by omega,by omega,sx,by simp [hk],?_⟩
  have nn:l2≠l1:=fun e=>FZ e.symm;refine ⟨l2,ys,zs[k],rfl,rfl,by rw [aE nn];exact O1,dg (by omega),?_⟩
  refine ⟨_,?_,zs.eraseIdx k,ys++[zs[k]],rfl,rfl,by rw [aE FZ,aw],aw,?_,?_,?_⟩
  ·rw [List.length_eraseIdx_of_lt hk]
   omega
  ·refine List.Perm.trans ?_ pm
   rw [←fg];refine (mP).trans ?_;show (zs[k]::(zs.eraseIdx k++ys)).Perm (zs++ys);exact (DB zs k hk).append_right ys
  ·exact ((oQ.trans s4).but n1).but FY
  ·exact ((p4.upd FX).upd xR)
 ·have z0:zs=[]:=by
   cases zs with
   | nil=>rfl
   | cons=>exact absurd rfl hz
  subst z0;refine ⟨_,rfl,kk l2 ys H3 (sc.trans (aB.of s3)) (p1.mono s3) ?_ xR (s3 _ _ ey) pm⟩;rw [dN xR];exact FY
theorem O2:cf ["_law_pen","_law_way","_law_size","_law_wide","_law_i","_law_j"] ["_law_pen","_law_way","_law_size","_law_wide","_law_i","_law_j"] (bo xm):=de
theorem O3(T:Txt K mg t):bK P w K mg base cC 3 t.oA t.qH ["_law_pen","_law_way","_law_size","_law_wide","_law_i","_law_j"] (Lp K):=by
 have S:=O2;refine T.qY.eJ S (fun _ _ _ _ H _ _ _ hr h=>?_);obtain ⟨P0,a,ns,way,size,wide,i,j,rfl,pc,hS,kk⟩:=h
 refine ⟨_,(aF (dJ (cS jL (pv 1) aH) (aO (bZ (lH jL (bC (ju T) hr T.iR T.fE.kp T.iQ cu (aj (pv 0) (aj aH au))) aH))) dI)
  (aF (dJ (cS jL (pv 1) aH) (aO (bZ (lH jL (bC (ju T) hr T.iR T.fE.kp T.iQ cu (aj (pv 0) (aj aH au))) aH))) dI)
  (aF (dJ (cS jL (pv 1) aH) (aO (bZ (lH sN (bC (ju T) hr T.iR T.fE.kp T.iQ cu (aj (pv 0) (aj aH au))) aH))) dI)
  (aF (dJ (cS jL (pv 1) aH) (aO (bZ (Hj (lH jL (bH vy (pv 5) (pv 4)) aH) (B2 (lH jL (bH vy (pv 5) (pv 4)) (bH vy (pv 2) aH)))))) dI)
  (aO (bZ (lH HY (bH vy (pv 5) (pv 4)) (pv 3)))))))),?_⟩
 refine ⟨_,rfl,rfl,_,rfl,dM (fun _=>?_) (fun _=>?_)⟩;·exact ⟨_,rfl,P0,a,ns,2,rfl,pc,hS,by decide,eY.of_lt (by decide) (by decide),fun c H1 _ _ s1 p1=>⟨rfl,kk _ H1 s1 p1⟩⟩
 dsimp only [kr];refine ⟨_,rfl,rfl,_,rfl,dM (fun _=>?_) (fun _=>?_)⟩;·exact ⟨_,rfl,P0,a,ns,4,rfl,pc,hS,by decide,eY.of_lt (by decide) (by decide),fun c H1 _ _ s1 p1=>⟨rfl,kk _ H1 s1 p1⟩⟩
 dsimp only [kr];refine ⟨_,rfl,rfl,_,rfl,dM (fun _=>?_) (fun _=>?_)⟩;·exact ⟨_,rfl,P0,a,ns,4,rfl,pc,hS,by decide,eY.of_lt (by decide) (by decide),fun c H1 _ _ s1 p1=>⟨_,_,rfl,rfl,kk _ H1 s1 p1⟩⟩
 dsimp only [kr];refine ⟨_,rfl,rfl,_,rfl,dM (fun _=>?_) (fun _=>?_)⟩
 ·refine ⟨_,rfl,_,rfl,_,_,rfl,rfl,rfl,_,rfl,dM (fun _=>?_) (fun _=>?_)⟩
  ·exact kk _ H (aB.refl _) pc
  ·exact ⟨_,rfl,_,rfl,_,_,rfl,rfl,_,rfl,_,_,rfl,rfl,rfl,kk _ H (aB.refl _) pc⟩
 dsimp only [kr];exact ⟨_,rfl,_,rfl,_,_,rfl,rfl,_,rfl,_,_,rfl,rfl,kk _ H (aB.refl _) pc⟩
theorem O4:cf ["_law_size","_law_links","_law_names","_law_found","_law_i","_law_j","_law_one"] ["_law_size","_law_links","_law_names"] (bo xr):=de
theorem O5(T:Txt K mg t):bK P w K mg base cC 3 t.oD t.qK ["_law_size","_law_links","_law_names"] Ls:=by
 have S:=O4;refine T.q_.eJ S (fun _ _ _ _ H _ _ _ hr h=>?_);obtain ⟨l,r,n,us,ws,L,nm,rfl,el,hL,ok,uD,uE,lw,hw,N,kk⟩:=h
 refine ⟨_,(aF (putL 3 S.nd (dA au))
  (aF (fu eF rfl (ft (pv 1)) (sE rfl (jJ (da (i:=4) S.nd rfl (Or.inl rfl)) (jJ (da (i:=5) S.nd rfl (Or.inl rfl)) sD)))
   (aF (putL 6 S.nd (df (Ck rfl) rfl T.AI boot_min (aj (bt cq (pv 2) (pv 4)) (aj (bt cq (pv 2) (pv 5)) au))))
  (aO (fq (fS fH jC jD gX (pv 3) (aj (lI (aj (pv 6) (aj (df (Cj rfl) rfl T.xH boot_max (aj (bt cq (pv 2) (pv 4)) (aj (bt cq (pv 2) (pv 5)) au))) au))) au))))))
  (aO (bZ (lI (aj (pv 0) (aj (gU CA rfl T.AK boot_tuple (aj (df Dy rfl T.uw vf (aj (pv 3) au)) au)) au))))))),?_⟩
 refine ⟨by show 0≤sizeLine;decide,fun fd eS=>?_⟩
 have s0:ak H (upd H fd (.lst [])):=aX eS;have F0:upd H fd (.lst []) fd=some (.lst []):=aw;dsimp only [aY];generalize upd H fd (.lst [])=H1 at s0 F0 ⊢;refine ⟨_,rfl,l,rfl,⟨_,.of (s0 _ _ el)⟩,?_⟩;refine pP (K:=K) (a:=l) (xs:=us) (fun k σ Hc=>∃(xs:List V) (v4 v5 v6:Option V),σ=[some (.int (n:Int)),some (.ref l),some (.ref r),some (.ref fd),v4,v5,v6]∧ak H Hc∧Hc fd=some (.lst xs)∧bb Hc xs ((L.take k).map (gg nm))) ⟨[],_,_,_,rfl,s0,F0,bb.nil _⟩ (fun k σ Hc _ ⟨_,_,_,_,_,sc,_⟩=>.of (sc _ _ el)) ?_ ?_
 ·rintro k x σ Hc hx ⟨xs,v4,v5,v6,rfl,sc,ef,hX⟩
  have hk:k<L.length:=by rw [←hL.1];exact (bG.mp hx).1
  obtain ⟨b,rfl,eb⟩:=(hL.mono sc).2 k x L[k] hx (by simp [hk])
  have pk:=ok.lt L[k] (cR hk);have tk:(L.take (k+1)).map (gg nm)=(L.take k).map (gg nm)++[gg nm L[k]]:=by rw [k_,b9 hk,j_];rfl
  have lX:=hX.1;rw [aK,o9] at lX;have di:L.length≤450:=bI ok.di (by have:n*n≤30*30:=r6 uD uD;omega)
  generalize L[k]=p at eb pk tk;obtain ⟨p1,p2⟩:=p;dsimp only at pk;obtain ⟨i,rfl⟩:=fh pk.1;obtain ⟨j,rfl⟩:=fh (show 0≤p2 by omega)
  have F1:fQ ws (i:Int)=some (.int (nm i)):=lJ (hw i (by omega))
  have at2:fQ ws (j:Int)=some (.int (nm j)):=lJ (hw j (by omega))
  have xS:=sc _ _ uE;refine ⟨b,_,rfl,.of eb,rfl,_,_,rfl,_,_,rfl,rfl,?_⟩;refine ⟨_,rfl,_,rfl,r,ws,_,.int (nm i),rfl,rfl,.of xS,F1,_,rfl,_,rfl,r,ws,_,.int (nm j),rfl,rfl,.of xS,at2,nm i,nm j,rfl,?_⟩;dsimp only [aY];refine ⟨_,rfl,.inl ⟨rfl,_,.of ef⟩,_,rfl,_,rfl,_,rfl,r,ws,_,.int (nm i),rfl,rfl,.of xS,F1,_,rfl,_,rfl,r,ws,_,.int (nm j),rfl,rfl,.of xS,at2,nm i,nm j,rfl,by show 2≤sizeLine;decide,fun tp jr=>?_⟩
  have eq:gg nm ((i:Int),(j:Int))=(if nm j<nm i then nm j else nm i,if nm j>nm i then nm j else nm i):=by
   unfold gg;simp only [dH];refine Prod.ext ?_ ?_
   ·show min (nm i) (nm j)=_
    split <;> omega
   ·show max (nm i) (nm j)=_
    split <;> omega
  have st:ak Hc (upd Hc tp (.tup [.int (if nm j<nm i then nm j else nm i),.int (if nm j>nm i then nm j else nm i)])):=aX jr
  have eC:upd Hc tp (.tup [.int (if nm j<nm i then nm j else nm i),.int (if nm j>nm i then nm j else nm i)]) tp=some (.tup [.int (gg nm ((i:Int),(j:Int))).1,.int (gg nm ((i:Int),(j:Int))).2]):=by rw [aw,eq]
  generalize upd Hc tp (.tup [.int (if nm j<nm i then nm j else nm i),.int (if nm j>nm i then nm j else nm i)])=Hd at st eC ⊢
  have gu:=st _ _ ef;refine ⟨fd,xs,_,rfl,rfl,gu,dg (by omega),xs++[.ref tp],_,_,_,rfl,eZ (sc.trans st) eS,aw,?_⟩
  rw [tk];exact ((hX.mono st).push eC).bA gu fun b o nb e=>by rw [aE nb];exact e
 ·rintro σ Hc ⟨xs,v4,v5,v6,rfl,sc,ef,hX⟩
  rw [hL.1,iS] at hX;have xT:=Lr ok N;have lX:=hX.1;have di:L.length≤450:=bI ok.di (by have:n*n≤30*30:=r6 uD uD;omega)
  have lM:(L.map (gg nm)).length=L.length:=aK ..;have small:∀q∈L.map (gg nm),0≤q.2∧q.2<1000:=fun q hq=>by have:=xT.lt q hq;omega
  generalize hM:L.map (gg nm)=M at hX xT lX lM small kk;dsimp only;refine ⟨_,rfl,_,rfl,fd,xs,fun i=>(M.getD i (0,0)).1,fun i=>(M.getD i (0,0)).2,rfl,ef,by omega,fun i v hv=>?_,fun p l' hp hu nV=>?_⟩
  ·have hi:i<M.length:=by rw [←lX];exact (bG.mp hv).1
   obtain ⟨b,rfl,eb⟩:=hX.2 i v M[i] hv (by simp [hi])
   dsimp only;rw [getD_at hi];exact ⟨⟨b,rfl,eb⟩,small _ (cR hi)⟩
  rw [lX] at hp hu;obtain ⟨pm,pw⟩:=Lq hp hu xT.nd small;have sl:ak Hc (upd Hc l' (.lst (p.toList.map fun i=>xs.getD i .aM))):=aX nV;have hP:bb Hc (p.toList.map fun i=>xs.getD i .aM) (p.toList.map fun i=>M.getD i (0,0)):=hX.pick _ fun i hi=>by have:p.toList.Perm (List.range M.length):=mS.mp hp;exact cL.mp (this.mem_iff.mp hi)
  generalize (p.toList.map fun i=>xs.getD i .aM)=zs at sl hP ⊢;refine ⟨l',zs,rfl,.inl ⟨.of aw,fun lt AY=>?_⟩⟩;have kZ:=sl.trans (aX (o:=.tup zs) AY);have elt:upd (upd Hc l' (.lst zs)) lt (.tup zs) lt=some (.tup zs):=aw;generalize upd (upd Hc l' (.lst zs)) lt (.tup zs)=Hd at kZ elt ⊢;refine ⟨by show 2≤sizeLine;decide,fun tp jr=>?_⟩
  have st:ak Hd (upd Hd tp (.tup [.int (n:Int),.ref lt])):=aX jr;have sT:=sc.trans (kZ.trans st);exact kk tp _ _ sT (none_of (sc.trans kZ) jr) ⟨lt,zs,aw,st _ _ elt,(hP.mono kZ).mono st⟩ (xT.perm pm) pw pm
theorem O6:cf ["_law_pen","_law_size","_law_ahead","_law_found","_law_j","_law_at","_law_some"] ["_law_pen","_law_size"] (bo xo):=de
theorem O7(T:Txt K mg t):bK P w K mg base cC 3 t.oB t.qI ["_law_pen","_law_size"] (Lv K):=by
 have S:=O6;refine T.qZ.eJ S (fun _ _ _ _ H vs _ _ hr h=>?_);obtain ⟨P0,a,ns,n,rfl,pc,hS,n1,uD,kk⟩:=h
 refine ⟨_,(aF (putL 2 S.nd (dA (aj (dA au) au)))
  (aF (putL 3 S.nd (dA au))
  (aF (fu eF rfl (HL rfl T.gI (aj aH (aj (pv 1) au))) (da (i:=4) S.nd rfl (Or.inr rfl))
   (aF (putL 5 S.nd (bC (ju T) hr T.iR T.fE.kp T.iQ cu (aj (pv 0) (aj (pv 4) au))))
  (aF (putL 6 S.nd (bH Jb (dA (aj (pv 5) au)) (kC (N:=["_law_i","_law_pen"]) (ρ:=(fun σ=>[σ[0]?.join])) (gY [0] rfl) rfl (ft (bt cq (pv 2) (pv 5))) (fun _ _ _=>(.one (cS sN (bC (ju T) hr T.iR T.fE.kp T.iQ cu (aj (pv 1) (aj aH au))) aH))) (fun _ _ _=>(pv 0)))))
  (aF (dJ (cS jL (bC (ju T) hr T.iR T.fE.kp T.iQ cu (aj (pv 0) (aj aH au))) aH) (aO (putL 6 S.nd (dA au))) dI)
  (aF (fq (fS fH jC jD gX (pv 2) (aj (pv 6) au)))
  (aO (fq (fS fH PySem.F.slot_list_extend PySem.F.type_list_extend CG (pv 3) (aj (kC (N:=["_law_i","_law_j"]) (ρ:=(fun σ=>[σ[4]?.join])) (gY [4] rfl) rfl (ft (pv 6)) (fun _ _ _=>.nil) (fun _ _ _=>(lI (aj (pv 0) (aj (pv 1) au))))) au)))))))))
  (aO (bZ (pv 3)))))),?_⟩
 refine eB fun _ uF=>⟨by show 0≤sizeLine;decide,fun l0 rp=>⟨by show 1≤sizeLine;decide,fun la uG=>?_⟩⟩
 have s1:ak H (upd H l0 (.lst [])):=aX rp;have e0:upd H l0 (.lst []) l0=some (.lst []):=aw;generalize upd H l0 (.lst [])=H1 at s1 e0 uG ⊢;have s2:ak H1 (upd H1 la (.lst [.ref l0])):=aX uG;have ea:upd H1 la (.lst [.ref l0]) la=some (.lst [.ref l0]):=aw;dsimp only [aY];refine uF _ _ ?_;generalize upd H1 la (.lst [.ref l0])=H2 at s2 ea ⊢;refine eB fun _ oR=>⟨by show 0≤sizeLine;decide,fun fd eS=>?_⟩
 have s3:ak H2 (upd H2 fd (.lst [])):=aX eS;have ef:upd H2 fd (.lst []) fd=some (.lst []):=aw;dsimp only [aY];refine oR _ _ ?_;generalize upd H2 fd (.lst [])=H3 at s3 ef ⊢;have hE:=s1.trans (s2.trans s3);have uH:la≠P0:=(pc.mono s1).ne uG;have hG:fd≠P0:=((pc.mono s1).mono s2).ne eS;have O8:l0≠P0:=pc.ne rp;have O9:H la=none:=none_of s1 uG;have xU:H fd=none:=none_of (s1.trans s2) eS;have af:la≠fd:=fun e=>by rw [e,eS] at ea;cases ea
 refine ⟨_,rfl,_,_,rfl,⟨by decide,by decide,by omega,by omega⟩,?_⟩
 rw [show ((n:Int)-1).toNat=n-1 by omega]
 refine sM (fun k σ Hc=>∃(vs us:List V) (L:ay) (D:Nat→List Nat) (v4 v5 v6:Option V),σ=[some (.ref P0),some (.int (n:Int)),some (.ref la),some (.ref fd),v4,v5,v6]∧aB P0 H Hc∧ba Hc P0 a∧Hc la=some (.lst vs)∧Lw (er P0 Hc) vs (k+1) D∧(∀(i:Nat) (b:Addr),vs[i]?=some (V.ref b)→b≠la∧b≠fd)∧Hc fd=some (.lst us)∧bb (er P0 Hc) us L∧kL (k+1) L) ?_ ?_ ?_
 ·refine ⟨[.ref l0],[],[],fun _=>[],_,_,_,rfl,aB.of hE,pc.mono hE,s3 _ _ ea,⟨rfl,fun k hk=>⟨eL.nil k,l0,by rw [show k=0 by omega];rfl,?_⟩⟩,fun i b hb=>?_,ef,bb.nil _,kL.nil⟩
  ·rw [dN O8]
   exact s3 _ _ (s2 _ _ e0)
  ·match i,hb with
   | 0,hb=>cases hb;exact ⟨(fun e=>by rw [e,uG] at e0;cases e0),(fun e=>by rw [←e] at eS;rw [s2 _ _ e0] at eS;cases eS)⟩
   | i+1,hb=>simp at hb
 ·rintro k σ Hc hk ⟨vs,us,L,D,v4,v5,v6,rfl,sc,p1,xV,ah,ap,gu,hL,ok⟩
  refine ⟨_,rfl,_,rfl,P0,a,ns,1+(k:Int),rfl,p1,ak.seq sc hS,by omega,eY.of_lt (by omega) (by omega),fun c H4 c0 c1 s4 p4=>?_⟩
  obtain ⟨c,rfl⟩:=fh c0;have hc:c<k+1:=by omega
  obtain ⟨fc,b,O_,uI⟩:=ah.2 c hc;have Pa:b≠P0:=fun z=>by rw [z] at uI;unfold er at uI;rw [ae rfl] at uI;cases uI
  have Pb:=ah.1;have rC:=sc.trans s4;have Pc:=s4.at uH xV;have F2:H4 b=some (.lst (dY (D c))):=tJ _ _ (s4 _ _ uI);dsimp only [aY];simp only [List.set_cons_zero,List.set_cons_succ];refine eB fun _ oS=>⟨_,rfl,by show 1≤sizeLine;decide,fun rD wq=>?_⟩
  have s5:ak H4 (upd H4 rD (.lst [.int (c:Int)])):=aX wq;have e5:upd H4 rD (.lst [.int (c:Int)]) rD=some (.lst [.int (c:Int)]):=aw;have Pd:rD≠P0:=p4.ne wq;generalize upd H4 rD (.lst [.int (c:Int)])=H5 at s5 e5 ⊢;have lD:(D c).length≤30:=bI fc.len (by omega)
  have lV:(dY (D c)).length≤30:=by unfold dY;rw [aK];exact lD
  have j7:=rC.trans (aB.of s5);refine Lu (K:=K) (l:=b) (xs:=dY (D c)) (dg (by omega)) Pa (s5 _ _ F2) (p4.mono s5) (fun R h=>⟨_,rfl,_,rfl,la,vs,_,.ref b,rfl,rfl,.of (s5 _ _ Pc),lJ O_,b,rfl,⟨_,.of (s5 _ _ F2)⟩,h⟩) (fun i x hx Hx R sx px k=>⟨_,rfl,P0,a,ns,3,rfl,px,ak.seq (j7.trans sx) hS,by decide,eY.of_lt (by decide) (by decide),fun c' H' _ _ s' p'=>⟨_,_,rfl,rfl,_,rfl,k _ H' s' p'⟩⟩) (fun x Hx R h=>⟨_,rfl,h⟩) fun D' ys Hx FV TN sx px sub mh=>?_
  obtain ⟨e,CM,rfl⟩:=zF sub;have fe:=(fc.sub CM).put hc;have TQ:(dY e).length≤30:=bI sub.length_le lV;refine ⟨rD,D',_,_,rfl,rfl,sx.at Pd e5,mh,bI (show _≤900 by simp;omega) (by decide),fun c2 n2=>?_⟩
  have s6:ak Hx (upd Hx c2 (.lst ([.int (c:Int)]++dY e))):=aX n2;have e6:upd Hx c2 (.lst ([.int (c:Int)]++dY e)) c2=some (.lst (dY (c::e))):=aw;have xW:=(j7.trans sx).trans (aB.of s6);have p6:=px.mono s6;have A1:aB P0 H4 (upd Hx c2 (.lst ([.int (c:Int)]++dY e))):=(aB.of s5).trans (sx.trans (aB.of s6));have A2:c2≠P0:=px.ne n2;have f2:er P0 Hc c2=none:=none_of (s4.trans ((aB.of s5).trans sx)) (by rw [dN A2];exact n2)
  dsimp only [aY];refine oS _ _ ?_;generalize upd Hx c2 (.lst ([.int (c:Int)]++dY e))=H6 at s6 e6 xW p6 A1 ⊢;simp only [List.set_cons_zero,List.set_cons_succ];refine cx (DA (fun σ Hy=>∃(lc:Addr) (d:List Nat),σ=[some (.ref P0),some (.int (n:Int)),some (.ref la),some (.ref fd),some (.int (1+(k:Int))),some (.int (c:Int)),some (.ref lc)]∧aB P0 Hc Hy∧ba Hy P0 a∧Hy lc=some (.lst (dY d))∧eL (k+1) d∧lc≠P0∧er P0 Hc lc=none) ?_ ?_)
  ·rintro σ Hy ⟨lc,d,rfl,sy,py,rq,A3,rE,xX⟩
   have ly:lc≠la:=fun z=>by rw [z,dN uH,xV] at xX;cases xX
   have lf:lc≠fd:=fun z=>by rw [z,dN hG,gu] at xX;cases xX
   have A4:=sy.at uH xV;have Pe:=sy.at hG gu;have TR:d.length≤30:=bI A3.len (by omega)
   dsimp only;refine ⟨_,rfl,.inl ⟨rfl,_,.of A4⟩,_,rfl,la,vs,_,rfl,rfl,A4,dg (by omega),?_⟩
   have e7:upd Hy la (.lst (vs++[.ref lc])) la=some (.lst (vs++[.ref lc])):=aw;have k7:∀b o,b≠la→Hy b=some o→upd Hy la (.lst (vs++[.ref lc])) b=some o:=fun b o nb e=>by rw [aE nb];exact e
   have p7:=py.upd (o:=.lst (vs++[.ref lc])) uH;have r7:=zG (P:=P0) (H:=Hy) (r:=la) (o:=.lst (vs++[.ref lc]));have oT:aB P0 H (upd Hy la (.lst (vs++[.ref lc]))):=(sc.trans sy).but O9;generalize upd Hy la (.lst (vs++[.ref lc]))=H7 at e7 k7 p7 r7 oT ⊢;have A5:=k7 fd _ (fun z=>af z.symm) Pe;have A6:=k7 lc _ ly rq;have Pf:(dY d).length=d.length:=by unfold dY;rw [aK]
   refine ⟨_,rfl,.inl ⟨rfl,_,.of A5⟩,vU (xs:=dY d) (fun R h=>⟨_,rfl,lc,rfl,⟨_,.of A6⟩,h _ _ (ak.refl _) (kG (.of A6))⟩) (dg (by omega)) (fun _ i y Hz=>∃(b:Addr) (x:Nat),y=.ref b∧d[i]?=some x∧Hz b=some (.tup [.int (x:Int),.int (1+(k:Int))])) (fun Dd i y Ha Hb ys ⟨b,x,h1,h2,h3⟩ e f=>⟨b,x,h1,h2,f b _ (fun z=>by rw [z,e] at h3;cases h3) h3⟩) ?_ ?_⟩
   ·intro Dd i x hx Hz R sz _ kz
    obtain ⟨y,hy,rfl⟩:=Lx hx;refine ⟨_,rfl,_,rfl,by show 2≤sizeLine;decide,fun tp jr=>?_⟩
    exact kz _ _ (aX jr) ⟨tp,y,rfl,hy,aw⟩
   ·intro Dd zs H8 OS s8 Pg Ph AX
    have lL:=hL.1;have l2:us.length≤450:=by
     have:=ok.di;have:(k+1)*(k+1-1)≤30*30:=r6 (by omega) (by omega)
     omega
    refine ⟨fd,Dd,us,zs,rfl,rfl,s8 _ _ A5,AX,bI (show _≤900 by omega) (by decide),?_⟩
    have k9:∀b o,b≠fd→H8 b=some o→upd H8 fd (.lst (us++zs)) b=some o:=fun b o nb e=>by rw [aE nb];exact e
    have p8:=p7.mono s8;have r9:=zG (P:=P0) (H:=H8) (r:=fd) (o:=.lst (us++zs));have F3:er P0 H8 fd=some (.lst us):=by rw [dN hG];exact s8 _ _ A5
    have Pj:er P0 Hy la=some (.lst vs):=by rw [dN uH];exact A4
    refine ⟨vs++[.ref lc],us++zs,L++d.map fun(x:Nat)=>((x:Int),((k+1:Nat):Int)),fun i=>if i=k+1 then d else D i,_,_,_,rfl,(oT.trans (aB.of s8)).but xU,p8.upd hG,k9 la _ af (s8 _ _ e7),⟨by simp [Pb],fun i hi=>?_⟩,fun i b' jh=>?_,aw,?_,ok.more A3⟩
    ·dsimp only
     by_cases z:i=k+1
     ·subst z
      rw [ae rfl];refine ⟨A3,lc,by rw [fF (by omega),show k+1-vs.length=0 by omega];rfl,?_⟩
      exact r9 _ _ lf (by rw [dN rE];exact s8 _ _ A6)
     ·rw [aa z]
      obtain ⟨f1,b1,v1,h1⟩:=ah.2 i (by omega)
      obtain ⟨a1,a2⟩:=ap i b1 v1;refine ⟨f1,b1,by rw [fG (by omega)];exact v1,?_⟩
      exact r9 _ _ a2 (vW s8 _ _ (r7 _ _ a1 (sy _ _ h1)))
    ·by_cases z:i<vs.length
     ·rw [fG z] at jh
      exact ap i b' jh
     ·have bh:=(bG.mp jh).1
      rw [dF,rQ] at bh;rw [fF (by omega),show i-vs.length=0 by omega] at jh
      cases jh;exact ⟨ly,lf⟩
    ·refine bb.cat ?_ ?_
     ·exact (((hL.mono sy).bA Pj r7).mono (vW s8)).bA F3 r9
     ·refine bb.bA (H:=er P0 H8) ⟨by rw [Pg,Pf,aK],fun i v p h1 h2=>?_⟩ F3 r9
      obtain ⟨b',x,rfl,hx,e'⟩:=Ph i v h1;rw [bq,hx] at h2;cases h2;refine ⟨b',rfl,?_⟩;rw [show (((k+1:Nat):Int))=1+(k:Int) by omega]
      exact tY p8 e'
  ·intro R hR
   refine ⟨_,rfl,P0,a,ns,9,rfl,p6,ak.seq xW hS,by decide,eY.of_lt (by decide) (by decide),fun c' H7 _ _ s7 p7=>⟨rfl,_,rfl,dM (fun _=>?_) (fun _=>?_)⟩⟩
   ·refine ⟨by show 0≤sizeLine;decide,fun lc rE=>?_⟩
    have nP:=p7.ne rE;have F4:=s4.trans (A1.trans s7);exact hR _ _ ⟨lc,[],rfl,F4.trans (aB.of (aX rE)),p7.mono (aX rE),aw,eL.nil _,nP,none_of F4 (by rw [dN nP];exact rE)⟩
   ·exact hR _ _ ⟨c2,c::e,rfl,s4.trans (A1.trans s7),p7,s7.at A2 e6,fe,A2,f2⟩
 ·rintro σ Hc ⟨vs,us,L,D,v4,v5,v6,rfl,sc,p1,xV,ah,ap,gu,hL,ok⟩
  rw [show n-1+1=n by omega] at ok
  exact ⟨_,rfl,kk fd us L Hc sc p1 (by rw [dN hG];exact xU) hG gu hL ok.ok⟩
theorem Pl:cf ["_law_pen","_law_most","_law_size","_law_way","_law_wide","_law_links","_law_j","_law_i"] ["_law_pen","_law_most"] (bo xq):=de
theorem Pm(T:Txt K mg t):bK P w K mg base cC 4 t.oC t.qJ ["_law_pen","_law_most"] (LA K):=by
 have S:=Pl;refine T.q8.eJ S (fun _ _ _ _ H _ _ _ hr h=>?_);obtain ⟨P0,a,ns,most,rfl,pc,hS,m1,TU,kk⟩:=h
 refine ⟨_,(aF (putL 2 S.nd (bH iY aH (bC (ju T) hr T.iR T.fE.kp T.iQ cu (aj (pv 0) (aj (pv 1) au)))))
  (aF (putL 3 S.nd (bC (ju T) hr T.iR T.fE.kp T.iQ cu (aj (pv 0) (aj aH au))))
  (aF (putL 4 S.nd (bC (ju T) hr T.iR T.fE.kp T.iQ cu (aj (pv 0) (aj (pv 2) au))))
  (aF (putL 5 S.nd (dA au))
  (aF (fu eF rfl (m_ rfl T.gI (aj (pv 2) au)) (da (i:=6) S.nd rfl (Or.inl rfl))
   (aO (fu eF rfl (m_ rfl T.gI (aj (pv 6) au)) (da (i:=7) S.nd rfl (Or.inl rfl))
   (aO (dJ (sr (bC (O3 T) hr T.Ff T.qY.kp T.Fe cu (aj (pv 0) (aj (pv 3) (aj (pv 2) (aj (pv 4) (aj (pv 7) (aj (pv 6) au)))))))) (aO (fq (fS fH jC jD gX (pv 5) (aj (lI (aj (pv 7) (aj (pv 6) au))) au)))) dI)))))
  (aF (dJ (cS jL (pv 3) aH) (aO (putL 5 S.nd (bC (O7 T) hr T.Fh T.qZ.kp T.Fg cu (aj (pv 0) (aj (pv 2) au))))) dI)
  (aO (bZ (bC (O5 T) hr T.Fm T.q_.kp T.Fl cu (aj (pv 2) (aj (pv 5) (aj (bC (FW T) hr T.AG T.oM.kp T.AF cu (aj (pv 0) (aj (gU (tE rfl) rfl T.kX boot_list (aj (gU tD rfl T.gI tF (aj (pv 2) au)) au)) au))) au)))))))))))),?_⟩
 refine eB fun _ uF=>⟨_,rfl,_,rfl,P0,a,ns,(most:Int),rfl,pc,hS,by omega,eY.of_lt (by omega) (by omega),fun c H1 c0 c1 s1 p1=>⟨_,_,rfl,rfl,?_⟩⟩
 obtain ⟨c,rfl⟩:=fh c0;dsimp only [aY];refine uF _ _ ?_;rw [show 1+(c:Int)=((c+1:Nat):Int) by omega]
 have n1:1≤c+1:=by omega
 have nm:c+1≤most:=by omega
 generalize c+1=n at n1 nm ⊢;have uJ:aU K (er P0 H1) a (ns.map V.int):=ak.seq s1 hS;refine eB fun _ oR=>⟨_,rfl,P0,a,ns,6,rfl,p1,uJ,by decide,eY.of_lt (by decide) (by decide),fun way H2 _ _ s2 p2=>?_⟩
 have rm:=s1.trans s2;dsimp only [aY];refine oR _ _ ?_;refine eB fun _ oS=>⟨_,rfl,_,rfl,P0,a,ns,(n:Int),rfl,p2,ak.seq rm hS,by omega,eY.of_lt (by omega) (by omega),fun wide H3 _ _ s3 p3=>?_⟩
 have hE:=rm.trans s3;dsimp only [aY];refine oS _ _ ?_;refine eB fun _ uK=>⟨by show 0≤sizeLine;decide,fun fd eS=>?_⟩
 have s4:ak H3 (upd H3 fd (.lst [])):=aX eS;have ef:upd H3 fd (.lst []) fd=some (.lst []):=aw;dsimp only [aY];refine uK _ _ ?_;generalize upd H3 fd (.lst [])=H4 at s4 ef ⊢;have kY:=hE.trans (aB.of s4);have p4:=p3.mono s4;have hG:fd≠P0:=p3.ne eS;have F5:er P0 H fd=none:=none_of hE (by rw [dN hG];exact eS)
 have xU:H fd=none:=by rw [dN hG] at F5;exact F5
 refine ⟨_,rfl,(n:Int),rfl,by omega,by omega,?_⟩
 rw [dH];refine sM (fun j σ Hc=>∃(us:List V) (L:ay) (v6 v7:Option V),σ=[some (.ref P0),some (.int (most:Int)),some (.int (n:Int)),some (.int way),some (.int wide),some (.ref fd),v6,v7]∧aB P0 H Hc∧ba Hc P0 a∧Hc fd=some (.lst us)∧bb (er P0 Hc) us L∧fB j 0 L) ⟨[],[],_,_,rfl,kY,p4,ef,bb.nil _,fB.start⟩ ?_ ?_
 ·rintro j σ Hc hj ⟨us,L,v6,v7,rfl,sc,p5,gu,hL,ok⟩
  dsimp only [aY];simp only [List.set_cons_zero,List.set_cons_succ];refine ⟨_,rfl,(j:Int),by rw [Int.zero_add],by omega,by omega,?_⟩
  rw [dH];refine sM (fun i σ Hd=>∃(us:List V) (L:ay) (v7:Option V),σ=[some (.ref P0),some (.int (most:Int)),some (.int (n:Int)),some (.int way),some (.int wide),some (.ref fd),some (.int (0+(j:Int))),v7]∧aB P0 H Hd∧ba Hd P0 a∧Hd fd=some (.lst us)∧bb (er P0 Hd) us L∧fB j i L) ⟨us,L,_,rfl,sc,p5,gu,hL,ok⟩ ?_ ?_
  ·rintro i σ Hd hi ⟨us,L,v7,rfl,sd,p6,gu,hL,ok⟩
   refine ⟨_,rfl,_,rfl,_,rfl,_,rfl,_,rfl,_,rfl,P0,a,ns,way,(n:Int),wide,0+(i:Int),0+(j:Int),rfl,p6,ak.seq sd hS,fun b He se pe=>?_⟩;have A7:=se.at hG gu;have F6:=hL.mono se;have lL:=hL.1;have l2:us.length≤900:=by
    have:=ok.di;have:j*(j-1)≤30*30:=r6 (by omega) (by omega)
    omega
   cases b with
   | true=>
    refine ⟨true,rfl,CL ?_⟩;refine ⟨_,rfl,.inl ⟨rfl,_,.of A7⟩,_,rfl,_,rfl,by show 2≤sizeLine;decide,fun tp jr=>?_⟩
    have st:ak He (upd He tp (.tup [.int (0+(i:Int)),.int (0+(j:Int))])):=aX jr;have et:upd He tp (.tup [.int (0+(i:Int)),.int (0+(j:Int))]) tp=some (.tup [.int (i:Int),.int (j:Int)]):=by rw [aw,Int.zero_add,Int.zero_add]
    generalize upd He tp (.tup [.int (0+(i:Int)),.int (0+(j:Int))])=Hf at st et ⊢;have pf:=pe.mono st;have F7:=st _ _ A7;refine ⟨fd,us,_,rfl,rfl,F7,dg (by omega),us++[.ref tp],L++[((i:Int),(j:Int))],_,rfl,((sd.trans se).trans (aB.of st)).but xU,pf.upd hG,aw,?_,ok.push hi⟩
    refine bb.bA (H:=er P0 Hf) ((F6.mono (vW st)).push (tY pf et)) (by rw [dN hG];exact F7) zG
   | false=>exact ⟨false,rfl,lO ⟨us,L,_,rfl,sd.trans se,pe,A7,F6,ok.skip⟩⟩
  ·rintro σ Hd ⟨us,L,v7,rfl,sd,p6,gu,hL,ok⟩
   exact ⟨us,L,_,_,rfl,sd,p6,gu,hL,ok.next⟩
 ·rintro σ Hc ⟨us,L,v6,v7,rfl,sc,p5,gu,hL,ok⟩
  dsimp only;refine cx (DA (fun σ Hy=>∃(lk:Addr) (us:List V) (L:ay),σ=[some (.ref P0),some (.int (most:Int)),some (.int (n:Int)),some (.int way),some (.int wide),some (.ref lk),v6,v7]∧aB P0 H Hy∧ba Hy P0 a∧lk≠P0∧Hy lk=some (.lst us)∧bb (er P0 Hy) us L∧iH n L) ?_ ?_)
  ·rintro σ Hy ⟨lk,us,L,rfl,sy,py,Pn,Po,hL,ok⟩
   dsimp only;refine ⟨_,rfl,_,rfl,_,rfl,_,rfl,(n:Int),rfl,fun pr Pp=>?_⟩;have s6:ak Hy (upd Hy pr (.eg 0 (n:Int))):=aX Pp;refine ⟨pr,n,rfl,aw,by omega,fun l0 n0=>?_⟩
   have s7:=s6.trans (aX (o:=.lst (cg n)) n0);have e0:upd (upd Hy pr (.eg 0 (n:Int))) l0 (.lst (cg n)) l0=some (.lst (cg n)):=aw;have rp:l0≠P0:=(py.mono s6).ne n0;generalize upd (upd Hy pr (.eg 0 (n:Int))) l0 (.lst (cg n))=Hz at s7 e0 ⊢;have lu:(cg n).length=n:=by unfold cg;simp
   refine ⟨P0,a,l0,ns,cg n,rfl,py.mono s7,ak.seq (sy.trans (aB.of s7)) hS,rp,e0,by omega,fun r ys Hw sw pw fr nr uE pm=>?_⟩
   obtain ⟨Pq,ly,hy,NO⟩:=Lz pm;have xY:=(aB.of s7).trans sw;refine ⟨lk,r,n,us,ys,L,Pq,rfl,xY.at Pn Po,(hL.mono xY).mono tJ,ok,by omega,uE,ly,hy,NO,fun tt L' Hv sv F8 sh A8 Pu TV=>?_⟩
   have nt:tt≠P0:=pw.ne F8;exact kk tt n L' Hv ((sy.trans xY).trans (aB.of sv)) (pw.mono sv) (none_of (sy.trans xY) (by rw [dN nt];exact F8)) nt (sh.er (pw.mono sv)) A8 Pu n1 nm
  ·intro R hR
   refine ⟨_,rfl,rfl,_,rfl,dM (fun _=>?_) (fun _=>?_)⟩
   ·refine ⟨_,rfl,_,rfl,P0,a,ns,n,rfl,p5,ak.seq sc hS,n1,by omega,fun r Pw L' Hy sy py fr nr uE Px A8=>?_⟩
    exact hR _ _ ⟨r,Pw,L',rfl,sc.trans sy,py,nr,uE,Px,A8⟩
   ·exact hR _ _ ⟨fd,us,L,rfl,sc,p5,hG,gu,hL,ok.ok⟩
theorem Py:cf ["_law_shape","_law_found","_law_i","_law_j"] ["_law_shape"] (bo xt):=de
theorem Pz(T:Txt K mg t):bK P w K mg base cC 1 t.oE t.qL ["_law_shape"] Nc:=by
 have S:=Py;refine T.rd.eJ S (fun _ _ _ _ H _ _ _ hr h=>?_);obtain ⟨tp,n,L,rfl,⟨lt,us,eC,elt,hL⟩,ok,n9,l2,kk⟩:=h;have AL:((List.range n).map fun i:Nat=>V.int (0+(i:Int))).length=n:=by rw [aK,dR]
 refine ⟨_,(aF (vR (i0:=1) (N:=["_law_k"]) (ρ:=(fun σ=>[])) (gY [] rfl) rfl S.nd rfl (Or.inl rfl) (m_ rfl T.gI (aj (bt ig (pv 0) aH) au)) (fun _ _ _=>.nil) (fun _ _ _=>(dA au)))
  (aF (fu eF rfl (B8 (bt ig (pv 0) aH)) (sE rfl (jJ (da (i:=2) S.nd rfl (Or.inl rfl)) (jJ (da (i:=3) S.nd rfl (Or.inl rfl)) sD)))
   (aF (fq (fS fH jC jD gX (bt cq (pv 1) (pv 2)) (aj (pv 3) au)))
  (aO (fq (fS fH jC jD gX (bt cq (pv 1) (pv 3)) (aj (pv 2) au))))))
  (aO (bZ (pv 1))))),?_⟩
 refine cx (lW (zb (xs:=(List.range n).map fun i:Nat=>V.int (0+(i:Int))) (n:=n) AL (fun R h=>⟨_,rfl,tp,_,_,_,rfl,rfl,.of eC,rfl,(n:Int),rfl,by omega,by omega,h _ _ (ak.refl _) (by rw [dH];exact C0)⟩) (dg (by omega)) (fun _ i y Hx=>Hx y=some (.lst [])∧H y=none) ?_ ?_ ?_))
 ·intro D i y Ha Hb ys ⟨h1,h2⟩ hy e f
  exact ⟨f y _ hy h1,h2⟩
 ·intro D i x hx Hc R sc _ kc
  exact ⟨bD _,fun p np=>kc p _ (eZ (ak.refl _) np) np ⟨_,aw⟩ ⟨aw,none_of sc np⟩⟩
 ·intro D rs H1 nD s1 inj hA eD
  have K0:md H1 D n rs (fun _=>[]):=⟨eD,inj,fun i hi=>(hA i hi).2,fun i hi=>(hA i hi).1.1⟩;have fr:∀i,i<n→H (rs i)=none:=fun i hi=>(hA i hi).1.2;dsimp only [aY];refine cx ⟨_,rfl,tp,_,_,_,rfl,rfl,.of (s1 _ _ eC),rfl,lt,rfl,⟨_,.of (s1 _ _ elt)⟩,?_⟩;refine Cb (K:=K) (a:=lt) (xs:=us) (fun k σ Hc=>∃(g:Nat→List Nat) (v2 v3:Option V),σ=[some (.ref tp),some (.ref D),v2,v3]∧ak H Hc∧md Hc D n rs g∧eO n (L.take k) g∧(∀a,(g a).length≤2*k)∧((∀p∈L,p.1<p.2)→L.Nodup→∀a,(g a).Nodup)) ⟨_,_,_,rfl,s1,K0,eO.nil n,fun _=>av _,fun _ _ _=>jx⟩ (fun k σ Hc _ ⟨_,_,_,_,sc,_⟩=>.of (sc _ _ elt)) ?_ ?_
  ·rintro k x σ Hc hx ⟨g,v2,v3,rfl,sc,KL,nb,gl,gn⟩
   have hk:k<L.length:=by rw [←hL.1];exact (bG.mp hx).1
   obtain ⟨b,rfl,eb⟩:=hL.2 k x L[k] hx (by simp [hk])
   have pk:=ok L[k] (cR hk);have tk:L.take (k+1)=L.take k++[L[k]]:=by rw [k_,b9 hk];rfl
   have F9:L.Nodup→L[k]∉L.take k:=fun nd h=>Nd nd hk h;have A9:L[k]∈L:=cR hk;generalize L[k]=p at eb pk tk F9 A9;obtain ⟨p1,p2⟩:=p;dsimp only at pk eb;obtain ⟨i,rfl⟩:=fh pk.1;obtain ⟨j,rfl⟩:=fh pk.2.2.1;have hi:i<n:=by omega
   have hj:j<n:=by omega
   refine ⟨b,_,rfl,.of (sc _ _ eb),rfl,_,_,rfl,_,_,rfl,rfl,?_⟩;have off:∀(Hx:Hp) (i:Nat) (o:HO),i<n→ak H Hx→ak H (upd Hx (rs i) o):=fun Hx i o hi sx a u e=>by
    rw [aE (fun z=>by rw [z,fr i hi] at e;cases e)]
    exact sx _ _ e
   have K1:=KL.snoc j hi;have K2:=K1.snoc i hj;have g1:=gl i;have g2:(gm g i j j).length≤2*k+1:=bI zT (by have:=gl j;omega)
   refine ⟨_,rfl,_,rfl,D,_,_,_,rfl,rfl,.of KL.lst,ma hi,.inl ⟨rfl,_,.of (KL.at' i hi)⟩,_,rfl,rs i,_,_,rfl,rfl,KL.at' i hi,dg (by rw [aK];omega),?_⟩
   refine ⟨_,rfl,_,rfl,D,_,_,_,rfl,rfl,.of K1.lst,ma hj,.inl ⟨rfl,_,.of (K1.at' j hj)⟩,_,rfl,rs j,_,_,rfl,rfl,K1.at' j hj,dg (by rw [aK];omega),?_⟩
   exact ⟨_,_,_,rfl,off _ _ _ hj (off _ _ _ hi sc),K2,by rw [tk];exact nb.snoc,fun a=>bI zT (by have:=zT (g:=g) (i:=i) (j:=j) (a:=a);have:=gl a;omega),fun up nd a=>Ng (gn up nd) nb hi hj (by have:=up _ A9;dsimp only at this;omega) (F9 nd) (fun h=>by have h1:=up _ (List.mem_of_mem_take h);have h2:=up _ A9;dsimp only at h1 h2;omega) a⟩
  ·rintro σ Hc ⟨g,v2,v3,rfl,sc,KL,nb,gl,gn⟩
   rw [hL.1,iS] at nb;rw [hL.1] at gl;exact ⟨_,rfl,kk _ _ _ _ sc nD fr KL nb gl gn⟩
theorem PB:cf ["_law_beside_here","_law_left","_law_found","_law_place","_law_some","_law_bad"] ["_law_beside_here","_law_left"] (bo xu):=de
theorem PD(T:Txt K mg t):bK P w K mg base cC 1 t.oF t.qM ["_law_beside_here","_law_left"] Np:=by
 have S:=PB;refine T.rf.eJ S (fun _ _ _ _ H _ _ _ hr h=>?_);obtain ⟨D,lf,n,rs,g,zs,rfl,KL,gn,gl,A_,zn,z1,kk⟩:=h;have gr:=hr.units
 refine ⟨_,(aF (putL 2 S.nd (dA au))
  (aF (fu eF rfl (ft (pv 1)) (da (i:=3) S.nd rfl (Or.inl rfl))
   (aF (tG 4 S.nd (kC (N:=["_law_other","_law_left"]) (ρ:=(fun σ=>[σ[1]?.join])) (gY [1] rfl) rfl (ft (bt cq (pv 0) (pv 3))) (fun _ _ _=>(.one (yL (Mu (K:=K)) (pv 0) (pv 1) rfl))) (fun _ _ _=>(pv 0))))
  (aF (J6 (i0:=5) (N:=["_law_one","_law_some","_law_beside_here"]) (ρ:=(fun σ=>[σ[4]?.join,σ[0]?.join])) ⟨rfl,rfl,(fun _=>rfl),(fun _=>rfl),by decide +kernel,(List.forall_mem_cons.mpr ⟨rfl,(List.forall_mem_cons.mpr ⟨rfl,(List.forall_mem_nil _)⟩)⟩),J1 (by rfl),rfl,by decide +kernel,rfl,(fun σ j v h=>match j,h with | 0,h=>⟨4,_,rfl,rfl,join_some h,Or.inr (Or.inl rfl),.inl rfl,.inl rfl⟩ | 1,h=>⟨0,_,rfl,rfl,join_some h,Or.inr (Or.inl rfl),.inl rfl,.inl rfl⟩ | j+2,h=>by cases h),(fun _ _=>rfl)⟩ rfl S.nd rfl (Or.inl rfl) (ft (pv 4)) (fun _ _ _=>(.one (cS (MW (K:=K) gr) (kC (N:=["_law_other","_law_one","_law_beside_here"]) (ρ:=(fun σ=>[σ[0]?.join,σ[2]?.join])) (gY [0,2] rfl) rfl (Ka (K:=K) (pv 1)) (fun _ _ _=>(.one (PW.pt (pw_and (cS vz (pv 0) (pv 1)) (pw_and1 (yL (Mw (K:=K)) (pv 0) (bt (za (K:=K)) (pv 2) (pv 1)) rfl)))))) (fun _ _ _=>(pv 0))) (dA au)))) (fun _ _ _=>(pv 0)))
  (aO (dJ (cS (zQ gr) (pv 5) (dA au)) (aO (fq (fS fH jC jD gX (pv 2) (aj (pv 3) au)))) dI)))))
  (aO (bZ (pv 2))))),?_⟩
 refine cx ⟨bD _,fun fd eS=>?_⟩;have s1:ak H (upd H fd (.lst [])):=aX eS;have F_:upd H fd (.lst []) fd=some (.lst []):=aw;dsimp only [aY];generalize upd H fd (.lst [])=H1 at s1 F_ ⊢;refine cx ⟨_,rfl,lf,rfl,⟨_,.of (s1 _ _ A_)⟩,?_⟩;refine pP (K:=K) (a:=lf) (xs:=zs.map fun k:Nat=>V.int (k:Int)) (fun k σ Hc=>∃(v3 v4 v5:Option V),σ=[some (.ref D),some (.ref lf),some (.ref fd),v3,v4,v5]∧ak H Hc∧Hc fd=some (.lst (((zs.take k).filter (iM g zs)).map fun k:Nat=>V.int (k:Int)))) ⟨_,_,_,rfl,s1,F_⟩ (fun k σ Hc _ ⟨_,_,_,_,sc,_⟩=>.of (sc _ _ A_)) ?_ ?_
 ·rintro k x σ Hc uL ⟨v3,v4,v5,rfl,sc,ef⟩
  rw [bq] at uL;have hk:k<zs.length:=by
   rcases Nat.lt_or_ge k zs.length with h | h;·exact h
   ·rw [rV h] at uL
    cases uL
  rw [b9 hk] at uL;cases uL;have pz:zs[k]∈zs:=cR hk;have tk:zs.take (k+1)=zs.take k++[zs[k]]:=by rw [k_,b9 hk];rfl
  generalize zs[k]=p at pz tk ⊢;have pn:=zn p pz;have Ga:=sc _ _ (KL.at' p pn);dsimp only [aY];refine cx (lW (Ek (xs:=(g p).map fun k:Nat=>V.int (k:Int)) (fun v=>pR v (zs.map fun k:Nat=>V.int (k:Int))) (fun R h=>⟨_,rfl,_,rfl,D,_,_,_,rfl,rfl,.of (sc _ _ KL.lst),ma pn,rs p,rfl,⟨_,.of Ga⟩,h _ _ (ak.refl _) (kG (.of Ga))⟩) (dg (by rw [aK];have:=gl p pn;omega)) ?_ (fun x Hx R h=>⟨_,rfl,h⟩) fun l H2 nl s2 el=>?_))
  ·intro x Ba Hd R sd kR
   obtain ⟨j,hj,rfl⟩:=dr.mp Ba;exact ⟨_,rfl,_,rfl,lf,_,rfl,.inl (.of (sd _ _ (sc _ _ A_))),rfl,D9 _,_,rfl,kR⟩
  rw [Ad,show ((g p).filter fun k:Nat=>pR (.int (k:Int)) (zs.map fun k:Nat=>V.int (k:Int)))=kT g zs p from List.filter_congr fun k _=>D8 ..] at el;have sn:∀a∈kT g zs p,a<n:=fun a ha=>gn p pn a (gJ.mp ha).1;have ls:(kT g zs p).length≤900:=bI (rY ..) (gl p pn);dsimp only [aY];refine cx (lW (Nl (xs:=(kT g zs p).map fun k:Nat=>V.int (k:Int)) (fun v=>!(qg g zs p (kM v)).isEmpty) (fun R h=>⟨_,rfl,l,rfl,⟨_,.of el⟩,h _ _ (ak.refl _) (kG (.of el))⟩) (dg (by rw [aK];omega)) ?_ (fun x Hx R h=>⟨_,rfl,h⟩) fun l' H3 nV s3 l9=>?_))
  ·intro x Ba Hd R sd kR
   obtain ⟨j,hj,rfl⟩:=dr.mp Ba;have jn:=sn j hj;have PF:=(sc.trans s2).trans sd;dsimp only [yK,lF];refine Ek (xs:=(kT g zs p).map fun k:Nat=>V.int (k:Int)) (fun v=>!decide (kM v=j) && !decide (kM v∈g j)) (fun R h=>⟨_,rfl,l,rfl,⟨_,.of (sd _ _ el)⟩,h _ _ (ak.refl _) (kG (.of (sd _ _ el)))⟩) (dg (by rw [aK];omega)) ?_ (fun x Hx R h=>⟨_,rfl,h⟩) fun l3 H7 hI s7 oP=>?_
   ·intro y PH He R se kR
    obtain ⟨j',dO,rfl⟩:=dr.mp PH;have Gb:=PF.trans se;refine ⟨_,rfl,_,rfl,rfl,_,rfl,dM (fun hc=>?_) (fun hc=>?_)⟩
    ·refine ⟨_,rfl,_,rfl,_,rfl,D,_,_,_,rfl,rfl,.of (Gb _ _ KL.lst),ma jn,rs j,_,rfl,.inl (.of (Gb _ _ (KL.at' j jn))),rfl,D9 _,_,rfl,?_⟩
     rw [D8];have eI:¬j'=j:=fun e=>by subst e;exact absurd hc (by simp [tH])
     have:=kR;simp only [Eu,bX eI,Bool.not_false,Bool.true_and] at this;exact this
    ·have eI:j'=j:=by
      by_cases e:(j':Int)=(j:Int);·omega
      ·exact absurd (by simp [tH,e]) hc
     have:=kR;simp only [Eu,bF eI,Bool.not_true,Bool.false_and] at this;exact this
   ·refine ⟨bD _,fun p' np=>⟨l3,p',_,rfl,rfl,.of (aX np _ _ oP),aw,_,rfl,?_⟩⟩
    have:=kR _ (s7.trans (aX (o:=.lst []) np));rw [Ad,List.isEmpty_map];exact this
  have oQ:=sc.trans (s2.trans s3);have PJ:=(s2.trans s3) _ _ ef;rw [Ad] at l9;dsimp only [aY];refine ⟨_,rfl,bD _,fun e ne=>?_⟩;have se:ak H3 (upd H3 e (.lst [])):=aX ne;have ee:upd H3 e (.lst []) e=some (.lst ([]:List V)):=aw;generalize upd H3 e (.lst [])=H4 at se ee ⊢;have oU:=se _ _ PJ;have Gd:=se _ _ l9;have pZ:iM g zs p=((kT g zs p).filter fun k:Nat=>!(qg g zs p (kM (.int (k:Int)))).isEmpty).isEmpty:=rfl;generalize ((kT g zs p).filter fun k:Nat=>!(qg g zs p (kM (.int (k:Int)))).isEmpty)=bs at Gd pZ;refine ⟨l',e,bs.map iN,[],rfl,rfl,.of (by rw [cH];exact Gd),.of ee,_,rfl,dM (fun hb=>?_) (fun hb=>?_)⟩
  ·have b0:bs=[]:=by
    have:=hV hb;cases bs with
    | nil=>rfl
    | cons=>cases this
   subst b0;refine ⟨_,rfl,.inl ⟨rfl,_,.of oU⟩,_,rfl,fd,_,_,rfl,rfl,oU,dg (by rw [aK];have:=rY (iM g zs) (zs.take k);rw [o9] at this;omega),_,_,_,rfl,eZ (oQ.trans se) eS,?_⟩
   rw [aw,tk,lh,iV,ae (show iM g zs p=true from pZ),j_];rfl
  ·refine ⟨_,_,_,rfl,oQ.trans se,?_⟩
   have b0:iM g zs p=false:=by
    rw [pZ];cases bs with
    | nil=>exact absurd (bF rfl) hb
    | cons=>rfl
   rw [oU,tk,lh,iV,b0];simp
 ·rintro σ Hc ⟨v3,v4,v5,rfl,sc,ef⟩
  rw [aK,iS] at ef;exact ⟨_,rfl,kk _ _ sc eS ef⟩
theorem PK:cf ["_law_pen","_law_shape","_law_beside_here","_law_left","_law_found","_law_some"] ["_law_pen","_law_shape"] (bo xv):=de
theorem PL(T:Txt K mg t):bK P w K mg base cC 3 t.oG t.qN ["_law_pen","_law_shape"] (Nt K):=by
 have S:=PK;refine T.rg.eJ S (fun _ A _ _ H _ _ _ hr h=>?_);obtain ⟨P0,a,tp,ns,n,L,rfl,pc,hS,Ge,jv,pw,lt,n1,Gf,l4,kN,kk⟩:=h;have gr:=hr.units;have gv:jX n L:=fun p hp=>by have:=lt p hp;exact ⟨this.1,by omega,by omega,this.2.2⟩
 have g_:kO L:=fun p hp=>by have:=lt p hp;omega
 refine ⟨_,(aF (putL 2 S.nd (bC (Pz T) hr T.Fo T.rd.kp T.Fn cu (aj (pv 1) au)))
  (aF (putL 3 S.nd (gU (tE rfl) rfl T.kX boot_list (aj (gU tD rfl T.gI tF (aj (bt ig (pv 1) aH) au)) au)))
  (aF (putL 4 S.nd (dA au))
  (aF (yE eF (cS (zD gr) (pv 3) (dA au)) (aF (putL 5 S.nd (bC (PD T) hr T.Fq T.rf.kp T.Fp cu (aj (pv 2) (aj (pv 3) au))))
  (aF (dJ (cS (zQ gr) (pv 5) (dA au)) (aO (bZ BZ)) dI)
  (aF (fq (fS fH jC jD gX (pv 4) (aj (bt cq (pv 5) (bC (ju T) hr T.iR T.fE.kp T.iQ cu (aj (pv 0) (aj (df kB rfl T.jo jB (aj (pv 5) au)) au)))) au)))
  (aO (fq (fS fH PySem.F.slot_list_remove PySem.F.type_list_remove Eb (pv 3) (aj (bt cq (pv 4) (HQ HV aH)) au))))))))
  (aO (bZ (pv 4))))))),?_⟩
 refine eB fun _ uF=>⟨_,rfl,tp,n,L,rfl,jv,gv,by omega,by omega,fun H1 D rs g s1 nD uB KL nb PM _=>?_⟩
 have gn:∀i,i<n→∀j∈g i,j<n:=fun i hi j hj=>by
  rcases (nb i j hi).mp hj with e | e
  ·have:=gv _ e
   omega
  ·have:=gv _ e
   omega
 have gl:∀i,i<n→(g i).length≤900:=fun i _=>bI (PM i) (by omega)
 have p1:=pc.mono s1;have DP:D≠P0:=pc.ne nD;have rP:∀i,i<n→rs i≠P0:=fun i hi=>pc.ne (uB i hi);have uJ:aU K (er P0 H1) a (ns.map V.int):=ak.seq (aB.of s1) hS;obtain ⟨lt',us,eC,elt,ux⟩:=id (jv.mono s1);dsimp only [aY];refine uF _ _ ?_;refine eB fun _ oR=>⟨_,rfl,tp,_,_,_,rfl,rfl,.of eC,rfl,(n:Int),rfl,fun q1 mD=>⟨q1,n,rfl,aw,by omega,fun l1 uM=>?_⟩⟩
 have s2:ak H1 (upd (upd H1 q1 (.eg 0 (n:Int))) l1 (.lst (cg n))):=(aX mD).trans (aX uM);have e1:upd (upd H1 q1 (.eg 0 (n:Int))) l1 (.lst (cg n)) l1=some (.lst ((List.range n).map fun k:Nat=>V.int (k:Int))):=by rw [aw];rfl
 have rF:H1 l1=none:=none_of (aX mD) uM;dsimp only [aY];refine oR _ _ ?_;generalize upd (upd H1 q1 (.eg 0 (n:Int))) l1 (.lst (cg n))=H2 at s2 e1 ⊢;refine eB fun _ oS=>⟨bD _,fun l2 rG=>?_⟩;have s3:ak H2 (upd H2 l2 (.lst [])):=aX rG;have e2:upd H2 l2 (.lst []) l2=some (.lst (([]:List Nat).map fun k:Nat=>V.int (k:Int))):=aw;have mE:H1 l2=none:=none_of s2 rG;have PN:H l2=none:=none_of s1 mE;have xZ:l1≠P0:=p1.ne rF;have uN:l2≠P0:=p1.ne mE;have Gg:l1≠l2:=fun z=>by rw [z,rG] at e1;cases e1
 dsimp only [aY];refine oS _ _ ?_;generalize upd H2 l2 (.lst [])=H3 at s3 e2 ⊢;have hE:=s2.trans s3;refine cx ⟨fun m σ Hc=>∃(zs fs:List Nat) (v5:Option V),σ=[some (.ref P0),some (.ref tp),some (.ref D),some (.ref l1),some (.ref l2),v5]∧m=zs.length∧Hc l1=some (.lst (zs.map fun k:Nat=>V.int (k:Int)))∧Hc l2=some (.lst (fs.map fun k:Nat=>V.int (k:Int)))∧qh n g zs fs∧aB P0 H1 Hc∧ba Hc P0 a,⟨_,List.range n,[],_,rfl,rfl,s3 _ _ e1,e2,⟨by rw [j8],fun A x B e=>by cases A <;> cases e⟩,aB.of hE,p1.mono hE⟩,?_⟩
 rintro m σ Hc ⟨zs,fs,v5,rfl,rfl,ez,ef,pk,sc,p3⟩;have pm:=pk.pm;have ll:=pm.length_eq;rw [dF,dR] at ll;have zn:∀z∈zs,z<n:=fun z hz=>cL.mp (pm.mem_iff.mp (mG _ hz));have TY:(zs.map fun k:Nat=>V.int (k:Int)).length=zs.length:=aK ..;refine ⟨_,rfl,bD _,fun le A0=>?_⟩;have s4:ak Hc (upd Hc le (.lst [])):=aX A0;have e4:upd Hc le (.lst []) le=some (.lst []):=aw;generalize upd Hc le (.lst [])=H4 at s4 e4 ⊢;have rC:=sc.trans (aB.of s4);have p4:=p3.mono s4;have rB:=s4 _ _ ez;have oU:=s4 _ _ ef;refine ⟨l1,le,_,rfl,rfl,.of rB,e4,_,rfl,dM (fun hz=>?_) (fun hz=>?_)⟩
 ·have z0:1≤zs.length:=by
   cases zs with
   | nil=>cases hz
   | cons=>simp
  have PO:md H4 D n rs g:=⟨rC.at DP KL.lst,KL.inj,KL.ne,fun i hi=>rC.at (rP i hi) (KL.at' i hi)⟩;refine ⟨_,fun _ _ h=>h,?_⟩;refine cx ⟨_,rfl,_,rfl,D,l1,n,rs,g,zs,rfl,PO,gn,gl,rB,zn,by omega,fun H5 q s5 nq eq=>?_⟩
  have qP:q≠P0:=p4.ne nq;have j7:=rC.trans (aB.of s5);have p5:=p4.mono s5;have oV:=s5 _ _ rB;have x6:=s5 _ _ oU;dsimp only [aY];refine eB fun _ uK=>⟨_,rfl,bD _,fun e ne=>?_⟩;have se:ak H5 (upd H5 e (.lst [])):=aX ne;have ee:upd H5 e (.lst []) e=some (.lst ([]:List V)):=aw;generalize upd H5 e (.lst [])=TZ at se ee ⊢;generalize Bb:zs.filter (iM g zs)=ws at eq;have wz:∀w∈ws,w∈zs∧iM g zs w=true:=fun w hw=>by rw [←Bb] at hw;exact gJ.mp hw
  have lw:ws.length≤zs.length:=by rw [←Bb];exact rY ..
  refine ⟨q,e,ws.map iN,[],rfl,rfl,.of (by rw [cH];exact se _ _ eq),.of ee,_,rfl,dM (fun hb=>?_) (fun hb=>?_)⟩
  ·have w0:ws=[]:=by
    have:=hV hb;cases ws with
    | nil=>rfl
    | cons=>cases this
   subst w0;exact kN _ ((aB.of s1).trans (j7.trans (aB.of se))) (p5.mono se) fun o ho f=>Nr ho (Ep ho f) g_ nb (fun e=>by rw [e] at z0;cases z0) zn Bb
  have w1:1≤ws.length:=by
   cases ws with
   | nil=>exact absurd (bF rfl) hb
   | cons=>simp
  have j7:=j7.trans (aB.of se);have p5:=p5.mono se;have oV:=se _ _ oV;have x6:=se _ _ x6;have eq:=se _ _ eq;clear rB oU;dsimp only [kr];refine uK _ _ ?_;have T1:(ws.map fun k:Nat=>V.int (k:Int)).length=ws.length:=aK ..;refine cx ⟨_,rfl,.inl ⟨rfl,_,.of x6⟩,_,rfl,_,rfl,_,rfl,q,_,rfl,.inl (.of eq),P0,a,ns,_,rfl,p5,ak.seq j7 uJ,by omega,eY.of_lt (by omega) (by omega),fun c H6 c0 c1 s6 p6=>?_⟩
  obtain ⟨i,rfl⟩:=fh c0;have iw:i<ws.length:=by omega
  have ej:(ws.map fun k:Nat=>V.int (k:Int))[i]?=some (.int (ws[i]:Nat)):=by rw [bq,b9 iw];rfl
  obtain ⟨jz,jf⟩:=wz ws[i] (cR iw);generalize ws[i]=j at ej jz jf;have x8:=s6.at xZ oV;have PQ:=s6.at uN x6;refine ⟨q,_,_,.int (j:Int),rfl,rfl,.of (s6.at qP eq),lJ ej,?_⟩;refine ⟨l2,_,_,rfl,rfl,PQ,dg (by rw [aK];omega),?_⟩
  have Bc:(fs.map fun k:Nat=>V.int (k:Int))++[V.int (j:Int)]=(fs++[j]).map fun k:Nat=>V.int (k:Int):=by rw [j_];rfl
  rw [Bc];have oT:aB P0 H1 (upd H6 l2 (.lst ((fs++[j]).map fun k:Nat=>V.int (k:Int)))):=(j7.trans s6).but mE;have p7:ba (upd H6 l2 (.lst ((fs++[j]).map fun k:Nat=>V.int (k:Int)))) P0 a:=p6.upd uN;have Bd:upd H6 l2 (.lst ((fs++[j]).map fun k:Nat=>V.int (k:Int))) l2=some (.lst ((fs++[j]).map fun k:Nat=>V.int (k:Int))):=aw;have uO:upd H6 l2 (.lst ((fs++[j]).map fun k:Nat=>V.int (k:Int))) l1=_:=(aE Gg).trans x8;generalize upd H6 l2 (.lst ((fs++[j]).map fun k:Nat=>V.int (k:Int)))=H7 at oT p7 Bd uO ⊢;have last:fQ ((fs++[j]).map fun k:Nat=>V.int (k:Int)) (-1)=some (.int (j:Int)):=ME (by simp) (by simp)
  have ix:zs.idxOf j<zs.length:=iU jz;refine ⟨_,rfl,.inl ⟨rfl,_,.of uO⟩,_,rfl,1,rfl,l2,_,_,.int (j:Int),rfl,rfl,.of Bd,last,l1,zs.map fun k:Nat=>(k:Int),zs.idxOf j,(j:Int),rfl,rfl,by rw [uO,cH];rfl,?_,fun m' dt e=>?_,?_⟩
  ·rw [bq,b9 ix,rZ]
   rfl
  ·have kU:m'<zs.length:=by omega
   rw [bq,b9 kU] at e;have e':((zs[m']:Nat):Int)=(j:Int):=Option.some.inj e;have:=z5 dt;rw [b9 kU] at this;exact this (cW some (by omega))
  ·have Be:((zs.map fun k:Nat=>(k:Int)).map V.int).eraseIdx (zs.idxOf j)=(zs.erase j).map fun k:Nat=>V.int (k:Int):=by rw [cH,z6,List.erase_eq_eraseIdx_of_idxOf rfl];rfl
   rw [Be];refine ⟨(zs.erase j).length,?_,zs.erase j,fs++[j],_,rfl,rfl,aw,(aE (Ne.symm Gg)).trans Bd,pk.step jz jf,oT.but rF,p7.upd xZ⟩;rw [ym jz];omega
 ·have z0:zs=[]:=by
   cases zs with
   | nil=>rfl
   | cons=>exact absurd rfl hz
  subst z0;rw [uY] at pm;exact ⟨_,rfl,kk _ _ _ ((aB.of s1).trans rC) p4 uN PN oU pm (Eo pm pw lt (pk.Nq nb))⟩
abbrev oW:Pos:=(⟨61,30,61,55⟩:Pos)
theorem PR:cf ["shape","linked","left","counts","picked","place","other"] ["shape"] (bo xg):=de
theorem PU(T:Txt K mg t)(hB:jj base mg):bK P w K mg base cC 3 t.oo t.mj ["shape"] (N9 108 oW):=by
 have S:=PR;refine T.qV.wL T.tab S (fun vs H Q E h=>?_) (fun c A outer s H vs Q E hC hr h=>?_)
 ·obtain ⟨tp,n,L,rfl,_⟩:=h
  rfl
 ·obtain ⟨tp,n,L,rfl,jv,gv,n9,tab,kk⟩:=h
  have gr:=hr.units;obtain ⟨lt,us,eC,elt,ux⟩:=id jv
  refine ⟨_,(aF (putL 1 S.nd (bC (FD T) hr T.Az T.oI.kp T.Ay cu (aj (pv 0) au)))
   (aF (putL 2 S.nd (gU (tE rfl) rfl T.kX boot_list (aj (gU tD rfl T.gI tF (aj (bt ig (pv 0) aH) au)) au)))
   (aF (tG 3 S.nd (bH CH (dA (aj aH au)) (bt ig (pv 0) aH)))
   (aF (putL 4 S.nd (dA au))
   (aF (yE eF (cS sN (df kB rfl T.jo jB (aj (pv 2) au)) aH) (aF (putL 5 S.nd (NL (i:=3) (aj (pv 2) au) rfl T.xH rfl (hr.mono (by decide)) hB rfl hC rfl rfl (fun _ _ _ _ _ _ _=>rfl) rfl rfl rfl rfl))
   (aF (fq (fS fH PySem.F.slot_list_remove PySem.F.type_list_remove Eb (pv 2) (aj (pv 5) au)))
   (aF (fq (fS fH jC jD gX (pv 4) (aj (pv 5) au)))
   (aO (fu eF rfl (DV (bt cq (pv 1) (pv 5))) (da (i:=6) S.nd rfl (Or.inl rfl))
    (aO (@HB _ _ _ _ _ _ _ _ _ _ _ _ _ (pv 3) (pv 6) Kp aH HD set_list (by intros;rfl)))))))))
   (aO (bZ (N3 rfl rfl T.kX rfl T.Fz (aj (pv 4) au))))))))),?_⟩
  refine cx ⟨_,rfl,tp,n,L,rfl,jv,gv,n9,fun H1 D ds f s1 nD xI KL nb=>?_⟩;have Gh:=s1 _ _ eC;have T2:=tab.mono s1;dsimp only [aY];refine cx ⟨_,rfl,tp,_,_,_,rfl,rfl,.of Gh,rfl,(n:Int),rfl,fun q1 mD=>⟨q1,n,rfl,aw,by omega,fun l1 uM=>?_⟩⟩
  have s2:ak H1 (upd (upd H1 q1 (.eg 0 (n:Int))) l1 (.lst (cg n))):=(aX mD).trans (aX uM);have e1:upd (upd H1 q1 (.eg 0 (n:Int))) l1 (.lst (cg n)) l1=some (.lst ((List.range n).map fun k:Nat=>V.int (k:Int))):=by rw [aw];rfl
  have rF:H1 l1=none:=none_of (aX mD) uM;generalize upd (upd H1 q1 (.eg 0 (n:Int))) l1 (.lst (cg n))=H2 at s2 e1 ⊢;dsimp only [aY];refine cx ⟨by show 1≤sizeLine;decide,fun l nl=>?_⟩
  refine ⟨_,rfl,tp,_,_,_,rfl,rfl,.of ((aX nl) _ _ (s2 _ _ Gh)),rfl,l,(n:Int),[.int 0],rfl,rfl,aw,by omega,by omega,?_,fun l2 rG=>?_⟩
  ·rw [dH]
   exact bI (show [V.int 0].length*n≤1000 by simp;omega) (by decide)
  have e0:(List.replicate ((n:Int).toNat) [V.int 0]).flatten=((List.range n).map fun a=>(d6 L [] a:Int)).map V.int:=by
   rw [Kq n];refine rT fun i=>?_;rw [bq,bq,bq,List.getElem?_replicate];by_cases hi:i<n;·simp [hi,d6]
   ·simp [hi]
  rw [e0];have s3:ak H2 (upd (upd H2 l (.lst [.int 0])) l2 (.lst (((List.range n).map fun a=>(d6 L [] a:Int)).map V.int))):=(aX nl).trans (aX rG);have e2:upd (upd H2 l (.lst [.int 0])) l2 (.lst (((List.range n).map fun a=>(d6 L [] a:Int)).map V.int)) l2=some (.lst (((List.range n).map fun a=>(d6 L [] a:Int)).map V.int)):=aw;have mE:H2 l2=none:=none_of (aX nl) rG;generalize upd (upd H2 l (.lst [.int 0])) l2 (.lst (((List.range n).map fun a=>(d6 L [] a:Int)).map V.int))=H3 at s3 e2 ⊢;dsimp only [aY];refine cx ⟨bD _,fun l3 hI=>?_⟩;have s4:ak H3 (upd H3 l3 (.lst [])):=aX hI;have e3:upd H3 l3 (.lst []) l3=some (.lst (([]:List Nat).map fun k:Nat=>V.int (k:Int))):=aw;generalize upd H3 l3 (.lst [])=H4 at s4 e3 ⊢;have kY:ak H1 H4:=(s2.trans s3).trans s4;have Gi:=s1.trans kY;have m1:H l1=none:=none_of s1 rF;have m2:H l2=none:=none_of s1 (none_of s2 mE);have m3:H l3=none:=none_of s1 (none_of (s2.trans s3) hI);have Gj:l1≠l2:=fun z=>by rw [z,mE] at e1;cases e1
  have Gk:l1≠l3:=fun z=>by rw [←z,s3 _ _ e1] at hI;cases hI
  have Gm:l2≠l3:=fun z=>by rw [←z,e2] at hI;cases hI
  have KF:=KL.fr;have y1:l1≠D:=fun z=>absurd KL.lst (by rw [←z,rF];exact fun h=>by cases h)
  have y2:l2≠D:=fun z=>absurd (s2 _ _ KL.lst) (by rw [←z,mE];exact fun h=>by cases h)
  have y3:l3≠D:=fun z=>absurd ((s2.trans s3) _ _ KL.lst) (by rw [←z,hI];exact fun h=>by cases h)
  have z1:∀i,i<n→ds i≠l1:=fun i hi z=>absurd (KL.at' i hi trivial) (by rw [z,rF];exact fun h=>by cases h)
  have z2:∀i,i<n→ds i≠l2:=fun i hi z=>absurd (s2 _ _ (KL.at' i hi trivial)) (by rw [z,mE];exact fun h=>by cases h)
  have z3:∀i,i<n→ds i≠l3:=fun i hi z=>absurd ((s2.trans s3) _ _ (KL.at' i hi trivial)) (by rw [z,hI];exact fun h=>by cases h)
  obtain ⟨T3,eP⟩:=tab.at;have pt:∀{b:Addr},H b=none→b≠108:=fun h z=>by rw [z,eP] at h;cases h
  have K4:jY H4 D n ds f:=⟨kY _ _ KF.lst,fun i hi=>(KF.at' i hi).imp (fun e=>kY _ _ e) fun⟨ob,e⟩=>⟨ob,kY _ _ e⟩⟩;dsimp only [aY];refine cx ⟨fun m σ Hc=>∃(zs Pk:List Nat) (v5 v6:Option V),σ=[some (.ref tp),some (.ref D),some (.ref l1),some (.ref l2),some (.ref l3),v5,v6]∧m=zs.length∧d5 108 H Hc∧cV 108 oW kW Hc∧jY Hc D n ds f∧Hc l1=some (.lst (zs.map fun k:Nat=>V.int (k:Int)))∧Hc l2=some (.lst (((List.range n).map fun a=>(d6 L Pk a:Int)).map V.int))∧Hc l3=some (.lst (Pk.map fun k:Nat=>V.int (k:Int)))∧(zs++Pk).Perm (List.range n)∧jZ n (rL L) Pk,⟨_,List.range n,[],_,_,rfl,rfl,fun b o _ e=>Gi _ _ e,tab.mono Gi,K4,(s3.trans s4) _ _ e1,s4 _ _ e2,e3,by rw [j8],jZ.nil⟩,?_⟩
  rintro m σ Hc ⟨zs,Pk,v5,v6,rfl,rfl,sc,tc,Kc,ez,ec,ep,pm,pk⟩;have ll:=pm.length_eq;rw [dF,dR] at ll;have zn:∀z∈zs,z<n:=fun z hz=>cL.mp (pm.mem_iff.mp (mG _ hz));refine ⟨_,rfl,l1,_,rfl,.inl (.of ez),_,_,rfl,rfl,_,rfl,dM (fun hb=>?_) (fun hb=>?_)⟩
  ·have z0:zs≠[]:=fun z=>by subst z;have:=hV hb;simp at this
   refine ⟨_,fun _ _ h=>h,?_⟩;refine cx ⟨_,rfl,l1,l2,zs,_,rfl,.of ez,z0,rfl,.of ec,fun y hy=>by rw [aK,dR];exact zn y hy,tc,fun h H5 mk s5 t5=>?_⟩
   have hz:=mk.1;have hn:=zn h hz;have most:∀a,a<n→a∉Pk→(Pk.filter (rL L a)).length≤(Pk.filter (rL L h)).length:=fun a an aP=>by
    have az:a∈zs:=by
     have:=pm.mem_iff.mpr (cL.mpr an);rcases dw.mp this with h | h;·exact h
     ·exact absurd h aP
    have:=mk.2 a az;rw [getD_map an,getD_map hn] at this;unfold d6 at this;omega
   have j7:d5 108 H H5:=fun b o n e=>s5 b o n (sc b o n e);have K5:=Kc.keep (a:=108) (fun b u n e=>s5 b u n e) (fun z=>pt nD z.symm) (fun i hi=>pt (xI i hi));have oV:=s5 _ _ (pt m1) ez;have PV:=s5 _ _ (pt m2) ec;have PX:=s5 _ _ (pt m3) ep;dsimp only [aY];have ix:zs.idxOf h<zs.length:=iU hz;have Be:((zs.map fun k:Nat=>(k:Int)).map V.int).eraseIdx (zs.idxOf h)=(zs.erase h).map fun k:Nat=>V.int (k:Int):=by rw [cH,z6,List.erase_eq_eraseIdx_of_idxOf rfl];rfl
   refine cx ⟨_,rfl,.inl ⟨rfl,_,.of oV⟩,_,rfl,l1,zs.map fun k:Nat=>(k:Int),zs.idxOf h,(h:Int),rfl,rfl,by rw [oV,cH];rfl,?_,fun m' dt e=>?_,?_⟩
   ·rw [bq,b9 ix,rZ]
    rfl
   ·have kU:m'<zs.length:=by omega
    rw [bq,b9 kU] at e;have e':((zs[m']:Nat):Int)=(h:Int):=Option.some.inj e;have:=z5 dt;rw [b9 kU] at this;exact this (cW some (by omega))
   rw [Be];have o6:∀b u,b≠l1→H5 b=some u→upd H5 l1 (.lst ((zs.erase h).map fun k:Nat=>V.int (k:Int))) b=some u:=fun b u ne e=>by rw [aE ne];exact e
   have x8:upd H5 l1 (.lst ((zs.erase h).map fun k:Nat=>V.int (k:Int))) l1=some (.lst ((zs.erase h).map fun k:Nat=>V.int (k:Int))):=aw;generalize upd H5 l1 (.lst ((zs.erase h).map fun k:Nat=>V.int (k:Int)))=H6 at o6 x8 ⊢;have xW:d5 108 H H6:=fun b o n e=>o6 b o (fun z=>by rw [z,m1] at e;cases e) (j7 b o n e)
   have t6:=t5.off oV (fun _ z=>by cases z) (fun _ z=>by cases z) o6
   have K6:=K5.keep o6 y1 z1;have PY:=o6 _ _ (Ne.symm Gj) PV;have Bf:=o6 _ _ (Ne.symm Gk) PX;dsimp only;refine cx ⟨_,rfl,.inl ⟨rfl,_,.of Bf⟩,_,rfl,l3,_,_,rfl,rfl,Bf,dg (by rw [aK];omega),?_⟩
   have Bc:(Pk.map fun k:Nat=>V.int (k:Int))++[V.int (h:Int)]=(Pk++[h]).map fun k:Nat=>V.int (k:Int):=by rw [j_];rfl
   rw [Bc];have o7:∀b u,b≠l3→H6 b=some u→upd H6 l3 (.lst ((Pk++[h]).map fun k:Nat=>V.int (k:Int))) b=some u:=fun b u ne e=>by rw [aE ne];exact e
   have Gn:upd H6 l3 (.lst ((Pk++[h]).map fun k:Nat=>V.int (k:Int))) l3=some (.lst ((Pk++[h]).map fun k:Nat=>V.int (k:Int))):=aw;generalize upd H6 l3 (.lst ((Pk++[h]).map fun k:Nat=>V.int (k:Int)))=H7 at o7 Gn ⊢;have oT:d5 108 H H7:=fun b o n e=>o7 b o (fun z=>by rw [z,m3] at e;cases e) (xW b o n e)
   have t7:=t6.off Bf (fun _ z=>by cases z) (fun _ z=>by cases z) o7
   have K7:=K6.keep o7 y3 z3;have PZ:=o7 _ _ Gm PY;have uO:=o7 _ _ Gk x8;dsimp only;refine MA (a:=ds h) (kvs:=dk (f h)) (fun Q q=>⟨_,rfl,_,rfl,D,_,_,_,rfl,rfl,.of K7.lst,ma hn,q⟩) (K7.at' h hn) fun ob Hf uz off=>?_;have Kf:=K7.bg off hn uz KL.inj (KL.ne h hn);have uc:d5 108 H Hf:=fun b o n e=>off b o (fun z=>by rw [z,xI h hn] at e;cases e) (oT b o n e)
   have tf:cV 108 oW kW Hf:=by
    rcases K7.at' h hn with e | ⟨ob,e⟩;·exact t7.off e (fun _ z=>by cases z) (fun _ z=>by cases z) off
    ·exact t7.off e (fun _ z=>by cases z) (fun _ z=>by cases z) off
   have P1:=off _ _ (Ne.symm (z1 h hn)) uO;have rn:=off _ _ (Ne.symm (z2 h hn)) PZ;have xK:=off _ _ (Ne.symm (z3 h hn)) Gn;have Gp:=KL.pl h hn;refine Mx (fun i σ He=>∃(v6:Option V),σ=[some (.ref tp),some (.ref D),some (.ref l1),some (.ref l2),some (.ref l3),some (.int (h:Int)),v6]∧d5 108 H He∧cV 108 oW kW He∧jY He D n ds f∧He (ds h)=some (.bg ob (.dK (dk (f h))))∧He l1=some (.lst ((zs.erase h).map fun k:Nat=>V.int (k:Int)))∧He l3=some (.lst ((Pk++[h]).map fun k:Nat=>V.int (k:Int)))∧He l2=some (.lst (((List.range n).map fun a=>(d6 L Pk a:Int)+if a∈(f h).take i then 1 else 0).map V.int))) ⟨_,rfl,uc,tf,Kf,uz,P1,xK,by rw [rn];simp⟩ (fun i σ He _ ⟨_,_,_,_,_,e,_⟩=>e) ?_ ?_
   ·rintro i k σ He hk ⟨v6,rfl,se,te,Ke,Gq,Bg,Bh,oX⟩
    have km:k∈f h:=rN hk;have kn:k<n:=Gp.2 k km;have tk:=take_snoc hk;have kt:k∉(f h).take i:=fun z=>by have nd:=Gp.1;rw [←mQ (i+1) (f h),tk,fg,kg] at nd;exact nd.2.2 k z k (by simp) rfl
    dsimp only [aY];refine ⟨_,rfl,_,rfl,l2,_,(k:Int),.int ((d6 L Pk k:Int)+0),rfl,rfl,Int.natCast_nonneg _,.of oX,?_,_,_,rfl,rfl,l2,_,(k:Int),k,rfl,rfl,oX,?_,?_⟩
    ·refine lJ ?_
     rw [bq,bq,j9 kn,Option.map_some,Option.map_some,aa kt]
    ·have lr:((List.map (fun a=>(d6 L Pk a:Int)+if a∈(f h).take i then 1 else 0) (List.range n)).map V.int).length=n:=by rw [aK,aK,dR]
     rw [lr];unfold ie;rw [ae (Int.natCast_nonneg _),ae (by omega),dH]
    have P2:(((List.range n).map fun a=>(d6 L Pk a:Int)+if a∈(f h).take i then 1 else 0).map V.int).set k (.int ((d6 L Pk k:Int)+0+1))=((List.range n).map fun a=>(d6 L Pk a:Int)+if a∈(f h).take (i+1) then 1 else 0).map V.int:=by
     rw [cH,cH,N8];refine gM fun a _=>?_;by_cases e:a=k
     ·subst e
      rw [ae rfl];show V.int _=V.int (_+if a∈(f h).take (i+1) then 1 else 0)
      rw [ae (by rw [tk];simp)]
      congr 1
     ·rw [aa e]
      show V.int (_+if a∈(f h).take i then 1 else 0)=V.int (_+if a∈(f h).take (i+1) then 1 else 0)
      have:a∈(f h).take (i+1)↔a∈(f h).take i:=by rw [tk];simp [e]
      simp only [this]
    rw [P2];have o8:∀b u,b≠l2→He b=some u→upd He l2 (.lst (((List.range n).map fun a=>(d6 L Pk a:Int)+if a∈(f h).take (i+1) then 1 else 0).map V.int)) b=some u:=fun b u ne e=>by rw [aE ne];exact e
    exact ⟨_,rfl,fun b o n e=>o8 b o (fun z=>by rw [z,m2] at e;cases e) (se b o n e),te.off oX (fun _ z=>by cases z) (fun _ z=>by cases z) o8,Ke.keep o8 y2 z2,o8 _ _ (z2 h hn) Gq,o8 _ _ Gj Bg,o8 _ _ (Ne.symm Gm) Bh,aw⟩
   ·rintro σ He ⟨v6,rfl,se,te,Ke,Gq,Bg,Bh,oX⟩
    rw [iS] at oX;have P4:((List.range n).map fun a=>(d6 L Pk a:Int)+if a∈f h then 1 else 0)=(List.range n).map fun a=>(d6 L (Pk++[h]) a:Int):=by
     refine gM fun a ha=>?_;rw [N7];have e:a∈f h↔rL L a h=true:=by rw [nb h a hn,g8];exact or_comm
     by_cases q:a∈f h;·rw [ae q,ae (e.mp q)];rfl
     ·rw [aa q,aa fun z=>q (e.mpr z)];rfl
    rw [P4] at oX;refine ⟨_,?_,zs.erase h,Pk++[h],_,_,rfl,rfl,se,te,Ke,Bg,oX,Bh,?_,pk.snoc most⟩
    ·rw [ym hz]
     exact Nat.sub_lt (Nat.pos_of_ne_zero fun z=>z0 (List.eq_nil_of_length_eq_zero z)) Nat.one_pos
    ·refine List.Perm.trans ?_ pm
     have h1:=List.perm_cons_erase hz;refine List.Perm.trans ?_ (h1.symm.append_right Pk);rw [←fg];exact mP
  ·have z0:zs=[]:=by
    cases zs with
    | nil=>rfl
    | cons x r=>refine absurd (bF ?_) hb;show (0:Int)<_;simp
   subst z0;dsimp only;refine ⟨_,rfl,l3,_,rfl,.of ep,?_,fun R nR=>?_⟩
   ·rw [aK]
    simp at ll;omega
   rw [←List.map_reverse];have sR:ak Hc (upd Hc R (.lst (Pk.reverse.map fun k:Nat=>V.int (k:Int)))):=aX nR;rw [uY] at pm;refine kk _ R Pk (fun b o n e=>sR _ _ (sc b o n e)) (tc.mono sR) ?_ aw pm pk;cases e:H R with
   | none=>rfl
   | some o=>
    by_cases z:R=108
    ·obtain ⟨ps,e2⟩:=tc.at
     rw [z,e2] at nR;cases nR
    ·rw [sc R o z e] at nR;cases nR
theorem P5:cf ["shape","order"] ["shape"] (bo xh):=de
theorem P6(T:Txt K mg t)(hB:jj base mg):bK P w K mg base cC 7 t.oq t.qD ["shape"] (N_ 108 oW):=by
 have S:=P5
 have P7:=PU (P:=P) (w:=w) (base:=base) T hB
 refine T.qW.eJ S (fun _ _ _ _ H _ _ _ hr h=>?_)
 obtain ⟨tp,n,L,o0,rfl,jv,pw,lt,Gf,oY,f0,tab,kk⟩:=h
 have gv:jX n L:=fun p hp=>by
  have:=lt p hp
  exact ⟨this.1,by omega,by omega,this.2.2⟩
 have g_:kO L:=fun p hp=>by
  have:=lt p hp
  omega
 refine ⟨_,(aF (putL 1 S.nd (bC P7 hr T.E9 T.qV.kp T.E8 cu (aj (pv 0) au)))
  (aF (dJ (sr (bC (FU T) hr T.AE T.oK.kp T.AD nE (aj (pv 0) (aj (pv 1) au)))) (aO (bZ (lI (aj yv (aj (pv 1) au))))) dI)
  (aO (bZ (lI (aj yv (aj N6 au))))))),?_⟩
 refine cx ⟨_,rfl,tp,n,L,rfl,jv,gv,by omega,tab,fun H1 D Pk s1 t1 nD eD pm pk=>?_⟩
 obtain ⟨ps,eP⟩:=tab.at
 have uJ:=Aq jv eP s1
 have pr:Pk.reverse.Perm (List.range n):=(ke Pk).trans pm
 have fr:=Nk pw lt oY f0 pm pk
 have lr:Pk.reverse.length=n:=by rw [pr.length_eq,dR]
 dsimp only [aY]
 refine cx ⟨_,rfl,_,rfl,tp,D,n,L,Pk.reverse.map iN,rfl,uJ,gv,g_,Gf,by rw [eD,cH];rfl,by rw [aK];omega,fun no=>?_,fun o eo po H2 M s2 fM=>?_⟩
 ·exact absurd (pr.map iN) no
 ·have oZ:o=Pk.reverse:=by
   have:=cW (List.map Int.toNat) eo
   rw [cH,cH] at this
   have i1:∀l:List Nat,l.map (Int.toNat ∘ iN)=l:=fun l=>by
    conv=>rhs;rw [←pG l]
    exact gM fun a _=>dH a
   rw [i1,i1] at this
   exact this.symm
  subst oZ
  have eM:=ck.uniq fM fr
  refine ⟨true,by rw [bF eM],CL ?_⟩
  have xP:=s2 _ _ eD
  refine ⟨_,rfl,by show 2≤sizeLine;decide,fun R nR=>?_⟩
  have s3:ak H2 (upd H2 R (.tup [.str "order",.ref D])):=aX nR
  have P8:d5 108 H (upd H2 R (.tup [.str "order",.ref D])):=fun b u n e=>s3 _ _ (s2 _ _ (s1 b u n e))
  have t2:=(t1.mono s2).mono s3
  refine kk _ R D Pk.reverse P8 t2 ?_ nD aw (s3 _ _ xP) pr fr
  cases e:H R with
  | none=>rfl
  | some u=>
   by_cases z:R=108
   ·obtain ⟨ps,e2⟩:=(t1.mono s2).at
    rw [z,e2] at nR;cases nR
   ·rw [s2 _ _ (s1 R u z e)] at nR;cases nR
theorem P9:cf ["script","_law_pen","_law_k","_law_shape","_law_orders","_law_many","_law_order","_law_turn","_law_links"] ["script"] (bo xw):=de
theorem P_(T:Txt K mg t)(hB:jj base mg):bK P w K mg base cC 9 t.mq t.oH ["script"] (wR K 108):=by
 have S:=P9
 have Qa:=P6 (P:=P) (w:=w) (base:=base) T hB
 refine T.rh.eJ S (fun _ _ _ _ H _ _ _ hr h=>?_)
 obtain ⟨qj,a,ns,rfl,hS,hlen,kQ⟩:=h
 have gr:=hr.units
 have hu:=hr.Ih
 refine ⟨_,(aF (tG 1 S.nd (dA (aj (pv 0) (aj aH (aj aH au)))))
  (aF (fu eF rfl (m_ rfl T.gI (aj aH au)) (da (i:=2) S.nd rfl (Or.inl rfl))
   (aF (tG 3 S.nd (bC (Pm T) hr T.Fj T.q8.kp T.Fi cu (aj (pv 1) (aj aH au))))
  (aF (vR (i0:=4) (N:=["_law_turn","_law_pen","_law_shape"]) (ρ:=(fun σ=>[σ[1]?.join,σ[3]?.join])) (gY [1,3] rfl) rfl S.nd rfl (Or.inl rfl) (m_ rfl T.gI (aj aH au)) (fun _ _ _=>.nil) (fun _ _ _=>(bC (PL T) hr T.Ft T.rg.kp T.Fs cu (aj (pv 1) (aj (pv 2) au)))))
  (aO (dJ (cS H_ (bt cq (pv 4) aH) BZ) (aF (fq (fS fH jC jD gX (pv 4) (aj (bt ig (bC Qa hr T.Fb T.qW.kp T.E_ cu (aj (pv 3) au)) aH) au)))
  (aF (putL 5 S.nd (bC (AZ T) hr T.xB T.mw.kp T.xA nE (aj (pv 3) (aj (bt cq (pv 4) aH) au))))
  (aF (fu eF rfl (ft (pv 4)) (da (i:=6) S.nd rfl (Or.inl rfl))
   (aF (dJ (PW.pt (pw_or (cS vz (bC (AZ T) hr T.xB T.mw.kp T.xA nE (aj (pv 3) (aj (pv 6) au))) (pv 5)) (pw_or1 (cS JU (bC (FU T) hr T.AE T.oK.kp T.AD nE (aj (pv 3) (aj (pv 6) au))) kj)))) (aO (bZ kj)) dI)
  (aO (dJ (cS (Kv (n:=3) gr) (bC (FQ T) hr T.AB T.oJ.kp T.AA nE (aj (pv 3) (aj (pv 6) au))) (pv 3)) (aO (bZ kj)) dI))))
  (aO (fu eF rfl (m_ rfl T.gI (aj aH au)) (da (i:=7) S.nd rfl (Or.inl rfl))
   (aF (putL 6 S.nd (bC (FW T) hr T.AG T.oM.kp T.AF cu (aj (pv 1) (aj (gU (tE rfl) rfl T.kX boot_list (aj (gU tD rfl T.gI tF (aj (bt ig (pv 3) aH) au)) au)) au))))
  (aF (putL 8 S.nd (df (C2 (K:=K) rfl) rfl T.AJ boot_sum (aj (kC (N:=["_law_row"]) (ρ:=(fun σ=>[])) (gY [] rfl) rfl (ft (bC (AN T) hr T.xy T.mr.kp T.xx nE (aj (pv 3) (aj (pv 6) au)))) (fun _ _ _=>.nil) (fun _ _ _=>(df (C6 (K:=K)) rfl T.jo jB (aj (pv 0) au)))) au)))
  (aO (dJ (PW.pt (pw_or (cS vB (bC (AZ T) hr T.xB T.mw.kp T.xA nE (aj (pv 3) (aj (pv 6) au))) (pv 5)) (pw_or1 (cS vB (pv 8) (df kB rfl T.jo jB (aj (bt ig (pv 3) aH) au)))))) (aO (bZ kj)) dI))))))))) dI)))))
  (aO (bZ kj)))),?_⟩
 refine ⟨_,rfl,by show 3≤sizeLine;decide,fun P0 nP=>?_⟩
 have p0:ba (upd H P0 (.lst [.ref a,.int 0,.int 0])) P0 a:=⟨0,0,aw,by decide,by decide⟩
 have Gr:aU K (er P0 (upd H P0 (.lst [.ref a,.int 0,.int 0]))) a (ns.map V.int):=by
  rw [C7]
  exact ak.seq (fun b o e=>tK (fj e nP) e) hS
 have t0:cV 108 oW kW (upd H P0 (.lst [.ref a,.int 0,.int 0])):=.inl (aX nP _ _ qj)
 generalize upd H P0 (.lst [.ref a,.int 0,.int 0])=H0 at p0 Gr t0 ⊢
 dsimp only [aY]
 refine cx ⟨4,rfl,by decide,by decide,?_⟩
 refine sM (fun i σ Hc=>∃(v2 v3 v4 v5 v6 v7 v8:Option V),σ=[some (.ref a),some (.ref P0),v2,v3,v4,v5,v6,v7,v8]∧ba Hc P0 a∧aU K (er P0 Hc) a (ns.map V.int)∧cV 108 oW kW Hc) ⟨_,_,_,_,_,_,_,rfl,p0,Gr,t0⟩ ?_ ?_
 ·rintro i σ Hc hi ⟨v2,v3,v4,v5,v6,v7,v8,rfl,pc,Bi,tc⟩
  dsimp only [aY]
  refine eB fun _ oR=>⟨_,rfl,P0,a,ns,14,rfl,pc,Bi,by decide,by decide,fun tp n L H2 s2 p2 jr Ge jv ok pw n1 Gs=>?_⟩
  have gv:jX n L:=fun p hp=>by
   have:=ok.lt p hp
   exact ⟨this.1,by omega,by omega,this.2.2⟩
  have g_:kO L:=fun p hp=>by
   have:=ok.lt p hp
   omega
  have di:L.length≤196:=bI ok.di (bI (Nat.div_le_self _ _) (r6 Gs Gs))
  have rA:aU K (er P0 H2) a (ns.map V.int):=ak.seq s2 Bi
  have t2:=tc.Ar pc s2
  have Bj:∀{Hx:Hp},aB P0 H2 Hx→cE Hx tp n L:=fun sx=>(jv.mono sx).mono tJ
  dsimp only [aY]
  refine oR _ _ ?_
  refine eB fun _ oS=>(lW (Ln (P:=P0) (a:=a) (n:=3) (dg (by decide)) (fun R h=>⟨3,rfl,by decide,by decide,h _ (aB.refl _) p2⟩) (fun D i y Hc=>wV P0 D n L Hc y) ?_ ?_ ?_))
  ·intro D i y Hx H' ys h e nD k
   exact h.bA k
  ·intro D i hi Hx R sx px hD T5 kR
   obtain ⟨ys,eD⟩:=hD
   exact ⟨_,rfl,_,rfl,P0,a,tp,ns,n,L,rfl,px,ak.seq sx rA,Ge,Bj sx,pw,ok.lt,n1,by omega,by omega,fun H' s' p' no=>kR _ _ s' p' (.inl ⟨rfl,no⟩),fun l o H' s' p' lP nl el po fo=>kR _ _ s' p' (.inr ⟨l,o,rfl,lP,(fun z=>by rw [z,eD] at nl;cases nl),el,po,fo⟩)⟩
  intro D ys H3 DP nD s3 p3 mC mB eD
  have t3:=t2.Ar p2 s3
  have gB:aU K (er P0 H3) a (ns.map V.int):=ak.seq s3 rA
  have Gu:cE H3 tp n L:=Bj s3
  have T6:∀{Hx:Hp},aB P0 H3 Hx→cE Hx tp n L:=fun sx=>Bj (s3.trans sx)
  dsimp only [aY]
  refine oS _ _ ?_
  obtain ⟨y0,y1,y2,rfl⟩:∃y0 y1 y2,ys=[y0,y1,y2]:=by
   match ys,mC with
   | [y0,y1,y2],_=>exact ⟨y0,y1,y2,rfl⟩
  refine ⟨_,rfl,D,_,0,y0,rfl,rfl,.of eD,rfl,?_⟩
  refine ⟨rfl,_,rfl,dM (fun hb=>?_) (fun hb=>?_)⟩
  ·have g0:=mB 0 y0 rfl
   rcases g0 with ⟨rfl,_⟩ | ⟨l0,o0,rfl,Qb,Gv,x9,oY,x_⟩
   ·rw [bF rfl] at hb
    cases hb
   have gi:∀(i:Nat) (y:V),([.ref l0,y1,y2]:List V)[i]?=some y→∃(l:Addr) (o:List Nat),y=.ref l∧l≠P0∧l≠D∧H3 l=some (.lst (o.map fun k:Nat=>V.int (k:Int)))∧o.Perm (List.range n)∧ck n L o L:=fun i y e=>by
    rcases mB i y e with ⟨_,no⟩ | h
    ·exact absurd x_ (no o0 oY)
    ·exact h
   obtain ⟨l1,o1,rfl,xZ,Qc,Gw,Qd,Qe⟩:=gi 1 y1 rfl
   obtain ⟨l2,o2,rfl,uN,Qf,Gx,Qg,Qh⟩:=gi 2 y2 rfl
   have Bk:P0≠108:=t3.Oc p3
   obtain ⟨T7,Bl⟩:=t3.at
   have uP:∀{b:Addr} {xs:List V},H3 b=some (.lst xs)→b≠108:=fun{b xs} e z=>by rw [z,Bl] at e;cases e
   refine eB fun _ uK=>⟨_,rfl,.inl ⟨rfl,_,.of eD⟩,_,rfl,tp,n,L,o0,rfl,Gu,pw,ok.lt,by omega,oY,x_,t3,fun H4 T4 l3 o3 s4 t4 nT hI eT oP Qi Qj=>?_⟩
   have Qk:l3≠P0:=p3.ne hI
   have Ql:l3≠D:=fun z=>by rw [z,eD] at hI;cases hI
   have Gy:=s4 _ _ (uP eD) eD
   refine ⟨T4,_,1,.ref l3,rfl,rfl,.of eT,rfl,D,_,_,rfl,rfl,Gy,dg (show 3≤1000 by decide),?_⟩
   have p4:=s4.iy Bk p3
   have T8:aU K (er P0 H4) a (ns.map V.int):=aU.st gB (tK (Ne.symm Bk) Bl) s4.er
   have T9:=Aq Gu Bl s4
   have Qm:∀(i:Nat) (y:V),([.ref l0,.ref l1,.ref l2,.ref l3]:List V)[i]?=some y→∃(l:Addr) (o:List Nat),y=.ref l∧l≠P0∧l≠D∧H4 l=some (.lst (o.map fun k:Nat=>V.int (k:Int)))∧o.Perm (List.range n)∧ck n L o L:=fun i y e=>by
    match i,e with
    | 0,e=>cases e;exact ⟨l0,o0,rfl,Qb,Gv,s4 _ _ (uP x9) x9,oY,x_⟩
    | 1,e=>cases e;exact ⟨l1,o1,rfl,xZ,Qc,s4 _ _ (uP Gw) Gw,Qd,Qe⟩
    | 2,e=>cases e;exact ⟨l2,o2,rfl,uN,Qf,s4 _ _ (uP Gx) Gx,Qg,Qh⟩
    | 3,e=>cases e;exact ⟨l3,o3,rfl,Qk,Ql,oP,Qi,Qj⟩
    | i+4,e=>cases e
   have T_:D≠P0:=DP
   have o5:∀b u,b≠D→H4 b=some u→upd H4 D (.lst [.ref l0,.ref l1,.ref l2,.ref l3]) b=some u:=fun b u ne e=>by rw [aE ne];exact e
   have ya:upd H4 D (.lst [.ref l0,.ref l1,.ref l2,.ref l3]) D=some (.lst [.ref l0,.ref l1,.ref l2,.ref l3]):=aw
   have p5:ba (upd H4 D (.lst [.ref l0,.ref l1,.ref l2,.ref l3])) P0 a:=p4.upd DP
   rw [show ([V.ref l0,V.ref l1,V.ref l2]++[V.ref l3]:List V)=[V.ref l0,V.ref l1,V.ref l2,V.ref l3] from rfl]
   generalize upd H4 D (.lst [.ref l0,.ref l1,.ref l2,.ref l3])=H5 at o5 ya p5 ⊢
   have Gz:d5 108 (er P0 H2) (er P0 H5):=fun b o nb e=>by
    have e4:=s4.er (P:=P0) b o nb (s3 b o e)
    have bP:b≠P0:=fun z=>by rw [z] at e;unfold er at e;rw [ae rfl] at e;cases e
    rw [dN bP] at e4 ⊢
    exact o5 b o (fun z=>by rw [z,nD] at e;cases e) e4
   obtain ⟨Qn,k4⟩:=t2.at
   have k4:er P0 H2 108=some (.cm Qn):=tK (Ne.symm Bk) k4
   have GA:aU K (er P0 H5) a (ns.map V.int):=aU.st rA k4 Gz
   have Qo:cE (er P0 H5) tp n L:=Aq jv k4 Gz
   have Bm:∀{Hx:Hp},aB P0 H5 Hx→cE Hx tp n L:=fun sx=>(Qo.mono sx).mono tJ
   have uQ:cE H5 tp n L:=Bm (aB.refl _)
   have t5:=t4.off Gy (fun _ z=>by cases z) (fun _ z=>by cases z) o5
   have Qp:∀(i:Nat) (y:V),([.ref l0,.ref l1,.ref l2,.ref l3]:List V)[i]?=some y→∃(l:Addr) (o:List Nat),y=.ref l∧H5 l=some (.lst ((o.map iN).map V.int))∧o.Perm (List.range n)∧ck n L o L:=fun i y e=>by
    obtain ⟨l,o,e1,_,e3,e4,e5,e6⟩:=Qm i y e
    exact ⟨l,o,e1,by rw [o5 _ _ e3 e4,cH];rfl,e5,e6⟩
   have inj:∀{o o':List Nat},o.map iN=o'.map iN→o'=o:=fun{o o'} e'=>by
    have:=cW (List.map Int.toNat) e'
    rw [cH,cH] at this
    have GB:∀l:List Nat,l.map (Int.toNat ∘ iN)=l:=fun l=>by
     conv=>rhs;rw [←pG l]
     exact gM fun k _=>dH k
    rw [GB,GB] at this
    exact this.symm
   have rH:∀{o:List Nat},o.Perm (List.range n)→(o.map iN).length<64:=fun{o} ho=>by
    rw [aK,ho.length_eq,dR]
    omega
   refine uK _ _ ?_
   have Qq:H5 l0=some (.lst ((o0.map iN).map V.int)):=by
    rw [o5 _ _ Gv (s4 _ _ (uP x9) x9),cH];rfl
   refine eB fun _ Qr=>⟨_,rfl,_,rfl,D,_,0,.ref l0,rfl,rfl,.of ya,rfl,tp,l0,n,L,o0.map iN,rfl,uQ,gv,g_,by omega,Qq,rH oY,fun no=>absurd (oY.map iN) no,fun o' e' hZ H6 s6 d hd=>?_⟩
   have oZ:=inj e'
   subst oZ
   have ed:=hd L x_
   subst ed
   dsimp only [aY]
   refine Qr _ _ ?_
   refine eB fun _ Qs=>⟨_,rfl,D,rfl,⟨_,.of (s6 _ _ ya)⟩,?_⟩
   refine pP (K:=K) (a:=D) (xs:=[.ref l0,.ref l1,.ref l2,.ref l3]) (fun j σ Hx=>∃(v6 v7 v8:Option V),σ=[some (.ref a),some (.ref P0),some (.int (0+(i:Int))),some (.ref tp),some (.ref D),some (.int (mf n L:Int)),v6,v7,v8]∧ak H5 Hx) ⟨_,_,_,rfl,s6⟩ (fun j σ Hx _ ⟨_,_,_,_,sx⟩=>.of (sx _ _ ya)) ?_ ?_
   ·rintro j x σ Hx Qt ⟨v6,v7,v8,rfl,sx⟩
    obtain ⟨l,o,rfl,el,po,fo⟩:=Qp j x Qt
    dsimp only [aY]
    refine eB fun _ Qu=>⟨_,rfl,_,rfl,tp,l,n,L,o.map iN,rfl,uQ.mono sx,gv,g_,by omega,sx _ _ el,rH po,fun no=>absurd (po.map iN) no,fun o' e' hZ H7 s7 d hd=>?_⟩
    have oZ:=inj e'
    subst oZ
    have ed:=hd L fo
    subst ed
    have Bn:=sx.trans s7
    refine ⟨_,rfl,rfl,false,by rw [tH,bF rfl];rfl,lO ?_⟩
    refine ⟨_,rfl,_,rfl,tp,l,n,L,o'.map iN,rfl,uQ.mono Bn,gv,g_,by omega,Bn _ _ el,rH po,fun no=>absurd (po.map iN) no,fun o2 e2 wM H8 M s8 fM=>?_⟩
    have Bo:=inj e2
    subst Bo
    have eM:=ck.uniq fM fo
    refine ⟨_,_,rfl,rfl,false,by rw [bF eM];rfl,lO ?_⟩
    have Bp:=Bn.trans s8
    dsimp only [kr]
    refine Qu _ _ ?_
    refine ⟨_,rfl,_,rfl,tp,l,n,L,o2.map iN,rfl,uQ.mono Bp,gv,g_,by omega,Bp _ _ el,rH po,fun no=>absurd (po.map iN) no,fun o3 e3 Ua H9 t9 N s9 _ Qv fN _=>?_⟩
    have Qw:=inj e3
    subst Qw
    have eN:=ck.uniq fN fo
    subst eN
    have GC:=Bp.trans s9
    refine ⟨_,rfl,zI n N,LF n N,DI Qv,DI (uQ.mono GC),false,rfl,lO ?_⟩
    exact ⟨_,_,_,rfl,GC⟩
   ·rintro σ Hx ⟨v6,v7,v8,rfl,sx⟩
    refine Qs _ _ ?_
    have px:=p5.mono sx
    refine ⟨4,rfl,by decide,by decide,?_⟩
    refine sM (fun j σ Hd=>∃(v6 v7 v8:Option V),σ=[some (.ref a),some (.ref P0),some (.int (0+(i:Int))),some (.ref tp),some (.ref D),some (.int (mf n L:Int)),v6,v7,v8]∧aB P0 H5 Hd∧ba Hd P0 a) ⟨_,_,_,rfl,aB.of sx,px⟩ ?_ ?_
    ·rintro j σ Hd hj ⟨v6,v7,v8,rfl,sd,pd⟩
     obtain ⟨lt,us,eC,elt,ux⟩:=id (Bm sd)
     dsimp only [aY]
     refine eB fun _ Qx=>⟨_,rfl,_,rfl,tp,_,_,_,rfl,rfl,.of eC,rfl,(n:Int),rfl,fun q1 mD=>⟨q1,n,rfl,aw,by omega,fun l nl=>?_⟩⟩
     have sl:ak Hd (upd (upd Hd q1 (.eg 0 (n:Int))) l (.lst (cg n))):=(aX mD).trans (aX nl)
     have el:upd (upd Hd q1 (.eg 0 (n:Int))) l (.lst (cg n)) l=some (.lst (cg n)):=aw
     have lP:l≠P0:=pd.ne (none_of (aX mD) nl)
     generalize upd (upd Hd q1 (.eg 0 (n:Int))) l (.lst (cg n))=He at sl el ⊢
     have se:=sd.trans (aB.of sl)
     have pe:=pd.mono sl
     have lu:(cg n).length=n:=by unfold cg;simp
     refine ⟨P0,a,l,ns,cg n,rfl,pe,ak.seq se GA,lP,el,by omega,fun r ys Hf sf pf nr rP Qy pm=>?_⟩
     obtain ⟨o,rfl,ho⟩:=Mv pm
     have GD:=se.trans sf
     have GF:=Bm GD
     have eof:Hf r=some (.lst ((o.map iN).map V.int)):=by rw [Qy,cH];rfl
     dsimp only [aY]
     refine Qx _ _ ?_
     refine eB fun _ Qz=>lW (vV (zR ⟨_,rfl,_,rfl,tp,r,n,L,o.map iN,rfl,GF,gv,g_,by omega,eof,rH ho,fun no=>absurd (ho.map iN) no,fun o' e' hZ Hg Dl rs g sg FR uB la QA=>⟨Dl,rfl,⟨_,.of la.1⟩,?_⟩⟩))
     have oZ:=inj e'
     subst oZ
     have j6:((List.range n).map fun p=>V.ref (rs p)).length=n:=by rw [aK,dR]
     refine vU (xs:=(List.range n).map fun p=>V.ref (rs p)) (fun R h=>h _ _ (ak.refl _) (kG (.of la.1))) (by rw [j6];exact dg (by omega)) (fun _ i y _=>y=.int ((g i).length:Int)) (fun _ _ _ _ _ _ h _ _=>h) ?_ ?_
     ·intro D' k x hx Hy R sy _ kc
      have hk:k<n:=by
       have:=(bG.mp hx).1
       rw [j6] at this
       exact this
      have ex:x=.ref (rs k):=by
       rw [bq,j9 hk] at hx
       exact (Option.some.inj hx).symm
      subst ex
      refine ⟨_,rfl,rs k,_,rfl,.inl (.of (sy _ _ (la.2 k hk))),kc _ Hy (ak.refl _) ?_⟩
      rw [aK]
     ·intro D' ys Hy FV sy Bq GG mh
      rw [j6] at Bq
      have ey:ys=((List.range n).map fun i=>((g i).length:Int)).map V.int:=by
       refine gx (by simp [Bq]) fun i h1 h2=>?_
       rw [eV,eV,kf]
       exact GG i _ (b9 h1)
      obtain ⟨M,fM⟩:=Nu n L o'
      have es:((List.range n).map fun i=>((g i).length:Int)).sum=(M.length:Int):=by
       rw [←Oa ho fM QA]
       generalize List.range n=l
       clear ey GG Bq
       induction l with
       | nil=>rfl
       | cons x l ih=>rw [cQ,d_,cQ,d_,ih];push_cast;rfl
      refine ⟨D',_,rfl,.of (by rw [mh,ey]),?_⟩
      rw [es]
      have yb:=sg.trans sy
      dsimp only [aY]
      refine Qz _ _ ?_
      have GH:=GF.mono yb
      refine ⟨_,rfl,_,rfl,tp,r,n,L,o'.map iN,rfl,GH,gv,g_,by omega,yb _ _ eof,rH ho,fun no=>absurd (ho.map iN) no,fun o2 e2 wM Hz sz d hd=>?_⟩
      have Bo:=inj e2
      subst Bo
      have ed:=hd M fM
      subst ed
      have dl:=Na ho fM ok.nd ok.lt
      refine ⟨_,rfl,_,_,rfl,rfl,false,cW V.bl (bX (by omega)),lO ?_⟩
      obtain ⟨QB,Ub,QC,xQ,QD⟩:=id (GH.mono sz)
      have ml:=Ob ho fM ok.nd ok.lt
      refine ⟨_,rfl,_,rfl,tp,_,_,_,rfl,rfl,.of QC,rfl,QB,_,rfl,.inr (.of xQ),_,_,rfl,rfl,false,by rw [QD.1];exact cW V.bl (bX (by omega)),lO ?_⟩
      exact ⟨_,_,_,rfl,GD.trans (aB.of (yb.trans sz)),pf.mono (yb.trans sz)⟩
    ·rintro σ Hd ⟨v6,v7,v8,rfl,sd,pd⟩
     exact ⟨_,_,_,_,_,_,_,rfl,pd,ak.seq sd GA,t5.Ar p5 sd⟩
  ·exact ⟨_,_,_,_,_,_,_,rfl,p3,gB,t3⟩
 ·rintro σ Hc ⟨v2,v3,v4,v5,v6,v7,v8,rfl,pc,Bi,tc⟩
  exact kQ _
theorem QE{l:PySem.W.OpenLaw}(T:Txt K mg t):K.lookup 108=none∧(∃ql,L2.tabIn K ql 108=true)∧∃fd:FuncData,(∀(s:Shared) (v:Value),BindsTo s fd ⟨[v],[]⟩ [("script",v)])∧∀base:Heap,K.In base→base.Ns mainGlobals mg→L2.jj base mg→bK l.prog w K mg base cC 9 t.mq fd ["script"] (L2.wR K 108):=by obtain ⟨oc,od,kV,doc,pm,an,bx,ct,i3,e,lk,dz⟩:=T.rh.ex;refine ⟨T.FC,⟨_,T.tab⟩,t.oH,fun s v=>?_,fun base _ _ hB=>P_ T hB⟩;rw [e];exact .of_eq rfl
end
theorem walk{l:PySem.W.OpenLaw}{q:Program}{loose:List Str}{XP:(Str→Option Value)→Heap→Prop}{YP:World→Heap→Prop}{d:DefRec}{K:Params→PySem.W.Frag}(hn:l.most=some 63)(sU:d.params.defaults=[])
  (hY:∀(w:World) (h:Heap),YP w h→(K w.params).In h) (hP:∀(w:World) (h:Heap),YP w h→h.get? 108=some (PySem.W.tabObj #[]))
  (F:∀(w:World) (mg:bV) (fa:Addr) (h:Heap),(K w.params).In h→h.Ns mainGlobals mg→mg d.name=some (.ref fa)→
   (K w.params).lookup 108=none∧(∃ql,L2.tabIn (K w.params) ql 108=true)∧∃fd:FuncData,(∀(s:Shared) (u:Value),BindsTo s fd ⟨[u],[]⟩ [("script",u)])∧∀base:Heap,(K w.params).In base→base.Ns mainGlobals mg→L2.jj base mg→bK l.prog w (K w.params) mg base cC 9 fa fd ["script"] (L2.wR (K w.params) 108)) :
  PySem.W.WalkO q loose XP YP l.row.toRowW d [] (fun f vs=>PySem.call f vs):=
 L2.N5 hn sU ⟨rfl,by decide,by decide⟩ hY hP F
theorem QF{K:aD}{h:Heap}{mg:bV}(X:K.In h)(G:h.Ns mainGlobals mg)
  {jm:Addr}
  {nZ n4 n5 n6 n8 n_ og oh oi oj om oo qz qA qB qC oq ot ou oz oA oB oC oD oE oF oG mq:Addr} {qm qo qp qq qr qt qu qv qw qx qy mj uo ur uu uv qD qE qF qG qH qI qJ qK qL qM qN oH:FuncData}
  (Br:PySem.W.nsIn K mainGlobals "NoOrder"=some (some (.ref jm)))
  (QG:mg "is_whole"=some (.ref nZ))
  (qO:aW K "is_whole" wW nZ qm)
  (QH:mg "neighbours"=some (.ref n4))
  (oI:aW K "neighbours" wX n4 qo)
  (QI:mg "is_order"=some (.ref n5))
  (qQ:aW K "is_order" wY n5 qp)
  (QJ:mg "check_order"=some (.ref n6))
  (qR:aW K "check_order" wZ n6 qq)
  (QK:mg "turns_of"=some (.ref n8))
  (qS:aW K "turns_of" w5 n8 qr)
  (QL:mg "link_all"=some (.ref n_))
  (qT:aW K "link_all" w6 n_ qt)
  (QM:mg "later"=some (.ref og))
  (mr:aW K "later" w9 og qu)
  (QN:mg "filled"=some (.ref oh))
  (oJ:aW K "filled" w_ oh qv)
  (QO:mg "place_deeds"=some (.ref oi))
  (qU:aW K "place_deeds" xb oi qw)
  (QP:mg "deeds"=some (.ref oj))
  (mw:aW K "deeds" xc oj qx)
  (QQ:mg "is_perfect"=some (.ref om))
  (oK:aW K "is_perfect" xf om qy)
  (QR:mg "likely_order"=some (.ref oo))
  (qV:aW K "likely_order" xg oo mj)
  (QS:mg "walk_back"=some (.ref qz))
  (xC:aW K "walk_back" As qz uo)
  (QT:mg "unmet"=some (.ref qA))
  (xD:aW K "unmet" Au qA ur)
  (QU:mg "ring_over"=some (.ref qB))
  (xE:aW K "ring_over" Av qB uu)
  (QV:mg "bare_ring"=some (.ref qC))
  (xF:aW K "bare_ring" Aw qC uv)
  (QW:mg "perfect"=some (.ref oq))
  (qW:aW K "perfect" xh oq qD)
  (QX:mg "_law_fill"=some (.ref ot))
  (qX:aW K "_law_fill" xi ot qE)
  (QY:mg "_law_next"=some (.ref ou))
  (fE:aW K "_law_next" xj ou qF)
  (QZ:mg "_law_turned"=some (.ref oz))
  (oM:aW K "_law_turned" xl oz qG)
  (Q0:mg "_law_tied_by"=some (.ref oA))
  (qY:aW K "_law_tied_by" xm oA qH)
  (Q1:mg "_law_grown_links"=some (.ref oB))
  (qZ:aW K "_law_grown_links" xo oB qI)
  (Q2:mg "_law_drawn"=some (.ref oC))
  (q8:aW K "_law_drawn" xq oC qJ)
  (Q3:mg "_law_named"=some (.ref oD))
  (q_:aW K "_law_named" xr oD qK)
  (Q4:mg "_law_beside"=some (.ref oE))
  (rd:aW K "_law_beside" xt oE qL)
  (Q5:mg "_law_free"=some (.ref oF))
  (rf:aW K "_law_free" xu oF qM)
  (Q6:mg "_law_perfect"=some (.ref oG))
  (rg:aW K "_law_perfect" xv oG qN)
  (Q7:mg "law"=some (.ref mq))
  (rh:aW K "law" xw mq oH)
  (Bs:PySem.W.nsIn K mainGlobals "ValueError"=some none)
  (Bt:PySem.W.nsIn K mainGlobals "all"=some none)
  (Bu:PySem.W.nsIn K mainGlobals "any"=some none)
  (Bv:PySem.W.nsIn K mainGlobals "bool"=some none)
  (Bw:PySem.W.nsIn K mainGlobals "enumerate"=some none)
  (Bx:PySem.W.nsIn K mainGlobals "int"=some none)
  (By:PySem.W.nsIn K mainGlobals "isinstance"=some none)
  (BA:PySem.W.nsIn K mainGlobals "len"=some none)
  (BB:PySem.W.nsIn K mainGlobals "list"=some none)
  (BC:PySem.W.nsIn K mainGlobals "max"=some none)
  (BD:PySem.W.nsIn K mainGlobals "min"=some none)
  (BE:PySem.W.nsIn K mainGlobals "range"=some none)
  (BF:PySem.W.nsIn K mainGlobals "reversed"=some none)
  (BG:PySem.W.nsIn K mainGlobals "set"=some none)
  (BH:PySem.W.nsIn K mainGlobals "sorted"=some none)
  (BI:PySem.W.nsIn K mainGlobals "sum"=some none)
  (BJ:PySem.W.nsIn K mainGlobals "tuple"=some none)
  (BK:PySem.W.nsIn K mainGlobals "zip"=some none)
  (BL:PySem.W.excIn K jm [.type "ValueError",.type "Exception",.type "BaseException",.type "object"] "ValueError.__new__"=true)
  (BN:L2.tabIn K mj 108=true)
  (BO:K.lookup 108=none)
  : ∃t:Ax,Txt K mg t:=by
 refine ⟨⟨nZ,qm,n4,qo,n5,qp,n6,qq,n8,qr,n_,qt,og,qu,oh,qv,oi,qw,oj,qx,om,qy,oo,mj,qz,uo,qA,ur,qB,uu,qC,uv,oq,qD,ot,qE,ou,qF,oz,qG,oA,qH,oB,qI,oC,qJ,oD,qK,oE,qL,oF,qM,oG,qN,mq,oH,jm⟩,?_⟩
 exact {
  qO:=qO
  EV:=qO.cI
  EW:=QG
  oI:=oI
  Ay:=oI.cI
  Az:=QH
  qQ:=qQ
  EX:=qQ.cI
  EY:=QI
  qR:=qR
  EZ:=qR.cI
  E1:=QJ
  qS:=qS
  E2:=qS.cI
  E3:=QK
  qT:=qT
  E4:=qT.cI
  E5:=QL
  mr:=mr
  xx:=mr.cI
  xy:=QM
  oJ:=oJ
  AA:=oJ.cI
  AB:=QN
  qU:=qU
  E6:=qU.cI
  E7:=QO
  mw:=mw
  xA:=mw.cI
  xB:=QP
  oK:=oK
  AD:=oK.cI
  AE:=QQ
  qV:=qV
  E8:=qV.cI
  E9:=QR
  xC:=xC
  Oe:=xC.cI
  Of:=QS
  xD:=xD
  Og:=xD.cI
  Oh:=QT
  xE:=xE
  Oi:=xE.cI
  Oj:=QU
  xF:=xF
  Ol:=xF.cI
  Om:=QV
  qW:=qW
  E_:=qW.cI
  Fb:=QW
  qX:=qX
  Fc:=qX.cI
  Fd:=QX
  fE:=fE
  iQ:=fE.cI
  iR:=QY
  oM:=oM
  AF:=oM.cI
  AG:=QZ
  qY:=qY
  Fe:=qY.cI
  Ff:=Q0
  qZ:=qZ
  Fg:=qZ.cI
  Fh:=Q1
  q8:=q8
  Fi:=q8.cI
  Fj:=Q2
  q_:=q_
  Fl:=q_.cI
  Fm:=Q3
  rd:=rd
  Fn:=rd.cI
  Fo:=Q4
  rf:=rf
  Fp:=rf.cI
  Fq:=Q5
  rg:=rg
  Fs:=rg.cI
  Ft:=Q6
  rh:=rh
  Oo:=rh.cI
  Fu:=Q7
  Fv:=cz X G Br
  Oq:=eG X G Bs
  Fw:=eG X G Bt
  Ot:=eG X G Bu
  Fx:=eG X G Bv
  AH:=eG X G Bw
  Fy:=eG X G Bx
  xG:=eG X G By
  jo:=eG X G BA
  kX:=eG X G BB
  xH:=eG X G BC
  AI:=eG X G BD
  gI:=eG X G BE
  Fz:=eG X G BF
  Ou:=eG X G BG
  uw:=eG X G BH
  AJ:=eG X G BI
  AK:=eG X G BJ
  Ov:=eG X G BK
  FA:=BL
  tab:=BN
  FC:=BO
 }
end My
namespace PySem.W.Fast
def tw8760653854827559751:Unit:=()
def tw15047730624553471942:Unit:=()
def tw3381724265501126874:Unit:=()
def tw14751628632612781981:Unit:=()
def tw500614568219311588:Unit:=()
def tw16325577564951278801:Unit:=()
def tw12282729684266060220:Unit:=()
def tw868535509325411592:Unit:=()
def tw16097215505127567758:Unit:=()
def tw14751576276447280246:Unit:=()
def tw499394059428047780:Unit:=()
def tw7750605550863094898:Unit:=()
def tw2099813917286894782:Unit:=()
def tw18353334306032115675:Unit:=()
def tw631814456641364469:Unit:=()
def tw3046513521561684270:Unit:=()
def tw878512734266279527:Unit:=()
def tw14983601775447975825:Unit:=()
def tw4576833740146398693:Unit:=()
def tw840688840736336913:Unit:=()
def tw12859633081753338507:Unit:=()
def tw16732822445792602992:Unit:=()
def tw3804417359805229350:Unit:=()
def tw3603191937892929046:Unit:=()
def tw16323669934163856895:Unit:=()
def tw10974562333369348480:Unit:=()
def tw3009314626477726623:Unit:=()
def tw9632879338275821890:Unit:=()
def tw3867035612558490742:Unit:=()
def tw7718887824719994284:Unit:=()
def tw6768544482936383958:Unit:=()
def tw7741112387966365292:Unit:=()
def tw803896835831531379:Unit:=()
def tw7443373607975339130:Unit:=()
def tw3928958907246793882:Unit:=()
def tw4443922674795375283:Unit:=()
def tw736614413191755297:Unit:=()
def tw6660995313319025329:Unit:=()
def tw16043930589203325772:Unit:=()
def tw7787382097549347499:Unit:=()
def tw16832405839561994231:Unit:=()
def tw6006257064053177937:Unit:=()
def tw7434882480329834584:Unit:=()
def tw6409462298382757332:Unit:=()
def tw17087091048563154297:Unit:=()
def tw4499021786035777513:Unit:=()
def tw7799494939177330731:Unit:=()
def tw3794616068385098142:Unit:=()
def tw13233227757924117241:Unit:=()
def tw10727128734117474608:Unit:=()
def tw10907484126274683309:Unit:=()
def tw1435354294083669304:Unit:=()
def tw15495850141435434959:Unit:=()
def tw5293371842390790823:Unit:=()
def tw16240849479913243300:Unit:=()
def tw15257915442288041962:Unit:=()
def tw8430333535081475637:Unit:=()
def tw14620774958740544810:Unit:=()
def tw3832844802286959935:Unit:=()
def tw6444384043281908362:Unit:=()
def tw10593393066465974694:Unit:=()
def tw5871800434283436080:Unit:=()
def tw10640192338692131601:Unit:=()
def tw8590026079582656636:Unit:=()
def tw15778892470122886974:Unit:=()
def tw11636560133455014895:Unit:=()
def tw5404846659815243308:Unit:=()
def tw4475357885990675593:Unit:=()
def tw7455602334207618734:Unit:=()
def tw3547304486582108579:Unit:=()
def tw9384744713133199838:Unit:=()
def tw2173483195967133501:Unit:=()
def tw6449754026302318845:Unit:=()
def tw15020129424447132202:Unit:=()
def tw6677632967455115014:Unit:=()
def tw17634211098485525536:Unit:=()
def tw13319021507970543549:Unit:=()
def tw9125304596560375081:Unit:=()
def tw1088502372577218046:Unit:=()
def tw5194812577643206895:Unit:=()
def tw16381835815583024541:Unit:=()
def tw11764718172229511431:Unit:=()
def tw12862078547520437975:Unit:=()
def tw6641684736458467683:Unit:=()
def tw16591816874994045243:Unit:=()
def tw16022325212855573971:Unit:=()
def tw4164500669637826311:Unit:=()
def tw2252047182930740799:Unit:=()
def tw11230256671962583858:Unit:=()
def tw9582851895528760885:Unit:=()
def tw2476048008479756967:Unit:=()
def tw3721726030191971821:Unit:=()
def tw17059624523413397050:Unit:=()
def tw15328859053979546915:Unit:=()
def tw1806601894894660358:Unit:=()
def tw4208220063946094241:Unit:=()
def tw1016013376290254760:Unit:=()
def tw3592978118269144388:Unit:=()
def tw1464043526110690342:Unit:=()
def tw17195440651922987201:Unit:=()
def tw8152513135125543719:Unit:=()
def tw10900284652227024268:Unit:=()
def tw17090031124981955828:Unit:=()
def tw16653283562370736198:Unit:=()
def tw182028224739884652:Unit:=()
def tw10398670146936459232:Unit:=()
def tw17868821856994068449:Unit:=()
def tw14723057693749680855:Unit:=()
def tw1536022680382750009:Unit:=()
def tw902722018815540848:Unit:=()
def tw6838724066620732957:Unit:=()
def tw11633870069612320733:Unit:=()
def tw9638104760936341502:Unit:=()
def tw17436266971665527799:Unit:=()
def tw16433018542865695471:Unit:=()
def tw14363133205390567820:Unit:=()
def tw3038137668270553987:Unit:=()
def tw8645559488260149168:Unit:=()
def tw3069249648444450935:Unit:=()
def tw7974271307674122417:Unit:=()
def tw6964149073747450761:Unit:=()
def tw8012919060870106187:Unit:=()
def tw17049433737569364339:Unit:=()
def tw7140799783363423950:Unit:=()
def tw6212150111965210790:Unit:=()
def tw3295882533531006442:Unit:=()
def tw9779025561916404061:Unit:=()
def tw7166154651060411632:Unit:=()
def tw8309983149352089467:Unit:=()
def tw17581240713743842128:Unit:=()
def tw4342549919320276731:Unit:=()
def tw12049472357808413514:Unit:=()
def tw11253032945077985222:Unit:=()
def tw1451988189399938446:Unit:=()
def tw4576473787906178300:Unit:=()
def tw6840231661402965495:Unit:=()
def tw17652866516912254426:Unit:=()
def tw8365865333174936411:Unit:=()
def tw12743534707889562048:Unit:=()
end PySem.W.Fast
open PySem PySem.W PyProof.Rows
set_option maxRecDepth 100000 in
set_option maxHeartbeats 0 in
theorem PySem.Challenge.cw_bandwright_k24_whole_perfect_orders_alik_holds : PySem.Challenge.rw_bandwright_k24_whole_perfect_orders_alik.Holds := by
 w_on;o_law;k_head;(case hw=>w_witness2)
 k_fill
 refine My.walk (l:=PySem.Challenge.rw_bandwright_k24_whole_perfect_orders_alik) rfl rfl (fun w h Y=>PySem.W.km_in_of Y) (fun w h Y=>PySem.W.km_tabs_of Y 108 (dq.mpr rfl)) ?F
 case F=>
  intro w mg fa h KX G sV
  have T:∃t,My.Txt (L2.CK KX) mg t:=by
   dsimp only [L2.CK]
   refine' My.QF KX G ?Br (cz KX G ?Q8) (L2.cJ (st:=My.wW) ?Q9 ?Q_ ?Ra) (cz KX G ?Rb) (L2.cJ (st:=My.wX) ?Rc ?Rf ?Rg) (cz KX G ?Rh) (L2.cJ (st:=My.wY) ?Ri ?Rj ?Rk) (cz KX G ?Rm) (L2.cJ (st:=My.wZ) ?Rn ?Ro ?Rp) (cz KX G ?Rq) (L2.cJ (st:=My.w5) ?Rr ?Rt ?Ru) (cz KX G ?Rv) (L2.cJ (st:=My.w6) ?Rw ?Rx ?Ry) (cz KX G ?Rz) (L2.cJ (st:=My.w9) ?RA ?RB ?RC) (cz KX G ?RD) (L2.cJ (st:=My.w_) ?RE ?RG ?RH) (cz KX G ?RI) (L2.cJ (st:=My.xb) ?RJ ?RK ?RL) (cz KX G ?RM) (L2.cJ (st:=My.xc) ?RN ?RO ?RP) (cz KX G ?RQ) (L2.cJ (st:=My.xf) ?RS ?RT ?RU) (cz KX G ?RV) (L2.cJ (st:=My.xg) ?RW ?RX ?RY) (cz KX G ?RZ) (L2.cJ (st:=My.As) ?R0 ?R1 ?R3) (cz KX G ?R4) (L2.cJ (st:=My.Au) ?R5 ?R6 ?R7) (cz KX G ?R8) (L2.cJ (st:=My.Av) ?R9 ?R_ ?Sa) (cz KX G ?Sb) (L2.cJ (st:=My.Aw) ?Sd ?Se ?Sf) (cz KX G ?Sg) (L2.cJ (st:=My.xh) ?Sh ?Si ?Sj) (cz KX G ?Sk) (L2.cJ (st:=My.xi) ?Sl ?Sm ?Sn) (cz KX G ?So) (L2.cJ (st:=My.xj) ?Sq ?Ss ?Su) (cz KX G ?Sv) (L2.cJ (st:=My.xl) ?Sw ?Sx ?Sy) (cz KX G ?Sz) (L2.cJ (st:=My.xm) ?SA ?SD ?SE) (cz KX G ?SG) (L2.cJ (st:=My.xo) ?SH ?SI ?SJ) (cz KX G ?SK) (L2.cJ (st:=My.xq) ?SM ?SN ?SO) (cz KX G ?SQ) (L2.cJ (st:=My.xr) ?SR ?SS ?SV) (cz KX G ?SW) (L2.cJ (st:=My.xt) ?SX ?SY ?S0) (cz KX G ?S1) (L2.cJ (st:=My.xu) ?S2 ?S3 ?S4) (cz KX G ?S5) (L2.cJ (st:=My.xv) ?S6 ?S7 ?S8) (cz KX G ?S9) (L2.cJ (st:=My.xw) ?S_ ?Tc ?Td) ?Bs ?Bt ?Bu ?Bv ?Bw ?Bx ?By ?BA ?BB ?BC ?BD ?BE ?BF ?BG ?BH ?BI ?BJ ?BK ?BL ?BN ?BO
   (case Br|Q8|Q9|Q_|Ra|Rb|Rc|Rf|Rg|Rh|Ri|Rj|Rk|Rm|Rn|Ro|Rp|Rq|Rr|Rt|Ru|Rv|Rw|Rx|Ry|Rz|RA|RB|RC|RD|RE|RG|RH|RI|RJ|RK|RL|RM|RN|RO|RP|RQ|RS|RT|RU|RV|RW|RX|RY|RZ|R0|R1|R3|R4|R5|R6|R7|R8|R9|R_|Sa|Sb|Sd|Se|Sf|Sg|Sh|Si|Sj|Sk|Sl|Sm|Sn|So|Sq|Ss|Su|Sv|Sw|Sx|Sy|Sz|SA|SD|SE|SG|SH|SI|SJ|SK|SM|SN|SO|SQ|SR|SS|SV|SW|SX|SY|S0|S1|S2|S3|S4|S5|S6|S7|S8|S9|S_|Tc|Td|Bs|Bt|Bu|Bv|Bw|Bx|By|BA|BB|BC|BD|BE|BF|BG|BH|BI|BJ|BK=>k_is)
   (case BL=>k_exc)
   (case BN|BO=>kernel_rfl)
  obtain ⟨t,T⟩:=T
  have e0:=sV.symm.trans T.Fu
  cases e0
  exact My.QE T
#print axioms PySem.Challenge.cw_bandwright_k24_whole_perfect_orders_alik_holds
